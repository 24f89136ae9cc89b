/- The walk of the document's own answer for a term's text. -/
import Derived.Test.YtmnmjekpndeemaaGreatDoorTb
import Derived.Laws.Bits64
namespace Go.Proofs.YtmnmjekpndeemaaGreatDoor
open Go.RowKit Go.Maps Go.Shelf

theorem atZ_pz {l : List Int} {r : Int} (h : r ∈ l) : atZ l r = (pz r l : Nat) := by
  unfold atZ pz
  cases e : px r l with
  | none => exact absurd h (px_none.1 e)
  | some i => rfl

set_option maxRecDepth 100000 in
set_option maxHeartbeats 2000000 in
theorem refWrite_any {L : List Nd} (hL : WF L) (hs : L.length ≤ 65536) (lim : Int) (gr capr : Nat) (r : Int) (hr : hasB L.length r = true) (w : World) (hrow : rowAt w gr L) (hgr : gr < w.heap.size) :
    Calls Tryz.prog 22 #[.agg #[.int .i64 lim, .slice (some ⟨gr, 0, none⟩) L.length capr], .int .i64 r] w fun e w' => e = .returned (.string ⟨(txt L r).toArray⟩) ∧ Below w.heap.size w w' := by
  have hacc := rows_acc hL r
  have hord := rows_ord hL r
  have hno := nums_ok hL hs r
  have hRl := hacc.len
  obtain ⟨R, hR⟩ : ∃ R, R = rows L r := ⟨_, rfl⟩
  have HTX : Hid (txt L r = prn (R.map (rowN L R))) := Lib.hid (by rw [hR]; rfl)
  have HNO : Hid (∀ x ∈ R.map (rowN L R), Rok x) := Lib.hid (by rw [hR]; exact hno)
  have HRR : Hid (∀ W, Below w.heap.size w W → Calls Tryz.prog 41 #[.agg #[.int .i64 lim, .slice (some ⟨gr, 0, none⟩) L.length capr], .slice none 0 0, .int .i64 r] W fun e w' => ∃ v, e = .returned v ∧ w'.ownsRow W.heap.size 3 1 v R.length (R.map (Value.int .i64)) ∧ Below W.heap.size W w') := Lib.hid (fun W hW => by
    refine (refRows_any hL hs lim gr capr W.heap.size (by have := hW.size; omega) (r.toNat + 1) r [] (.slice none 0 0) W (by omega) hr (Acc.nil L) (hrow.keep (hW.block gr hgr)) (Nat.le_refl _) (World.ownsRow_nil _ _ _ _)).mono ?_
    rintro e w' ⟨v, rfl, ho, hf⟩
    rw [hR]
    exact ⟨v, rfl, ho, hf.below (Nat.le_refl _) (fun k e => by simp [Value.ownBlock] at e)⟩)
  have HHB := Lib.hid hr
  rw [← hR] at hacc hord hRl
  have HACC := Lib.hid hacc
  have HORD := Lib.hid hord
  have HROW := Lib.hid hrow
  have HL := Lib.hid hL
  clear hacc hord hno hR hL hrow hr
  go_enter Tryz.func22, Tryz.ntmps22
  go_wp2_with (first
    | (go_at_call 40; refine (refHas_any _ _ _ _ _ _).mono ?_; rintro e w1 ⟨rfl, hw1⟩; rw [HHB.out, ← hw1]; clear hw1)
    | (go_at_call 41; refine (HRR.out _ (((Below.refl _ _).alloc (Nat.le_refl _) _).alloc (by simp) _)).mono ?_; rintro e w3 ⟨v, rfl, ho, hb3⟩; obtain ⟨sp, cp, rfl⟩ := own_slice ho))
  have hbw3 : Below w.heap.size w w3 := (((Below.refl _ _).alloc (Nat.le_refl _) _).alloc (by simp) _).trans (hb3.mono (by simp; omega))
  have HBA : Hid (w3.heap[w.heap.size]? = some (.cells #[.int .i64 lim, .slice (some ⟨gr, 0, none⟩) L.length capr] 27 (0, 0))) := Lib.hid (by
    rw [hb3.block _ (by simp; omega), Below.heap_alloc _ _ _ (by simp)]; exact heap_alloc_new w _)
  have HO := Lib.hid ho
  have HB3 := Lib.hid hbw3
  clear ho hb3 hbw3
  go_loopg [6, 7, 8, 9] R.length (fun q u6 u7 _ _ wr => ∃ k : Nat, k + q = R.length ∧ u7 = .int .i64 k ∧ u6 = .string ⟨(prn ((R.take k).map (rowN L R))).toArray⟩ ∧ Below w3.heap.size w3 wr)
  case atStart => exact ⟨0, by omega, rfl, rfl, Below.refl _ _⟩
  case round =>
    obtain ⟨k, hkq, rfl, rfl, hbr⟩ := hrel
    have hb0 := HB3.out.trans (hbr.mono HB3.out.size)
    have hba := (hbr.block _ (lt_of_heap HBA.out)).trans HBA.out
    have x1 : wr.cell? ⟨w.heap.size, 1, none⟩ = some (.slice (some ⟨gr, 0, none⟩) L.length capr) := (cell_of_row wr _ 1 _ _ _ hba).trans rfl
    have hwl : w.heap.size < wr.heap.size := lt_of_heap hba
    by_cases hlt : k < R.length
    · have hx := List.getElem_mem hlt
      obtain ⟨i, hi⟩ : ∃ i : Nat, R[k] = (i : Int) := ⟨R[k].toNat, by have := hasB_iff.1 (HACC.out.has _ hx); omega⟩
      rw [hi] at hx
      have hil : i < L.length := by have := hasB_iff.1 (HACC.out.has _ hx); omega
      obtain ⟨gq, rfl⟩ : ∃ gq, sp = some ⟨gq, 0, none⟩ := by
        rcases HO.out.2 with ⟨h1, h2⟩ | ⟨gq, _, _, h1, _⟩
        · omega
        · exact ⟨gq, by injection h1⟩
      have hor := row_below HO.out hbr
      have cX : wr.cell? ⟨gq, k, none⟩ = some (.int .i64 (i : Int)) := by
        rw [hor.cellAt k (by omega)]
        simp [hlt, hi]
      have hri := (HROW.out.keep (hb0.block gr hgr)) i hil
      have hg := (right_iff.1 (HL.out.good i hil)).1
      have hnd := HL.out.ok i hil
      have hRN : rowN L R (i : Int) = (L.getD i zN).k.toNat :: (L.getD i zN).n.toNat :: (prt (L.getD i zN)).map (pz · R) := rfl
      obtain ⟨d, hd⟩ : ∃ d, d = L.getD i zN := ⟨_, rfl⟩
      have hpc : ∀ p ∈ prt (nd L (i : Int)), p ∈ R := fun p hp => HORD.out.closed hx hp
      rw [show nd L (i : Int) = d from hd.symm] at hpc
      rw [← hd] at hri hg hnd hRN
      obtain ⟨k1, n1, a1, b1, c1⟩ := d
      obtain ⟨kk, hkk, hk10⟩ : ∃ kk : Nat, k1 = kk ∧ kk < 10 := kind_nat hg
      subst hkk
      obtain ⟨nn, hnn, hn64⟩ : ∃ nn : Nat, n1 = nn ∧ nn < 18446744073709551616 := ⟨n1.toNat, by have := hnd.2.1; unfold u64ok at this; simp only at this; omega⟩
      subst hnn
      obtain ⟨r0, r1, r2, r3, r4⟩ := hri
      simp only at r0 r1 r2 r3 r4
      have hpl : many (kk : Int) = ((prt ⟨kk, nn, a1, b1, c1⟩).length : Nat) := (prt_length (d := ⟨kk, nn, a1, b1, c1⟩) hg).symm
      have hp3 := prt_len ⟨kk, nn, a1, b1, c1⟩
      have HPZ : Hid (∀ j : Nat, j < (prt ⟨kk, nn, a1, b1, c1⟩).length → partZ j a1 b1 c1 = (prt ⟨kk, nn, a1, b1, c1⟩).getD j 0) := Lib.hid (fun j hj => partZ_prt hj)
      obtain ⟨ps, hps⟩ : ∃ ps, ps = prt ⟨kk, nn, a1, b1, c1⟩ := ⟨_, rfl⟩
      rw [← hps] at hpl hp3 HPZ hRN hpc
      have HPL := Lib.hid hpl
      have HPC := Lib.hid hpc
      have HST : Hid (prn ((R.take (k + 1)).map (rowN L R)) = prn ((R.take k).map (rowN L R)) ++ (Lib.decDigits kk ++ (32 :: Lib.decDigits nn ++ (ps.map (pz · R)).flatMap (fun y => 32 :: Lib.decDigits y)) ++ [59])) := Lib.hid (by
        rw [List.take_succ_eq_append_getElem hlt, List.map_append, List.map_singleton, prn_snoc, hi, hRN]
        simp [rtx])
      have hbl := prn_len ((R.take k).map (rowN L R)) (fun x hx' => HNO.out x (by
        obtain ⟨y, hy, rfl⟩ := List.mem_map.1 hx'
        exact List.mem_map.2 ⟨y, List.mem_of_mem_take hy, rfl⟩))
      rw [List.length_map, List.length_take] at hbl
      obtain ⟨bs, hbs⟩ : ∃ bs, bs = prn ((R.take k).map (rowN L R)) := ⟨_, rfl⟩
      rw [← hbs] at hbl HST
      rw [← hbs]
      have hbl : bs.length ≤ 8388608 := by omega
      have hgl := World.block_lt_of_cell? wr ⟨gq, k, none⟩ cX
      have hgrl : gr < wr.heap.size := Nat.lt_of_lt_of_le hgr hb0.size
      have HBR := Lib.hid hbr
      have HOR := Lib.hid hor
      have hil2 : (i : Int) < (L.length : Int) := by omega
      clear hbr hor hg hnd hRN hd hps hbs hx hi hpl hpc hba hb0
      have hk64 : kk < 18446744073709551616 := by omega
      have hwr : IntKind.u64.wrap (kk : Int) = kk := (show ∀ k : Nat, k < 10 → IntKind.u64.wrap (k : Int) = k by decide) kk hk10
      have hdk := dec_len hk64
      have hdn := dec_len hn64
      have hc1 : ¬ 9223372036854775807 < bs.length + (Lib.decDigits kk).length := by omega
      have hc2 : ¬ 9223372036854775807 < bs.length + (Lib.decDigits kk).length + 1 := by omega
      have hc3 : ¬ 9223372036854775807 < bs.length + (Lib.decDigits kk).length + 1 + (Lib.decDigits nn).length := by omega
      go_wp2_with fail
      go_region
      go_wp2_with fail
      go_region_held3 (fun w' => w'.cell? ⟨wr.heap.size, 0, none⟩ = some (.int .i64 (kk : Int)) ∧ w'.cell? ⟨wr.heap.size, 1, none⟩ = some (.int .u64 (nn : Int))) (go_keep)
        (first
          | (go_at_call 42; refine (digits_any _ (by first | exact hk64 | exact hn64) _).mono ?_; rintro e w' ⟨rfl, hw'⟩; rw [hw']; clear hw'))
      obtain ⟨X, hX⟩ : ∃ X, X = (wr.alloc (.cells #[.int .i64 (kk : Int), .int .u64 (nn : Int), .int .i64 a1, .int .i64 b1, .int .i64 c1] 48)).drew.drew := ⟨_, rfl⟩
      have HBX : Hid (Below wr.heap.size wr X) := Lib.hid (by rw [hX]; exact ((Below.refl _ _).alloc (Nat.le_refl _) _).drew.drew)
      have HND : Hid (X.heap[wr.heap.size]? = some (.cells #[.int .i64 (kk : Int), .int .u64 (nn : Int), .int .i64 a1, .int .i64 b1, .int .i64 c1] 48 (0, 0))) := Lib.hid (by rw [hX]; exact heap_alloc_new wr _)
      obtain ⟨T, hT⟩ : ∃ T : ByteArray, T = (⟨bs.toArray⟩ ++ ⟨(Lib.decDigits kk).toArray⟩ ++ ⟨#[32]⟩ ++ ⟨(Lib.decDigits nn).toArray⟩ : ByteArray) := ⟨_, rfl⟩
      have HT : Hid (T.data.toList = bs ++ Lib.decDigits kk ++ 32 :: Lib.decDigits nn) := Lib.hid (by rw [hT]; simp)
      rw [← hX, ← hT]
      obtain ⟨nb, hnb⟩ : ∃ nb, nb = wr.heap.size := ⟨_, rfl⟩
      rw [← hnb] at HND HBX
      rw [← hnb]
      have HNB := Lib.hid hnb
      clear hX hT hnb r0 r1 r2 r3 r4 cX x1 hc1 hc2 hc3
      go_wp2_with fail
      go_loopg [6, 9] ps.length (fun q u6 u9 wq => ∃ (j : Nat) (U : ByteArray), j + q = ps.length ∧ u9 = .int .i64 j ∧ u6 = .string U ∧ U.data.toList = bs ++ Lib.decDigits kk ++ 32 :: Lib.decDigits nn ++ ((ps.take j).map (pz · R)).flatMap (fun y => 32 :: Lib.decDigits y) ∧ Below X.heap.size X wq)
      case atStart => exact ⟨0, T, by omega, rfl, rfl, by simpa using HT.out, Below.refl _ _⟩
      case round =>
        obtain ⟨j, U, hjq, rfl, rfl, hU, hbq⟩ := hrel
        have hbn := (hbq.block _ (lt_of_heap HND.out)).trans HND.out
        have y0 : wr.cell? ⟨nb, 0, none⟩ = some (.int .i64 (kk : Int)) := (cell_of_row wr _ 0 _ _ _ hbn).trans rfl
        have y1 : wr.cell? ⟨nb, 1, none⟩ = some (.int .u64 (nn : Int)) := (cell_of_row wr _ 1 _ _ _ hbn).trans rfl
        have y2 : wr.cell? ⟨nb, 2, none⟩ = some (.int .i64 a1) := (cell_of_row wr _ 2 _ _ _ hbn).trans rfl
        have y3 : wr.cell? ⟨nb, 3, none⟩ = some (.int .i64 b1) := (cell_of_row wr _ 3 _ _ _ hbn).trans rfl
        have y4 : wr.cell? ⟨nb, 4, none⟩ = some (.int .i64 c1) := (cell_of_row wr _ 4 _ _ _ hbn).trans rfl
        have hnbl := lt_of_heap hbn
        have hml := flat_len ((ps.take j).map (pz · R)) (fun x hx => by
          obtain ⟨y, _, rfl⟩ := List.mem_map.1 hx
          have := pz_le y R; omega)
        rw [List.length_map, List.length_take] at hml
        have hUs : U.size ≤ 8388800 := by
          rw [Lib.size_eq, hU]
          simp only [List.length_append, List.length_cons]
          omega
        have hHB := HBX.out.trans (hbq.mono (by have h1 := HBX.out.size; have h2 := HNB.out; omega))
        have HHB := Lib.hid hHB
        have HBQ := Lib.hid hbq
        have HU := Lib.hid hU
        by_cases hjl : j < ps.length
        · obtain ⟨p, hpe⟩ : ∃ p, p = ps.getD j 0 := ⟨_, rfl⟩
          have hpm : p ∈ ps := by rw [hpe, List.getD_eq_getElem?_getD, List.getElem?_eq_getElem hjl]; simp
          have hpR := HPC.out p hpm
          have HPZ2 : Hid (partZ (j : Int) a1 b1 c1 = p) := Lib.hid (by rw [HPZ.out j hjl, hpe])
          have HAT : Hid (∀ W, Below wr.heap.size wr W → Calls Tryz.prog 43 #[.slice (some ⟨gq, 0, none⟩) R.length cp, .int .i64 p] W fun e w' => e = .returned (.int .i64 (pz p R : Nat)) ∧ W = w') := Lib.hid (fun W hW => by
            have := at_any _ _ R (by omega) p W (row_below (row_below HOR.out (by have h := HHB.out; rw [HNB.out] at h; exact h)) hW)
            rw [atZ_pz hpR] at this; exact this)
          obtain ⟨z, hz⟩ : ∃ z, z = pz p R := ⟨_, rfl⟩
          have hz5 : z ≤ 65536 := by rw [hz]; have := pz_le p R; omega
          rw [← hz] at HAT
          have hz64 : z < 18446744073709551616 := by omega
          have hwz : IntKind.u64.wrap (z : Int) = z := by rw [IntKind.wrap_u64]; omega
          have hdz := dec_len hz64
          have hc1 : ¬ 9223372036854775807 < U.size + 1 := by omega
          have hc2 : ¬ 9223372036854775807 < U.size + 1 + (Lib.decDigits z).length := by omega
          have HNX : Hid ((U ++ ⟨#[32]⟩ ++ ⟨(Lib.decDigits z).toArray⟩ : ByteArray).data.toList = bs ++ Lib.decDigits kk ++ 32 :: Lib.decDigits nn ++ ((ps.take (j + 1)).map (pz · R)).flatMap (fun y => 32 :: Lib.decDigits y)) := Lib.hid (by
            rw [List.take_succ_eq_append_getElem hjl, List.map_append, List.flatMap_append, hz, hpe, List.getD_eq_getElem?_getD, List.getElem?_eq_getElem hjl]
            simp [hU])
          clear hpe hpm hpR hz hU hbq hHB hbn hml
          go_wp2_with (first
            | (go_at_call 39; refine (many_any _ _).mono ?_; rintro e w' ⟨rfl, hw'⟩; rw [← hw', HPL.out]; clear hw')
            | (go_at_call 44; refine (part2_any _ _ _ _ _ _ _).mono ?_; rintro e w5 ⟨rfl, hw5⟩; rw [HPZ2.out, ← hw5]; clear hw5)
            | (go_at_call 43; refine (HAT.out _ ((Below.refl _ _).alloc (Nat.le_refl _) _)).mono ?_; rintro e w6 ⟨rfl, hw6⟩; rw [← hw6]; clear hw6)
            | (go_at_call 42; refine (digits_any z hz64 _).mono ?_; rintro e w7 ⟨rfl, hw7⟩; rw [hw7]; clear hw7))
          go_roundg (ps.length - (j + 1))
          case rel => exact ⟨j + 1, _, by omega, by simp, rfl, HNX.out, HBQ.out.trans (((Below.refl _ _).alloc (Nat.le_refl _) _).mono HBQ.out.size)⟩
          case measure => omega
        · obtain rfl : j = ps.length := by omega
          have HFI : Hid (∀ V : ByteArray, V = U ++ ⟨#[59]⟩ → V = ⟨(prn ((R.take (k + 1)).map (rowN L R))).toArray⟩) := Lib.hid (fun V hV => by
            rw [hV, HST.out]
            apply ByteArray.ext
            apply Array.ext'
            simp [hU])
          have hc1 : ¬ 9223372036854775807 < U.size + 1 := by omega
          clear hU hbq hHB hbn hml
          go_wp2_with (go_at_call 39; refine (many_any _ _).mono ?_; rintro e w' ⟨rfl, hw'⟩; rw [← hw', HPL.out]; clear hw')
          go_roundg (R.length - (k + 1))
          case rel => exact ⟨k + 1, by omega, by simp, by rw [← HFI.out _ rfl], HBR.out.trans (by have h := HHB.out; rw [HNB.out] at h; exact h.mono HBR.out.size)⟩
          case measure => omega
    · obtain rfl : k = R.length := by omega
      rw [List.take_length, ← HTX.out]
      clear hbr hba x1
      go_wp2_with fail
      go_ret
      exact ⟨rfl, hb0⟩
end Go.Proofs.YtmnmjekpndeemaaGreatDoor
