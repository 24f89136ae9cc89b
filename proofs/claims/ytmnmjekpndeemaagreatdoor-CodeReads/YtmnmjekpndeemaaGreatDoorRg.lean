/- The walk of a term's text (Write). -/
import Derived.Test.YtmnmjekpndeemaaGreatDoorRf
namespace Go.Proofs.YtmnmjekpndeemaaGreatDoor
open Go.RowKit Go.Maps Go.Shelf

theorem Tryz.info5 : (Tryz.prog.info? 5).map (fun i => (i.zero, i.size, i.bytes)) = some (some (.int .u8 0), 1, 1) := by kernel_rfl

theorem dec_len {u : Nat} (h : u < 18446744073709551616) : (Lib.decDigits u).length ≤ 20 := by rw [Lib.decDigits_length]; exact Lib.nDigits_le20 u h
theorem flat_len : ∀ (l : List Nat), (∀ x ∈ l, x < 18446744073709551616) → (l.flatMap (fun y => 32 :: Lib.decDigits y)).length ≤ 21 * l.length
  | [], _ => by simp
  | x :: l, h => by
    have h1 := dec_len (h x (by simp))
    have h2 := flat_len l (fun y hy => h y (by simp [hy]))
    simp only [List.flatMap_cons, List.length_append, List.length_cons]
    omega
/-- What the numbers of a row are. -/
def Rok (l : List Nat) : Prop := l.length ≤ 5 ∧ ∀ x ∈ l, x < 18446744073709551616
theorem rtx_len {l : List Nat} (h : Rok l) : (rtx l).length ≤ 128 := by
  obtain ⟨h1, h2⟩ := h
  cases l with
  | nil => simp [rtx]
  | cons x l =>
    have h3 := dec_len (h2 x (by simp))
    have h4 := flat_len l (fun y hy => h2 y (by simp [hy]))
    simp only [List.length_cons] at h1
    unfold rtx
    simp only [List.length_append, List.length_cons, List.length_nil]
    omega
theorem prn_len : ∀ (l : List (List Nat)), (∀ x ∈ l, Rok x) → (prn l).length ≤ 128 * l.length
  | [], _ => by simp [prn]
  | x :: l, h => by
    have h1 := rtx_len (h x (by simp))
    have h2 := prn_len l (fun y hy => h y (by simp [hy]))
    unfold prn at *
    simp only [List.flatMap_cons, List.length_append, List.length_cons]
    omega
theorem row_ok {L : List Nd} (hw : WF L) (hs : L.length ≤ 65536) {R : List Int} (hR : Acc L R) {r : Int} (hr : hasB L.length r = true) : Rok (rowN L R r) := by
  have h0 := hasB_iff.1 hr
  have hok := hw.ok r.toNat (by omega)
  rw [show L.getD r.toNat zN = nd L r from rfl] at hok
  obtain ⟨hk, hn, _⟩ := hok
  unfold i64ok at hk
  unfold u64ok at hn
  refine ⟨by have := prt_len (nd L r); simp [rowN]; omega, fun x hx => ?_⟩
  unfold rowN at hx
  simp only [List.mem_cons, List.mem_map] at hx
  rcases hx with rfl | rfl | ⟨p, _, rfl⟩
  · omega
  · omega
  · have := pz_le p R
    have := hR.len
    omega
theorem nums_ok {L : List Nd} (hw : WF L) (hs : L.length ≤ 65536) (r : Int) : ∀ x ∈ nums L r, Rok x := by
  intro x hx
  obtain ⟨y, hy, rfl⟩ := List.mem_map.1 hx
  exact row_ok hw hs (rows_acc hw r) ((rows_acc hw r).has y hy)
theorem prn_snoc (l : List (List Nat)) (x : List Nat) : prn (l ++ [x]) = prn l ++ rtx x := by simp [prn]

theorem conv_any {B : Nat} {w : World} {v : Value} {l : List UInt8} (h : Tx B w v l) : (convert 66 9 v).run Tryz.prog w = .ok (.string ⟨l.toArray⟩) w := by
  rcases h.2 with ⟨rfl, h0⟩ | ⟨g, cap, cur, rfl, _⟩
  · obtain rfl := List.length_eq_zero_iff.1 h0
    rw [run_convert_bytes_string w 66 9 5 none 0 0 Tryz.underlying66 Tryz.underlying5 Tryz.underlying9]
    rfl
  · refine run_convert_bytes_back w 66 9 5 ⟨g, 0, none⟩ cap l Tryz.underlying66 Tryz.underlying5 Tryz.underlying9 fun j hj => ?_
    rw [add_off, World.ownsRow.cellAt h j (by omega)]
    simp [Lib.byteCells, hj]

set_option maxRecDepth 100000 in
set_option maxHeartbeats 4000000 in
theorem write_any {b g bm cap lim : Nat} {L : List Nd} (r : Int) (hr : i64ok r) (w : World) (hE : Env w) (hA : Ar w b g bm cap lim L) :
    Calls Tryz.prog 11 #[.pointer (some ⟨b, 0, none⟩), .int .i64 r] w fun e w' => e = .returned (.string ⟨(txt L r).toArray⟩) ∧ Below w.heap.size w w' := by
  have HC := Lib.hid (collect_any r hr w hE hA)
  have hwf := hA.wf
  have hsm := hA.small
  have hacc := rows_acc hwf r
  have hno := nums_ok hwf hsm r
  have hln : (nums L r).length = (rows L r).length := by simp [nums]
  have hRl := hacc.len
  obtain ⟨R, hR⟩ : ∃ R, R = rows L r := ⟨_, rfl⟩
  have HTX : Hid (txt L r = prn (R.map (rowN L R))) := Lib.hid (by rw [hR]; rfl)
  have HNO : Hid (∀ x ∈ R.map (rowN L R), Rok x) := Lib.hid (by rw [hR]; exact hno)
  rw [← hR] at hacc hRl
  unfold CPost at HC
  rw [← hR] at HC
  have HACC := Lib.hid hacc
  have HWF := Lib.hid hwf
  have HE := Lib.hid hE
  have HA := Lib.hid hA
  clear hE hA hwf hacc hno hln hR
  obtain ⟨i0, hi0, hz0, hz1, hz2⟩ := info_parts Tryz.info5
  go_enter Tryz.func11, Tryz.ntmps11
  go_wp2_with (go_at_call 23; refine HC.out.mono ?_; rintro e w1 ⟨v, mm, rfl, ho, hm, hge, hb⟩; obtain ⟨sp, cp, rfl⟩ := own_slice ho)
  go_loopg [7, 9, 10, 11, 13, 22] R.length (fun q u7 _ _ _ _ u22 wr => ∃ k : Nat, k + q = R.length ∧ u22 = .int .i64 k ∧ Tx w.heap.size wr u7 (prn ((R.take k).map (rowN L R))) ∧ Fr w.heap.size w1 wr)
  case atStart => exact ⟨0, by omega, rfl, by simpa [prn] using Tx.nil _ _, Fr.refl _ _⟩
  case round =>
    obtain ⟨k, hkq, rfl, htx, hfr⟩ := hrel
    by_cases hlt : k < R.length
    · have hx := List.getElem_mem hlt
      obtain ⟨i, hi⟩ : ∃ i : Nat, R[k] = (i : Int) := ⟨R[k].toNat, by have := hasB_iff.1 (HACC.out.has _ hx); omega⟩
      rw [hi] at hx
      have hil : i < L.length := by have := hasB_iff.1 (HACC.out.has _ hx); omega
      have hB1 : Below w.heap.size w wr := hb.trans hfr.bel
      obtain ⟨gr, rfl⟩ : ∃ gr, sp = some ⟨gr, 0, none⟩ := by
        rcases ho.2 with ⟨h1, h2⟩ | ⟨gr, _, _, h1, _⟩
        · omega
        · exact ⟨gr, by injection h1⟩
      have cX : wr.cell? ⟨gr, k, none⟩ = some (.int .i64 (i : Int)) := by
        rw [(hfr.row ho (by decide)).cellAt k (by omega)]
        simp [hlt, hi]
      have hG := get_yes b g bm cap lim L i hil wr (HA.out.below hB1)
      have hg := (right_iff.1 (HWF.out.good i hil)).1
      have hnd := HWF.out.ok i hil
      have hRN : rowN L R (i : Int) = (L.getD i zN).k.toNat :: (L.getD i zN).n.toNat :: (prt (L.getD i zN)).map (pz · R) := rfl
      obtain ⟨d, hd⟩ : ∃ d, d = L.getD i zN := ⟨_, rfl⟩
      rw [← hd] at hG hg hnd hRN
      obtain ⟨k1, n1, a1, b1, c1⟩ := d
      obtain ⟨kk, hkk, hk10⟩ : ∃ kk : Nat, k1 = kk ∧ kk < 10 := kind_nat hg
      subst hkk
      obtain ⟨nn, hnn, hn64⟩ : ∃ nn : Nat, n1 = nn ∧ nn < 18446744073709551616 := ⟨n1.toNat, by have := hnd.2.1; unfold u64ok at this; simp only at this; omega⟩
      subst hnn
      obtain ⟨ps, hps⟩ : ∃ ps, ps = prt ⟨kk, nn, a1, b1, c1⟩ := ⟨_, rfl⟩
      have HPS := Lib.hid hps
      have hpl : ps.length ≤ 3 := by rw [hps]; exact prt_len _
      rw [← hps] at hRN
      have HPI : Hid (∀ p ∈ ps, i64ok p) := Lib.hid (fun p hp => by
        have hp' := prt_in HWF.out (r := (i : Int)) (hasB_iff.2 ⟨by omega, by omega⟩) (p := p) (by rw [nd_cast, ← hd, ← hps]; exact hp)
        unfold i64ok; omega)
      have HST : Hid (prn ((R.take (k + 1)).map (rowN L R)) = prn ((R.take k).map (rowN L R)) ++ (Lib.decDigits kk ++ (32 :: Lib.decDigits nn ++ (ps.map (pz · R)).flatMap (fun y => 32 :: Lib.decDigits y)) ++ [59])) := Lib.hid (by
        rw [List.take_succ_eq_append_getElem hlt, List.map_append, List.map_singleton, prn_snoc, hi, hRN]
        simp [rtx])
      have HPZ : Hid (∀ p, pz p R ≤ 65536) := Lib.hid (fun p => by have := pz_le p R; omega)
      have hbl := prn_len ((R.take k).map (rowN L R)) (fun x hx' => HNO.out x (by
        obtain ⟨y, hy, rfl⟩ := List.mem_map.1 hx'
        exact List.mem_map.2 ⟨y, List.mem_of_mem_take hy, rfl⟩))
      rw [List.length_map, List.length_take] at hbl
      obtain ⟨bs, hbs⟩ : ∃ bs, bs = prn ((R.take k).map (rowN L R)) := ⟨_, rfl⟩
      rw [← hbs] at hbl htx HST
      have hbl : bs.length ≤ 8388608 := by omega
      have hdk := dec_len (u := kk) (by omega)
      have hdn := dec_len hn64
      have hszw := hB1.size
      unfold agg at hG
      simp only at hG
      have HG := Lib.hid hG
      have HTX0 := Lib.hid htx
      have HFR := Lib.hid hfr
      have HB1 := Lib.hid hB1
      have HMZ := Lib.hid (hfr.map hm)
      have HHO := Lib.hid ho
      have HHM := Lib.hid hm
      clear hG hg hnd hRN hd hps hbs htx hfr hB1 hx ho hm hge hi
      go_wp2_with (go_at_call 20; refine HG.out.mono ?_; rintro e w2 ⟨rfl, hb2⟩)
      have HX : Hid (Below wr.heap.size wr (w2.alloc (.cells #[.int .i64 (kk : Int), .int .u64 (nn : Int), .int .i64 a1, .int .i64 b1, .int .i64 c1] 44))) := Lib.hid (hb2.alloc hb2.size _)
      have HBX : Hid ((w2.alloc (.cells #[.int .i64 (kk : Int), .int .u64 (nn : Int), .int .i64 a1, .int .i64 b1, .int .i64 c1] 44)).heap[w2.heap.size]? = some (.cells #[.int .i64 (kk : Int), .int .u64 (nn : Int), .int .i64 a1, .int .i64 b1, .int .i64 c1] 44 (0, 0))) := Lib.hid (heap_alloc_new w2 _)
      have HC3 := Lib.hid (appendInt_any w.heap.size kk (by omega) _ bs w _ HE.out rfl (HB1.out.trans (HX.out.mono HB1.out.size)) (HTX0.out.keep HX.out) (by omega))
      have hszX := HX.out.size
      clear hb2
      go_wp2_with (first
        | (go_at_call 24; refine HC3.out.mono ?_; rintro e w3 ⟨v3, l3, rfl, HL3, ht3, hf3⟩; obtain ⟨sp3, cp3, rfl⟩ := own_slice ht3)
        | (at_builtin; refine wpList_append_own _ rfl _ _ 66 rfl w.heap.size 5 i0 (.int .u8 0) 1 1 Tryz.underlying66 hi0 hz0 hz1 hz2 rfl (by decide) _ _ _ rfl (World.ownsRow.alloc ht3 _) ⟨w3.heap.size, 0, none⟩ 1 1 [.int .u8 32] rfl rfl ?c1a ?c2a ?c3a ?c4a ?c5a ?_))
      case c1a =>
        intro j u hj
        match j, hj with
        | 0, hj => simp at hj; subst hj; simp [Addr.add]
      case c2a => intro u hu; simp at hu; subst hu; rfl
      case c3a => unfold maxLen; have := congrArg List.length HL3.out; simp only [List.length_append] at this; omega
      case c4a => have := congrArg List.length HL3.out; simp only [List.length_append] at this; omega
      case c5a => have := hf3.bel.size; simp; omega
      intro v4 w4 hown4 hgr4 _
      have hb3 : Below w.heap.size w w3 := (HB1.out.trans (HX.out.mono HB1.out.size)).trans hf3.bel
      obtain ⟨ht4, hf4⟩ := Tx.byte (c := 32) hb3.size ht3 ((Below.refl _ _).alloc (Nat.le_refl _) _) hown4 hgr4
      obtain ⟨l4, hl4⟩ : ∃ l, l = l3 ++ [32] := ⟨_, rfl⟩
      rw [← hl4] at ht4
      have HL4 : Hid (l4 = bs ++ Lib.decDigits kk ++ [32]) := Lib.hid (by rw [hl4, HL3.out])
      clear hl4
      have hbx4 := (hf3.trans hf4).cells HBX.out (by decide)
      have y1 : w4.cell? ⟨w2.heap.size, 1, none⟩ = some (.int .u64 (nn : Int)) := by rw [cell_of_row w4 _ 1 _ _ _ hbx4]; rfl
      have HC5 := Lib.hid (appendUint_any w.heap.size nn hn64 v4 _ w w4 HE.out rfl (hb3.trans hf4.bel) ht4 (by have := congrArg List.length HL4.out; simp only [List.length_append, List.length_cons, List.length_nil] at this; omega))
      have HF4 := Lib.hid (hf3.trans hf4)
      have HT4 := Lib.hid ht4
      have HY : Hid (∀ w5, Fr w.heap.size w4 w5 → w5.heap[w2.heap.size]? = some (.cells #[.int .i64 (kk : Int), .int .u64 (nn : Int), .int .i64 a1, .int .i64 b1, .int .i64 c1] 44 (0, 0)) ∧ w5.cell? ⟨w2.heap.size, 0, none⟩ = some (.int .i64 (kk : Int)) ∧ w5.cell? ⟨w2.heap.size, 1, none⟩ = some (.int .u64 (nn : Int)) ∧ w5.cell? ⟨w2.heap.size, 2, none⟩ = some (.int .i64 a1) ∧ w5.cell? ⟨w2.heap.size, 3, none⟩ = some (.int .i64 b1) ∧ w5.cell? ⟨w2.heap.size, 4, none⟩ = some (.int .i64 c1)) := Lib.hid (fun w5 h5 => by
        have h := h5.cells hbx4 (by decide)
        exact ⟨h, (cell_of_row w5 _ 0 _ _ _ h).trans rfl, (cell_of_row w5 _ 1 _ _ _ h).trans rfl, (cell_of_row w5 _ 2 _ _ _ h).trans rfl, (cell_of_row w5 _ 3 _ _ _ h).trans rfl, (cell_of_row w5 _ 4 _ _ _ h).trans rfl⟩)
      have HB4 := Lib.hid (hb3.trans hf4.bel)
      have HE5 : Hid (∀ w5, Fr w.heap.size w4 w5 → Env w5) := Lib.hid (fun w5 h5 => HE.out.below (HB4.out.trans h5.bel))
      clear hown4 hgr4 ht4 hf4 hbx4 hb3 ht3 hf3
      obtain ⟨sp4, cp4, rfl⟩ := own_slice HT4.out
      go_wp2_with (first
        | (go_at_call 25; refine HC5.out.mono ?_; rintro e w5 ⟨v5, l5, rfl, HL5, ht5, hf5⟩; obtain ⟨hbx5, y0, y2, y3, y4, y5⟩ := HY.out _ hf5)
        | (go_at_call 26; refine (parts_any kk hk10 nn a1 b1 c1 _ (HE5.out _ hf5)).mono ?_; rintro e w6 ⟨s, rfl, hs6, ht6, hb6⟩; rw [← HPS.out]))
      have hz5 := hf5.bel.size
      have HTX6 := Lib.hid (ht5.keep hb6)
      have HT6 := Lib.hid ht6
      have HF6 : Hid (Fr w.heap.size wr w6) := Lib.hid ((((Fr.of HB1.out.size HX.out).trans HF4.out).trans hf5).trans (Fr.of (Nat.le_trans HB4.out.size hf5.bel.size) hb6))
      have HL6 : Hid (l5 = bs ++ Lib.decDigits kk ++ 32 :: Lib.decDigits nn) := Lib.hid (by rw [HL5.out, HL4.out]; simp)
      clear ht5 ht6 hf5 hb6 hbx5 y0 y1 y2 y3 y4 y5 hs6 HY HE5 HB4 HF4 HT4 HC5 HC3 HG cX
      go_loopg [7, 13, 46] ps.length (fun q u7 _ u46 wq => ∃ j : Nat, j + q = ps.length ∧ u46 = .int .i64 j ∧ Tx w.heap.size wq u7 (l5 ++ ((ps.take j).map (pz · R)).flatMap (fun y => 32 :: Lib.decDigits y)) ∧ Fr w.heap.size w6 wq)
      case atStart => exact ⟨0, by omega, rfl, by simpa using HTX6.out, Fr.refl _ _⟩
      case round =>
        obtain ⟨j, hjq, rfl, htq, hfq⟩ := hrel
        have hFq := HF6.out.trans hfq
        have hBq := HB1.out.trans hFq.bel
        have hml := flat_len ((ps.take j).map (pz · R)) (fun x hx => by
          obtain ⟨y, _, rfl⟩ := List.mem_map.1 hx
          have := HPZ.out y; omega)
        rw [List.length_map, List.length_take] at hml
        obtain ⟨lq, hlq⟩ : ∃ l, l = l5 ++ ((ps.take j).map (pz · R)).flatMap (fun y => 32 :: Lib.decDigits y) := ⟨_, rfl⟩
        have hq1 : lq.length ≤ 8388608 + 128 := by
          have h6 := congrArg List.length HL6.out
          rw [hlq]
          simp only [List.length_append, List.length_cons] at h6 ⊢
          omega
        rw [← hlq] at htq
        have HLQ := Lib.hid hlq
        have HFQ := Lib.hid hfq
        have hsq := hBq.size
        by_cases hjl : j < ps.length
        · obtain ⟨p, hp⟩ : ∃ p, p = ps.getD j 0 := ⟨_, rfl⟩
          have hpm : p ∈ ps := by rw [hp, List.getD_eq_getElem?_getD, List.getElem?_eq_getElem hjl]; simp
          have cS : wr.cell? ⟨s, j, none⟩ = some (.int .i64 p) := by
            have h := hfq.cells HT6.out (by decide)
            have h2 := tri_at (k := (kk : Int)) (n := (nn : Int)) (w := wr) (s := s) (a := a1) (b := b1) (c := c1) h (i := j) (by rw [← HPS.out]; exact hjl)
            rw [← HPS.out, ← hp] at h2
            exact h2
          have HNX : Hid (lq ++ 32 :: Lib.decDigits (pz p R) = l5 ++ ((ps.take (j + 1)).map (pz · R)).flatMap (fun y => 32 :: Lib.decDigits y)) := Lib.hid (by
            rw [List.take_succ_eq_append_getElem hjl, List.map_append, List.flatMap_append, hlq, hp, List.getD_eq_getElem?_getD, List.getElem?_eq_getElem hjl]
            simp)
          have HMQ := Lib.hid (hFq.map HMZ.out)
          have HPP := Lib.hid (HPI.out p hpm)
          have HBQ := Lib.hid hBq
          clear hlq hp hpm hfq hFq hBq
          go_wp2_with (at_builtin; refine wpList_append_own _ rfl _ _ 66 rfl w.heap.size 5 i0 (.int .u8 0) 1 1 Tryz.underlying66 hi0 hz0 hz1 hz2 rfl (by decide) _ _ _ rfl (World.ownsRow.alloc htq _) ⟨wr.heap.size, 0, none⟩ 1 1 [.int .u8 32] rfl rfl ?c1b ?c2b ?c3b ?c4b ?c5b ?_)
          case c1b =>
            intro j u hj
            match j, hj with
            | 0, hj => simp at hj; subst hj; simp [Addr.add]
          case c2b => intro u hu; simp at hu; subst hu; rfl
          case c3b => unfold maxLen; skip; omega
          case c4b => skip; omega
          case c5b => have := hsq; simp; omega
          intro v7 w7 hown7 hgr7 _
          obtain ⟨ht7, hf7⟩ := Tx.byte (c := 32) hsq htq ((Below.refl _ _).alloc (Nat.le_refl _) _) hown7 hgr7
          have hlk := (hf7.map HMQ.out).look1 HPP.out
          rw [place_get] at hlk
          have HC8 := Lib.hid (appendInt_any w.heap.size (pz p R) (by have := HPZ.out p; omega) v7 _ w w7 HE.out rfl (HBQ.out.trans hf7.bel) ht7 (by simp only [List.length_append, List.length_cons, List.length_nil]; omega))
          have HF7 := Lib.hid hf7
          clear ht7 hf7 hown7 hgr7
          go_wp2_with (go_at_call 24; refine HC8.out.mono ?_; rintro e w8 ⟨v8, l8, rfl, HL8, ht8, hf8⟩)
          go_roundg (ps.length - (j + 1))
          case rel => exact ⟨j + 1, by omega, by simp, by rw [← HNX.out]; rw [HL8.out] at ht8; simpa using ht8, (HFQ.out.trans HF7.out).trans hf8⟩
          case measure => omega
        · obtain rfl : j = ps.length := by omega
          have HFW := Lib.hid (HFR.out.trans hFq)
          clear hlq hfq hFq hBq
          go_wp2_with (at_builtin; refine wpList_append_own _ rfl _ _ 66 rfl w.heap.size 5 i0 (.int .u8 0) 1 1 Tryz.underlying66 hi0 hz0 hz1 hz2 rfl (by decide) _ _ _ rfl (World.ownsRow.alloc htq _) ⟨wr.heap.size, 0, none⟩ 1 1 [.int .u8 59] rfl rfl ?c1d ?c2d ?c3d ?c4d ?c5d ?_)
          case c1d =>
            intro j u hj
            match j, hj with
            | 0, hj => simp at hj; subst hj; simp [Addr.add]
          case c2d => intro u hu; simp at hu; subst hu; rfl
          case c3d => unfold maxLen; skip; omega
          case c4d => skip; omega
          case c5d => have := hsq; simp; omega
          intro v9 w9 hown9 hgr9 _
          obtain ⟨ht9, hf9⟩ := Tx.byte (c := 59) hsq htq ((Below.refl _ _).alloc (Nat.le_refl _) _) hown9 hgr9
          have HT9 := Lib.hid ht9
          have HF9 := Lib.hid hf9
          clear ht9 hf9 hown9 hgr9
          go_wp2_with fail
          go_roundg (R.length - (k + 1))
          case rel => exact ⟨k + 1, by omega, by simp, by
            rw [HST.out]
            have h := HT9.out
            rw [HLQ.out, HL6.out, List.take_length] at h
            simpa using h, HFW.out.trans HF9.out⟩
          case measure => omega
    · obtain rfl : k = R.length := by omega
      have hcv := conv_any htx
      rw [List.take_length, ← HTX.out] at hcv
      have HBE := Lib.hid (hb.trans hfr.bel)
      clear htx hfr ho hm hge hb
      go_wp2_with fail
      go_ret
      exact ⟨rfl, HBE.out⟩
end Go.Proofs.YtmnmjekpndeemaaGreatDoor
