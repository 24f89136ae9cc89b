/- The walk of the document's own answer for a term's rows. -/
import Derived.Test.YtmnmjekpndeemaaGreatDoorTa
namespace Go.Proofs.YtmnmjekpndeemaaGreatDoor
open Go.RowKit Go.Maps Go.Shelf

/-- What the reference's rows leave as it was: all but the list's own row. -/
structure FrR (w w' : World) (v v' : Value) : Prop where
  os : w'.os = w.os
  tape : w'.tape = w.tape
  output : w'.output = w.output
  size : w.heap.size ≤ w'.heap.size
  kept : ∀ k, k < w.heap.size → v.ownBlock ≠ some k → w'.heap[k]? = w.heap[k]?
  at_ : ∀ k, v'.ownBlock = some k → v.ownBlock = some k ∨ w.heap.size ≤ k
theorem FrR.refl (w : World) (v : Value) : FrR w w v v := ⟨rfl, rfl, rfl, Nat.le_refl _, fun _ _ _ => rfl, fun _ h => .inl h⟩
theorem FrR.of {w w' : World} {v : Value} (h : Below w.heap.size w w') : FrR w w' v v := ⟨h.os, h.tape, h.output, h.size, fun k hk _ => h.block k hk, fun _ h => .inl h⟩
theorem FrR.trans {w w1 w2 : World} {v v1 v2 : Value} (h : FrR w w1 v v1) (h' : FrR w1 w2 v1 v2) : FrR w w2 v v2 := by
  have hs := h.size
  have hs' := h'.size
  refine ⟨h'.os.trans h.os, h'.tape.trans h.tape, h'.output.trans h.output, by omega, fun k hk n3 => ?_, fun k hk => ?_⟩
  · rw [h'.kept k (by omega) (fun e => by rcases h.at_ k e with e' | e'; exact n3 e'; omega)]
    exact h.kept k hk n3
  · rcases h'.at_ k hk with e | e
    · exact h.at_ k e
    · exact .inr (by omega)
theorem FrR.below {w w' : World} {v v' : Value} {B : Nat} (h : FrR w w' v v') (hB : B ≤ w.heap.size) (hv : ∀ k, v.ownBlock = some k → B ≤ k) : Below B w w' :=
  ⟨h.os, h.tape, h.output, h.size, fun k hk => h.kept k (by omega) (fun e => by have := hv k e; omega)⟩
theorem FrR.cells {w w' : World} {v v' : Value} (h : FrR w w' v v') {B n : Nat} {xs : List Value} (ho : w.ownsRow B 3 1 v n xs) {k : Nat} {u : Array Value} {t : TypeId} {z : Nat × Nat} (hk : w.heap[k]? = some (.cells u t z)) (ht : t ≠ 3) : w'.heap[k]? = some (.cells u t z) := by
  rw [h.kept k (lt_of_heap hk) ?_]; exact hk
  intro e
  obtain ⟨c, fz', hc⟩ := Lib.ownsRow_kind ho k e
  rw [hk] at hc
  simp only [Option.some.injEq, Obj.cells.injEq] at hc
  exact ht hc.2.1

theorem partZ_prt {k n a b c : Int} {j : Nat} (h : j < (prt ⟨k, n, a, b, c⟩).length) : partZ j a b c = (prt ⟨k, n, a, b, c⟩).getD j 0 := by
  have h3 := prt_len ⟨k, n, a, b, c⟩
  unfold prt at h ⊢
  simp only [List.length_take, List.length_cons, List.length_nil] at h
  rw [List.getD_eq_getElem?_getD, List.getElem?_take, if_pos (by show j < (many k).toNat; omega)]
  unfold partZ
  rcases (show j = 0 ∨ j = 1 ∨ j = 2 by omega) with rfl | rfl | rfl <;> rfl
theorem atZ_yes {l : List Int} {r : Int} (h : r ∈ l) : 0 ≤ atZ l r := by
  unfold atZ
  cases e : px r l with
  | none => exact absurd h (px_none.1 e)
  | some i => simp
theorem atZ_no {l : List Int} {r : Int} (h : r ∉ l) : atZ l r = -1 := by unfold atZ; rw [px_none.2 h]

def RPost (B : Nat) (w : World) (v : Value) (l : List Int) (e : Ending) (w' : World) : Prop :=
  ∃ v', e = .returned v' ∧ w'.ownsRow B 3 1 v' l.length (l.map (Value.int .i64)) ∧ FrR w w' v v'

set_option maxRecDepth 100000 in
set_option maxHeartbeats 2000000 in
theorem refRows_any {L : List Nd} (hL : WF L) (hs : L.length ≤ 65536) (lim : Int) (gr capr B : Nat) (hgB : gr < B) :
    ∀ (f : Nat) (r : Int) (acc : List Int) (v : Value) (w : World), r.toNat < f → hasB L.length r = true → Acc L acc → rowAt w gr L → B ≤ w.heap.size → w.ownsRow B 3 1 v acc.length (acc.map (Value.int .i64)) →
    Calls Tryz.prog 41 #[.agg #[.int .i64 lim, .slice (some ⟨gr, 0, none⟩) L.length capr], v, .int .i64 r] w (RPost B w v (vis L f acc r))
  | 0, _, _, _, _, h, _, _, _, _, _ => absurd h (by omega)
  | f + 1, r, acc, v, w, hf, hr, hacc, hrow, hB, ho => by
    obtain ⟨sp, cp, rfl⟩ := own_slice ho
    have hal := Nat.le_trans hacc.len hs
    have HAT := Lib.hid (at_any B _ acc hal r _ (row_below ho ((Below.refl _ _).alloc (Nat.le_refl _) (.cells #[.int .i64 lim, .slice (some ⟨gr, 0, none⟩) L.length capr] 27))))
    by_cases hm : r ∈ acc
    · have h0 := atZ_yes hm
      have HP : Hid (RPost B w (.slice sp acc.length cp) (vis L (f + 1) acc r) (.returned (.slice sp acc.length cp)) (w.alloc (.cells #[.int .i64 lim, .slice (some ⟨gr, 0, none⟩) L.length capr] 27))) := Lib.hid (by
        have hb : Below w.heap.size w (w.alloc (.cells #[.int .i64 lim, .slice (some ⟨gr, 0, none⟩) L.length capr] 27)) := (Below.refl _ _).alloc (Nat.le_refl _) _
        rw [vis_old hm]; exact ⟨_, rfl, row_below ho hb, FrR.of hb⟩)
      obtain ⟨z, hz⟩ : ∃ z, z = atZ acc r := ⟨_, rfl⟩
      rw [← hz] at h0 HAT
      clear hz hrow ho hacc hm
      go_enter Tryz.func41, Tryz.ntmps41
      go_wp2_with (go_at_call 43; refine HAT.out.mono ?_; rintro e w1 ⟨rfl, hw1⟩; rw [← hw1]; clear hw1)
      all_goals
        go_ret
        exact HP.out
    · rw [atZ_no hm] at HAT
      obtain ⟨i, rfl⟩ : ∃ i : Nat, r = i := ⟨r.toNat, by have := hasB_iff.1 hr; omega⟩
      have hi : i < L.length := by have := hasB_iff.1 hr; omega
      have hn0 := nd_cast L i
      obtain ⟨d, hd⟩ : ∃ d, d = L.getD i zN := ⟨_, rfl⟩
      have hg := (right_iff.1 (hL.good i hi)).1
      have hri := hrow i hi
      rw [← hd] at hg hn0 hri
      have HVS : Hid (vis L (f + 1) acc (i : Int) = (prt d).foldl (vis L f) acc ++ [(i : Int)]) := Lib.hid (by rw [vis_new hm hr, hn0])
      have HPP : Hid (∀ p ∈ prt d, (0 ≤ p ∧ p < (i : Int)) ∧ hasB L.length p = true) := Lib.hid (fun p hp => ⟨prt_in hL hr (by rw [hn0]; exact hp), prt_has hL hr (by rw [hn0]; exact hp)⟩)
      have HPA : Hid (∀ m, Acc L (((prt d).take m).foldl (vis L f) acc)) := Lib.hid (fun m => (vis_parts hL hacc hm hr _ (fun p hp => by rw [hn0]; exact List.mem_of_mem_take hp)).1)
      clear hd hn0
      obtain ⟨k1, n1, a1, b1, c1⟩ := d
      obtain ⟨kk, hkk, hk10⟩ : ∃ kk : Nat, k1 = kk ∧ kk < 10 := kind_nat hg
      subst hkk
      have hpl : many (kk : Int) = ((prt ⟨kk, n1, a1, b1, c1⟩).length : Nat) := (prt_length (d := ⟨kk, n1, a1, b1, c1⟩) hg).symm
      have hp3 := prt_len ⟨kk, n1, a1, b1, c1⟩
      have HPZ : Hid (∀ j : Nat, j < (prt ⟨kk, n1, a1, b1, c1⟩).length → partZ j a1 b1 c1 = (prt ⟨kk, n1, a1, b1, c1⟩).getD j 0) := Lib.hid (fun j hj => partZ_prt hj)
      obtain ⟨ps, hps⟩ : ∃ ps, ps = prt ⟨kk, n1, a1, b1, c1⟩ := ⟨_, rfl⟩
      rw [← hps] at hpl hp3 HVS HPP HPA HPZ
      have HPL := Lib.hid hpl
      obtain ⟨r0, r1, r2, r3, r4⟩ := hri
      simp only at r0 r1 r2 r3 r4
      have hgw : gr < w.heap.size := by omega
      have HO := Lib.hid ho
      have HROW := Lib.hid hrow
      have HACC := Lib.hid hacc
      have hgw1 : gr < w.heap.size + 1 := by omega
      clear ho hrow hacc hm hpl hps hg
      go_enter Tryz.func41, Tryz.ntmps41
      go_wp2_with (go_at_call 43; refine HAT.out.mono ?_; rintro e w1 ⟨rfl, hw1⟩; rw [← hw1]; clear hw1)
      obtain ⟨W1, hW1⟩ : ∃ W, W = (w.alloc (.cells #[.int .i64 lim, .slice (some ⟨gr, 0, none⟩) L.length capr] 27)).alloc (.cells #[.int .i64 (kk : Int), .int .u64 n1, .int .i64 a1, .int .i64 b1, .int .i64 c1] 48) := ⟨_, rfl⟩
      have hbW : Below w.heap.size w W1 := by rw [hW1]; exact ((Below.refl _ _).alloc (Nat.le_refl _) _).alloc (by simp) _
      have HBA : Hid (W1.heap[w.heap.size]? = some (.cells #[.int .i64 lim, .slice (some ⟨gr, 0, none⟩) L.length capr] 27 (0, 0))) := Lib.hid (by rw [hW1, Below.heap_alloc _ _ _ (by simp)]; exact heap_alloc_new w _)
      have HBN : Hid (W1.heap[w.heap.size + 1]? = some (.cells #[.int .i64 (kk : Int), .int .u64 n1, .int .i64 a1, .int .i64 b1, .int .i64 c1] 48 (0, 0))) := Lib.hid (by
        have h := heap_alloc_new (w.alloc (.cells #[.int .i64 lim, .slice (some ⟨gr, 0, none⟩) L.length capr] 27)) (.cells #[.int .i64 (kk : Int), .int .u64 n1, .int .i64 a1, .int .i64 b1, .int .i64 c1] 48)
        rw [World.size_alloc] at h
        rw [hW1]; exact h)
      have HBW := Lib.hid hbW
      rw [← hW1]
      clear hW1 hbW r0 r1 r2 r3 r4
      have HZ : Hid (∀ wx vx, FrR W1 wx (.slice sp acc.length cp) vx → wx.cell? ⟨w.heap.size, 0, none⟩ = some (.int .i64 lim) ∧ wx.cell? ⟨w.heap.size, 1, none⟩ = some (.slice (some ⟨gr, 0, none⟩) L.length capr) ∧ wx.cell? ⟨w.heap.size + 1, 0, none⟩ = some (.int .i64 (kk : Int)) ∧ wx.cell? ⟨w.heap.size + 1, 1, none⟩ = some (.int .u64 n1) ∧ wx.cell? ⟨w.heap.size + 1, 2, none⟩ = some (.int .i64 a1) ∧ wx.cell? ⟨w.heap.size + 1, 3, none⟩ = some (.int .i64 b1) ∧ wx.cell? ⟨w.heap.size + 1, 4, none⟩ = some (.int .i64 c1)) := Lib.hid (fun wx vx h => by
        have hba := h.cells (row_below HO.out HBW.out) HBA.out (by decide)
        have hbn := h.cells (row_below HO.out HBW.out) HBN.out (by decide)
        exact ⟨(cell_of_row wx _ 0 _ _ _ hba).trans rfl, (cell_of_row wx _ 1 _ _ _ hba).trans rfl, (cell_of_row wx _ 0 _ _ _ hbn).trans rfl, (cell_of_row wx _ 1 _ _ _ hbn).trans rfl, (cell_of_row wx _ 2 _ _ _ hbn).trans rfl, (cell_of_row wx _ 3 _ _ _ hbn).trans rfl, (cell_of_row wx _ 4 _ _ _ hbn).trans rfl⟩)
      go_loopg [1, 8] ps.length (fun q u1 u8 wr => ∃ k : Nat, k + q = ps.length ∧ u8 = .int .i64 k ∧ wr.ownsRow B 3 1 u1 ((ps.take k).foldl (vis L f) acc).length (((ps.take k).foldl (vis L f) acc).map (Value.int .i64)) ∧ FrR W1 wr (.slice sp acc.length cp) u1)
      case atStart => exact ⟨0, by omega, rfl, row_below HO.out HBW.out, FrR.refl _ _⟩
      case round =>
        obtain ⟨k, hkq, rfl, hown, hfr⟩ := hrel
        have hba := hfr.cells (row_below HO.out HBW.out) HBA.out (by decide)
        have hbn := hfr.cells (row_below HO.out HBW.out) HBN.out (by decide)
        obtain ⟨x0, x1, y0, y1, y2, y3, y4⟩ := HZ.out wr _ hfr
        have l1 := lt_of_heap hba
        have l2 := lt_of_heap hbn
        have HFR := Lib.hid hfr
        have hwz := hfr.size
        have hwz0 := HBW.out.size
        by_cases hlt : k < ps.length
        · obtain ⟨p, hpe⟩ : ∃ p, p = ps.getD k 0 := ⟨_, rfl⟩
          have hpm : p ∈ ps := by rw [hpe, List.getD_eq_getElem?_getD, List.getElem?_eq_getElem hlt]; simp
          have hpp := HPP.out p hpm
          have HPZ2 : Hid (partZ (k : Int) a1 b1 c1 = p) := Lib.hid (by rw [HPZ.out k hlt, hpe])
          obtain ⟨sq, cq, rfl⟩ := own_slice hown
          have hrw : rowAt wr gr L := HROW.out.keep ((hfr.kept gr (by omega) (fun e => by have := (HO.out.lt gr e).1; omega)).trans (HBW.out.block gr hgw))
          have HIH : Hid (∀ W, Below wr.heap.size wr W → Calls Tryz.prog 41 #[.agg #[.int .i64 lim, .slice (some ⟨gr, 0, none⟩) L.length capr], .slice sq ((ps.take k).foldl (vis L f) acc).length cq, .int .i64 p] W (RPost B W (.slice sq ((ps.take k).foldl (vis L f) acc).length cq) ((ps.take (k + 1)).foldl (vis L f) acc))) := Lib.hid (fun W hW => by
            rw [fold_take_succ hlt, ← hpe]
            exact refRows_any hL hs lim gr capr B hgB f p _ _ W (by omega) hpp.2 (HPA.out k) (hrw.keep (hW.block gr (by omega))) (by have := hW.size; omega) (row_below hown hW))
          obtain ⟨ln, hln⟩ : ∃ n, n = ((ps.take k).foldl (vis L f) acc).length := ⟨_, rfl⟩
          rw [← hln] at HIH HFR
          rw [← hln]
          clear hpe hpm hpp hown hfr hba hbn hrw hln
          go_wp2_with (go_at_call 39; refine (many_any _ _).mono ?_; rintro e w' ⟨rfl, hw'⟩; rw [← hw', HPL.out]; clear hw')
          go_region_held3 (fun w' => w'.cell? ⟨w.heap.size, 0, none⟩ = some (.int .i64 lim) ∧ w'.cell? ⟨w.heap.size, 1, none⟩ = some (.slice (some ⟨gr, 0, none⟩) L.length capr) ∧ w'.cell? ⟨w.heap.size + 1, 0, none⟩ = some (.int .i64 (kk : Int)) ∧ w'.cell? ⟨w.heap.size + 1, 1, none⟩ = some (.int .u64 n1) ∧ w'.cell? ⟨w.heap.size + 1, 2, none⟩ = some (.int .i64 a1) ∧ w'.cell? ⟨w.heap.size + 1, 3, none⟩ = some (.int .i64 b1) ∧ w'.cell? ⟨w.heap.size + 1, 4, none⟩ = some (.int .i64 c1)) (go_keep)
            (first
              | (go_at_call 44; refine (part2_any _ _ _ _ _ _ _).mono ?_; rintro e w' ⟨rfl, rfl⟩; rw [HPZ2.out])
              | (go_at_call 41; refine (HIH.out _ ((Below.refl _ _).alloc (Nat.le_refl _) _).drew).mono ?_; rintro e w5 ⟨v5, rfl, ho5, hf5⟩; have HO5 := Lib.hid ho5; have HF5 := Lib.hid (HFR.out.trans ((FrR.of ((Below.refl _ _).alloc (Nat.le_refl _) _).drew).trans hf5)); obtain ⟨z0, z1, z2, z3, z4, z5, z6⟩ := HZ.out w5 _ HF5.out; clear ho5 hf5))
          all_goals
            go_wp2_with fail
            go_roundg (ps.length - (k + 1))
            case rel => exact ⟨k + 1, by omega, by simp, HO5.out, HF5.out⟩
            case measure => omega
        · obtain rfl : k = ps.length := by omega
          rw [List.take_length] at hown
          obtain ⟨acc', hacc'⟩ : ∃ l, l = ps.foldl (vis L f) acc := ⟨_, rfl⟩
          have hA' := HPA.out ps.length
          rw [List.take_length, ← hacc'] at hA'
          rw [← hacc'] at hown HVS
          have hlen := Nat.le_trans hA'.len hs
          obtain ⟨sq, cq, rfl⟩ := own_slice hown
          obtain ⟨i0, hi0, hz0, hz1, hz2⟩ := info_parts Tryz.info3
          have HOW := Lib.hid hown
          have hbw : B ≤ wr.heap.size := by omega
          clear hown hfr hba hbn hA' hacc'
          go_wp2_with (first
            | (go_at_call 39; refine (many_any _ _).mono ?_; rintro e w' ⟨rfl, hw'⟩; rw [← hw', HPL.out]; clear hw')
            | (at_builtin; refine wpList_append_lies _ rfl _ _ 56 rfl B 3 i0 (.int .i64 0) 1 8 Tryz.underlying56 hi0 hz0 hz1 hz2 rfl (by decide) _ _ _ rfl (HOW.out.alloc _) ⟨wr.heap.size, 0, none⟩ 1 1 [.int .i64 (i : Int)] rfl rfl ?c1 ?c2 (by decide) ?c3 ?c4 ?c5 _ rfl ?_))
          case c1 =>
            intro j u hj
            match j, hj with
            | 0, hj => simp at hj; subst hj; simp [Addr.add]
          case c2 => intro u hu; simp at hu; subst hu; rfl
          case c3 => unfold maxLen; omega
          case c4 => omega
          case c5 => simp; omega
          intro g2 cap2 w7 hown7 hgr7 hat7 hlt7
          have HP : Hid (RPost B w (.slice sp acc.length cp) (vis L (f + 1) acc (i : Int)) (.returned (.slice (some ⟨g2, 0, none⟩) (acc'.length + 1) cap2)) w7) := Lib.hid (by
            rw [HVS.out]
            have hX : FrR wr (wr.alloc (.cells #[.int .i64 (i : Int)] 3)) (.slice sq acc'.length cq) (.slice sq acc'.length cq) := FrR.of ((Below.refl _ _).alloc (Nat.le_refl _) _)
            have hG : FrR (wr.alloc (.cells #[.int .i64 (i : Int)] 3)) w7 (.slice sq acc'.length cq) (.slice (some ⟨g2, 0, none⟩) (acc'.length + 1) cap2) := ⟨hgr7.os, hgr7.tape, hgr7.output, hgr7.size, fun k hk hne => hgr7.block k hk (Ne.symm hne), fun k hk => by
              have hk : some g2 = some k := hk
              obtain rfl := Option.some.inj hk
              rcases hat7 with e | e
              · exact .inl e
              · exact .inr (by rw [e]; simp)⟩
            refine ⟨_, rfl, by simpa using hown7, (FrR.of HBW.out).trans (HFR.out.trans (hX.trans hG))⟩)
          clear hown7 hgr7 hat7
          go_wp2_with fail
          go_ret
          exact HP.out
end Go.Proofs.YtmnmjekpndeemaaGreatDoor
