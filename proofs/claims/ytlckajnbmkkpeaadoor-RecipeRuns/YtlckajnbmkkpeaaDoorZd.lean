/- Layer 3: walks of the reference: Has, Learn. -/
import Derived.Test.YtlckajnbmkkpeaaDoorZc
import Derived.StillTailTactics
namespace Go.Proofs.YtlckajnbmkkpeaaDoor
open Go.RowKit Go.Maps

/-- A row of ints that came in. -/
def intsAt (w : World) (g o : Nat) (l : List Int) : Prop := ∀ i, i < l.length → w.cell? ⟨g, o + i, none⟩ = some (.int .i64 (l.getD i 0))
theorem intsAt.keep {w w' : World} {g o : Nat} {l : List Int} (h : intsAt w g o l) (hk : w'.heap[g]? = w.heap[g]?) : intsAt w' g o l := fun i hi => by
  rw [World.cell?_of_block hk]; exact h i hi
def IntsV (w : World) (s : Option Addr) (l : List Int) : Prop := 0 < l.length → ∃ gl ol, s = some ⟨gl, ol, none⟩ ∧ gl < w.heap.size ∧ intsAt w gl ol l
theorem IntsV.keep {w w' : World} {s : Option Addr} {l : List Int} (h : IntsV w s l) (hb : Below w.heap.size w w') : IntsV w' s l := fun h0 => by
  obtain ⟨gl, ol, e, h1, h2⟩ := h h0
  exact ⟨gl, ol, e, Nat.lt_of_lt_of_le h1 hb.size, h2.keep (hb.block _ h1)⟩
theorem rlearn_snoc (L : List Nd) : ∀ (l : List Int) (x : Int) (k : List Bool), rlearn L (l ++ [x]) k = if hasB L.length x = true then rclose L ((rlearn L l k).set x.toNat true) L.length else rlearn L l k
  | [], x, k => rfl
  | y :: l, x, k => by rw [List.cons_append, rlearn, rlearn_snoc L l x, rlearn]
set_option maxRecDepth 100000 in
set_option maxHeartbeats 8000000 in
theorem learnF_any (hC : CanF) {L : List Nd} {gr capr lim : Nat} {s : Option Addr} {c : Nat} {l : List Int} {w : World} (hwf : WF L) (hrow : rowAt w gr L) (hl : IntsV w s l) (hg : gr < w.heap.size) (hL : L.length ≤ 1000) (hln : l.length ≤ 1000) :
    Calls Tryd.prog 33 #[.agg #[.int .i64 lim, .slice (some ⟨gr, 0, none⟩) L.length capr], .slice s l.length c] w fun e w' => ∃ go co, e = .returned (.slice (some ⟨go, 0, none⟩) L.length co) ∧ w.heap.size ≤ go ∧ Ob w' go co (rlearn L l (List.replicate L.length false)) ∧ Below w.heap.size w w' := by
  obtain ⟨i0, hi0, hz0, hz1, hz2⟩ := info_parts Tryd.infoB
  have HST : Hid (Cz L gr capr lim (w.heap.size + 1) L.length w.heap.size w ((w.alloc (.cells #[.int .i64 lim, .slice (some ⟨gr, 0, none⟩) L.length capr] 29)).alloc (.cells (madeCells #[.bool false] L.length) 4)) (rlearn L (l.take 0) (List.replicate L.length false))) := Lib.hid (by
    have hb : Below w.heap.size w ((w.alloc (.cells #[.int .i64 lim, .slice (some ⟨gr, 0, none⟩) L.length capr] 29)).alloc (.cells (madeCells #[.bool false] L.length) 4)) := ((Below.refl _ _).alloc (Nat.le_refl _) _).alloc (by simp) _
    refine ⟨?_, hrow.keep (hb.block _ hg), hb, ?_, hg, by omega, by omega, by omega⟩
    · have := World.ownsRow_lit (base := 0) (e := 4) (size := 1) (w.alloc (.cells #[.int .i64 lim, .slice (some ⟨gr, 0, none⟩) L.length capr] 29)) (madeCells #[.bool false] L.length) L.length (by omega) (by unfold maxLen; omega) (by rw [size_madeCells]; omega)
      rw [World.size_alloc] at this
      rw [List.take_zero]
      show Ob _ _ _ (List.replicate L.length false)
      unfold Ob
      rw [List.length_replicate]
      rw [made_bools] at this ⊢
      exact this
    · rw [Below.heap_alloc _ _ _ (by simp)]; exact heap_alloc_new _ _)
  have HIV := Lib.hid hl
  have HWF := Lib.hid hwf
  have HCF := Lib.hid hC
  clear hrow hl hwf hC
  go_enter Tryd.func33, Tryd.ntmps33
  go_wp2_with (first
    | (at_make; refine wpList_make_row _ rfl _ _ 30 rfl 4 i0 (.bool false) Tryd.underlying30 hi0 hz0 hz1 rfl _ _ L.length rfl rfl (by rw [hz2]; omega) (by omega) ?_))
  generalize ((w.alloc (.cells #[.int .i64 lim, .slice (some ⟨gr, 0, none⟩) L.length capr] 29)).alloc (.cells (madeCells #[.bool false] L.length) 4)) = W0 at *
  go_loopg [5, 6] l.length (fun q u5 u6 wr => ∃ i : Nat, i + q = l.length ∧ u6 = .int .i64 i ∧ ∃ gn co, u5 = .slice (some ⟨gn, 0, none⟩) L.length co ∧ Cz L gr capr lim gn co w.heap.size w wr (rlearn L (l.take i) (List.replicate L.length false)))
  case atStart => exact ⟨0, by omega, rfl, _, _, rfl, HST.out⟩
  case round =>
    obtain ⟨i, hiq, rfl, gn, co, rfl, hcz⟩ := hrel
    have z0 := hcz.z0
    have z1 := hcz.z1
    have lz := lt_of_heap hcz.box
    by_cases hlt : i < l.length
    · obtain ⟨gl, ol, rfl, hgl, hia⟩ := HIV.out (by omega)
      have hx0 : wr.cell? ⟨gl, ol + i, none⟩ = some (.int .i64 (l.getD i 0)) := (hia.keep (hcz.bel.block _ hgl)) i hlt
      have hlg : gl < wr.heap.size := Nat.lt_of_lt_of_le hgl hcz.bel.size
      have hi' : (i : Int) < l.length := by omega
      obtain ⟨x, hx⟩ : ∃ x, x = l.getD i 0 := ⟨_, rfl⟩
      rw [← hx] at hx0
      have HTK : Hid (rlearn L (l.take (i + 1)) (List.replicate L.length false) = if hasB L.length x = true then rclose L ((rlearn L (l.take i) (List.replicate L.length false)).set x.toNat true) L.length else rlearn L (l.take i) (List.replicate L.length false)) := Lib.hid (by
        rw [List.take_succ_eq_append_getElem hlt, rlearn_snoc, hx, List.getD_eq_getElem?_getD, List.getElem?_eq_getElem hlt]; rfl)
      obtain ⟨kn, hkn⟩ : ∃ kn, kn = rlearn L (l.take i) (List.replicate L.length false) := ⟨_, rfl⟩
      have hkl : kn.length = L.length := by rw [hkn, rlearn_len, List.length_replicate]
      rw [← hkn] at hcz HTK
      have HCZ := Lib.hid hcz
      have HB0 : Hid (Below wr.heap.size wr wr.drew) := Lib.hid (Below.refl _ _).drew
      clear hcz hia hx hkn
      cases hh : hasB L.length x with
      | true =>
        rw [if_pos hh] at HTK
        have hxb := hasB_iff.1 hh
        obtain ⟨j, rfl⟩ : ∃ j : Nat, x = j := ⟨x.toNat, by omega⟩
        rw [Int.toNat_natCast] at HTK
        have hj' : (j : Int) < L.length := by omega
        have hjl : j < L.length := by omega
        have HCL : Hid (∀ w1, Below wr.heap.size wr w1 → w1.cell? ⟨gn, j, none⟩ = some (.bool (kn.getD j false)) ∧ w1.frozen? ⟨gn, j, none⟩ = false ∧ gn < w1.heap.size ∧ Calls Tryd.prog 52 #[.agg #[.int .i64 lim, .slice (some ⟨gr, 0, none⟩) L.length capr], .slice (some ⟨gn, 0, none⟩) L.length co] (w1.setCell ⟨gn, j, none⟩ (.bool true)) fun e w' => ∃ go co, e = .returned (.slice (some ⟨go, 0, none⟩) L.length co) ∧ Cz L gr capr lim go co w.heap.size w w' (rclose L (kn.set j true) L.length)) := Lib.hid (fun w1 hb => by
          have c1 := HCZ.out.keep hb
          have c2 := c1.set j true
          refine ⟨c1.ob.at_ j (by omega), c1.ob.froz j, c1.ob.lt, ?_⟩
          refine (closeF_any HCF.out HWF.out c2.row c2.ob.at_ c2.ob.lt (by rw [List.length_set]; exact hkl) (Nat.lt_of_lt_of_le hg c2.bel.size) hL).mono ?_
          rintro e w' ⟨go, co', rfl, hgo, hob, hb'⟩
          have hs := c2.bel.size
          have hp := lt_of_heap c2.box
          exact ⟨go, co', rfl, hob, c2.row.keep (hb'.block _ (Nat.lt_of_lt_of_le hg hs)), c2.bel.trans (hb'.mono hs), (hb'.block _ hp).trans c2.box, hg, by omega, by omega, by omega⟩)
        have HHS : Hid (∀ w1 : World, Calls Tryd.prog 18 #[.agg #[.int .i64 lim, .slice (some ⟨gr, 0, none⟩) L.length capr], .int .i64 (j : Int)] w1 fun e w' => e = .returned (.bool true) ∧ Below w1.heap.size w1 w') := Lib.hid (fun w1 => (refHas_any lim (some ⟨gr, 0, none⟩) L.length capr j w1).mono fun e w' ⟨h1, h2⟩ => ⟨by rw [h1, hh], h2 ▸ (Below.refl _ _).alloc (Nat.le_refl _) _⟩)
        have hcx : ∀ w1, Below wr.heap.size wr w1 → w1.cell? ⟨gl, ol + i, none⟩ = some (.int .i64 (j : Int)) ∧ w1.cell? ⟨w.heap.size, 0, none⟩ = some (.int .i64 lim) ∧ w1.cell? ⟨w.heap.size, 1, none⟩ = some (.slice (some ⟨gr, 0, none⟩) L.length capr) := fun w1 hb => ⟨(hb.cell (p := ⟨gl, ol + i, none⟩) hlg).trans hx0, (hb.cell (p := ⟨w.heap.size, 0, none⟩) lz).trans z0, (hb.cell (p := ⟨w.heap.size, 1, none⟩) lz).trans z1⟩
        have HCX := Lib.hid hcx
        clear hh hcx
        go_wp2_with fail
        go_still_tail 5, (by kernel_rfl)
        change wpList _ _ _ _ _ wr.drew
        have hd := HB0.out
        generalize wr.drew = w2 at *
        go_wp2_with (first
          | (go_at_call 18; refine (HHS.out w2).mono ?_; rintro e w3 ⟨rfl, hb3⟩; have hb4 := hd.trans (hb3.mono hd.size); obtain ⟨p1, p2, p3⟩ := HCX.out w3 hb4; obtain ⟨q1, q2, q3, q4⟩ := HCL.out w3 hb4; have HQ4 := Lib.hid q4; have hgz : gn ≠ w.heap.size := HCZ.out.ne; have ls3 : w.heap.size < w3.heap.size := Nat.lt_of_lt_of_le lz hb4.size; clear q4)
          | (go_at_call 52; refine HQ4.out.mono ?_; rintro e w5 ⟨go5, co5, rfl, hcz5⟩))
        go_roundg (l.length - (i + 1))
        case rel => exact ⟨i + 1, by omega, by simp, go5, co5, rfl, by rw [HTK.out]; exact hcz5⟩
        case measure => omega
      | false =>
        rw [if_neg (by rw [hh]; simp)] at HTK
        have HHS : Hid (∀ w1 : World, Calls Tryd.prog 18 #[.agg #[.int .i64 lim, .slice (some ⟨gr, 0, none⟩) L.length capr], .int .i64 x] w1 fun e w' => e = .returned (.bool false) ∧ Below w1.heap.size w1 w') := Lib.hid (fun w1 => (refHas_any lim (some ⟨gr, 0, none⟩) L.length capr x w1).mono fun e w' ⟨h1, h2⟩ => ⟨by rw [h1, hh], h2 ▸ (Below.refl _ _).alloc (Nat.le_refl _) _⟩)
        clear hh
        go_wp2_with fail
        go_still_tail 5, (by kernel_rfl)
        change wpList _ _ _ _ _ wr.drew
        have hd := HB0.out
        generalize wr.drew = w2 at *
        go_wp2_with (go_at_call 18; refine (HHS.out w2).mono ?_; rintro e w3 ⟨rfl, hb3⟩; have hb4 := hd.trans (hb3.mono hd.size))
        go_roundg (l.length - (i + 1))
        case rel => exact ⟨i + 1, by omega, by simp, gn, co, rfl, by rw [HTK.out]; exact HCZ.out.keep hb4⟩
        case measure => omega
    · obtain rfl : i = l.length := by omega
      rw [List.take_length] at hcz
      have HE : Hid (w.heap.size ≤ gn ∧ Ob wr gn co (rlearn L l (List.replicate L.length false)) ∧ Below w.heap.size w wr) := Lib.hid ⟨hcz.ho, hcz.ob, hcz.bel⟩
      clear hcz
      go_wp2_with fail
      go_ret
      exact ⟨gn, co, rfl, HE.out⟩
end Go.Proofs.YtlckajnbmkkpeaaDoor
