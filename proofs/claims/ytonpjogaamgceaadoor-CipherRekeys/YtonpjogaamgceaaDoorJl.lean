/- Layer 10: the reference's walk of Rekey. -/
import Derived.Test.YtonpjogaamgceaaDoorJg
namespace Go.Proofs.YtonpjogaamgceaaDoor
open Go.RowKit

def RefRekey (g lim : Nat) (L : List Nd) (c : Cf) (w : World) (e : Ending) (w' : World) : Prop :=
  ∃ g' cap', e = .returned (.tuple #[.agg #[.int .i64 lim, .slice (some ⟨g', 0, none⟩) (rkL lim L c).length cap'], cfV (rkC lim L c), .int .i64 (rkE lim L c)]) ∧ rowAt w' g' (rkL lim L c) ∧ g' < w'.heap.size ∧ Below w.heap.size w w' ∧ (g' = g ∨ w.heap.size ≤ g')
theorem refRekey_same {g cap lim : Nat} {L : List Nd} {c : Cf} {er : Int} {c' : Cf} {w w' : World} (h1 : rkL lim L c = L) (h3 : rkE lim L c = er) (h4 : rkC lim L c = c') (hr : rowAt w g L) (hg : g < w.heap.size) (hb : Below w.heap.size w w') :
    RefRekey g lim L c w (.returned (.tuple #[.agg #[.int .i64 lim, .slice (some ⟨g, 0, none⟩) L.length cap], cfV c', .int .i64 er])) w' :=
  ⟨g, cap, by rw [h1, h3, h4], by rw [h1]; exact hr.keep (hb.block g hg), Nat.lt_of_lt_of_le hg hb.size, hb, Or.inl rfl⟩

set_option maxRecDepth 100000 in
set_option maxHeartbeats 4000000 in
theorem refRekey_any (lim : Nat) (g cap : Nat) (L : List Nd) (hw : WFp L) (hm : L.length ≤ 65536) (c : Cf) (w : World) (hr : rowAt w g L) (hg : g < w.heap.size) :
    Calls Tryd.prog 19 #[.agg #[.int .i64 lim, .slice (some ⟨g, 0, none⟩) L.length cap], cfV c] w (RefRekey g lim L c w) := by
  obtain ⟨W0, hW0⟩ : ∃ W, W = dbW w lim g cap L.length c := ⟨_, rfl⟩
  have HB0 : Hid (Below w.heap.size w W0) := Lib.hid (by rw [hW0]; exact dbW_below w lim g cap L.length c)
  have HC0 : Hid (Db w W0 lim g cap L.length c) := Lib.hid (by rw [hW0]; exact Db.new w lim g cap L.length c)
  have HR := Lib.hid hr; clear hr
  have HW := Lib.hid hw; clear hw
  have HU1 : Hid (rkL lim L c = if c.h = true then mkL lim L (rkN c) else L) := Lib.hid rfl
  have HU2 : Hid (rkE lim L c = if c.h = true then mkE lim L (rkN c) else 10) := Lib.hid rfl
  have HU3 : Hid (rkC lim L c = if c.h = true then (if mkE lim L (rkN c) = 0 then ⟨mkR lim L (rkN c), true, c.n⟩ else cZ) else cZ) := Lib.hid rfl
  unfold dbW at hW0
  obtain ⟨ck, ch, cn⟩ := c
  unfold cfV
  obtain ⟨a0, a1⟩ := ra_cells HC0.out.ba
  obtain ⟨c0, c1, c2⟩ := rc_cells HC0.out.bc
  obtain ⟨y0, y1⟩ := ra_cells HC0.out.ra
  obtain ⟨z0, z1, z2⟩ := rc_cells HC0.out.rc
  have l3 := lt_of_heap HC0.out.rc
  have l2 : w.heap.size + 1 + 1 < W0.heap.size := by omega
  have l1 : w.heap.size + 1 < W0.heap.size := by omega
  have l0 : w.heap.size < W0.heap.size := by omega
  have yf : ∀ j, W0.frozen? ⟨w.heap.size + 1 + 1, j, none⟩ = false := fun j => frozen_of_row _ _ _ _ _ HC0.out.ra
  have zf : ∀ j, W0.frozen? ⟨w.heap.size + 1 + 1 + 1, j, none⟩ = false := fun j => frozen_of_row _ _ _ _ _ HC0.out.rc
  simp only at c0 c1 c2
  cases ch
  · have HP := Lib.hid (fun w' hb => refRekey_same (w' := w') (c := ⟨ck, false, cn⟩) (lim := lim) (cap := cap) (HU1.out.trans rfl) (HU2.out.trans rfl) (HU3.out.trans rfl) HR.out hg hb)
    clear HU1 HU2 HU3
    go_enter Tryd.func19, Tryd.ntmps19
    go_wp2_with fail
    refine bodyPost_ret (v := .tuple #[.agg #[.int .i64 lim, .slice (some ⟨g, 0, none⟩) L.length cap], .agg #[.int .i64 0, .bool false, .int .u64 0], .int .i64 10]) (by simp [results, Tryd.results19, go_sem]) rfl ?_
    exact HP.out _ (((((Below.refl _ _).alloc (Nat.le_refl _) _).alloc (by simp) _).alloc (by simp; omega) _).alloc (by simp; omega) _)
  · have HU4 : Hid (mkE lim L ⟨6, 4, ck, 0, 0⟩ = 0 → rkC lim L ⟨ck, true, cn⟩ = ⟨mkR lim L ⟨6, 4, ck, 0, 0⟩, true, cn⟩) := Lib.hid (fun h => by rw [HU3.out, if_pos rfl]; exact if_pos h)
    have HU5 : Hid (mkE lim L ⟨6, 4, ck, 0, 0⟩ ≠ 0 → rkC lim L ⟨ck, true, cn⟩ = cZ) := Lib.hid (fun h => by rw [HU3.out, if_pos rfl]; exact if_neg h)
    have HME := Lib.hid (mkL_err (lim := lim) (L := L) (d := ⟨6, 4, ck, 0, 0⟩))
    clear HU3
    simp only [if_true, rkN] at HU1 HU2
    have HMK := Lib.hid (refMj_any lim g cap L HW.out hm 6 4 ck 0 0 W0 (HR.out.keep (HB0.out.block g hg)) (Nat.lt_of_lt_of_le hg HB0.out.size))
    have hgw : g < W0.heap.size := Nat.lt_of_lt_of_le hg HB0.out.size
    rw [hW0] at HMK
    clear a0 a1 c0 c1 c2 y0 y1 z0 z1 z2 l0 l1 l2 l3 yf zf
    go_enter Tryd.func19, Tryd.ntmps19
    go_wp2_with fail
    go_at_call 26
    refine HMK.out.mono ?_
    rintro e w2 ⟨g', cap', rfl, hrow, hlt, hb2, hge⟩
    rw [← hW0] at hb2 hge
    have HX : Hid (Below w2.heap.size w2 (w2.alloc (.cells #[.int .i64 lim, .slice (some ⟨g', 0, none⟩) (mkL lim L ⟨6, 4, ck, 0, 0⟩).length cap'] 30))) := Lib.hid ((Below.refl _ _).alloc (Nat.le_refl _) _)
    have HN3 := Lib.hid (heap_alloc_new w2 (.cells #[.int .i64 lim, .slice (some ⟨g', 0, none⟩) (mkL lim L ⟨6, 4, ck, 0, 0⟩).length cap'] 30))
    have HB2 := Lib.hid (HB0.out.trans (hb2.mono HB0.out.size))
    have hb3 := hb2.trans (HX.out.mono hb2.size)
    have HB3 := Lib.hid (HB0.out.trans (hb3.mono HB0.out.size))
    have HC2 := Lib.hid (HC0.out.keep hb2)
    have HC3 := Lib.hid (HC0.out.keep hb3)
    have HR3 := Lib.hid (hrow.keep (HX.out.block g' hlt))
    have HL3 : Hid (g' < (w2.alloc (.cells #[.int .i64 lim, .slice (some ⟨g', 0, none⟩) (mkL lim L ⟨6, 4, ck, 0, 0⟩).length cap'] 30)).heap.size) := Lib.hid (Nat.lt_of_lt_of_le hlt HX.out.size)
    have HG3 : Hid (g' = g ∨ w.heap.size + 4 ≤ g') := Lib.hid (hge.imp id fun h => by have := lt_of_heap HC0.out.rc; omega)
    have hpn : w.heap.size + 1 + 1 + 1 < w2.heap.size := by have := lt_of_heap (HC0.out.keep hb2).rc; omega
    clear hrow hlt hb2 hb3 hge HX HMK
    obtain ⟨a0, a1⟩ := ra_cells HC2.out.ba
    obtain ⟨c0, c1, c2⟩ := rc_cells HC2.out.bc
    obtain ⟨y0, y1⟩ := ra_cells HC2.out.ra
    obtain ⟨z0, z1, z2⟩ := rc_cells HC2.out.rc
    have l3 := lt_of_heap HC2.out.rc
    have l2 : w.heap.size + 1 + 1 < w2.heap.size := by omega
    have l1 : w.heap.size + 1 < w2.heap.size := by omega
    have l0 : w.heap.size < w2.heap.size := by omega
    have yf : ∀ j, w2.frozen? ⟨w.heap.size + 1 + 1, j, none⟩ = false := fun j => frozen_of_row _ _ _ _ _ HC2.out.ra
    have zf : ∀ j, w2.frozen? ⟨w.heap.size + 1 + 1 + 1, j, none⟩ = false := fun j => frozen_of_row _ _ _ _ _ HC2.out.rc
    simp only at c0 c1 c2
    generalize mkL lim L ⟨6, 4, ck, 0, 0⟩ = M at *
    generalize mkR lim L ⟨6, 4, ck, 0, 0⟩ = r at *
    generalize mkE lim L ⟨6, 4, ck, 0, 0⟩ = er at *
    by_cases her : er = 0
    · subst her
      go_wp2_with fail
      generalize w2.alloc (.cells #[.int .i64 lim, .slice (some ⟨g', 0, none⟩) M.length cap'] 30) = W3 at *
      clear a0 a1 c0 c1 c2 y0 y1 z0 z1 z2 l0 l1 l2 l3 yf zf
      obtain ⟨a0, a1⟩ := ra_cells HC3.out.ba
      obtain ⟨c0, c1, c2⟩ := rc_cells HC3.out.bc
      obtain ⟨y0, y1⟩ := ra_cells HC3.out.ra
      obtain ⟨z0, z1, z2⟩ := rc_cells HC3.out.rc
      have l3 := lt_of_heap HC3.out.rc
      have l2 : w.heap.size + 1 + 1 < W3.heap.size := by omega
      have l1 : w.heap.size + 1 < W3.heap.size := by omega
      have l0 : w.heap.size < W3.heap.size := by omega
      have yf : ∀ j, W3.frozen? ⟨w.heap.size + 1 + 1, j, none⟩ = false := fun j => frozen_of_row _ _ _ _ _ HC3.out.ra
      have zf : ∀ j, W3.frozen? ⟨w.heap.size + 1 + 1 + 1, j, none⟩ = false := fun j => frozen_of_row _ _ _ _ _ HC3.out.rc
      obtain ⟨n0, n1⟩ := ra_cells HN3.out
      have ln := lt_of_heap HN3.out
      simp only at c0 c1 c2
      refine wp_region_noPanic ?_
      refine wp_region_held_drew (S := (fun W => (W.cell? ⟨w2.heap.size, 0, none⟩ = some (.int .i64 lim) ∧ W.cell? ⟨w2.heap.size, 1, none⟩ = some (.slice (some ⟨g', 0, none⟩) M.length cap')) ∧ W.cell? ⟨w.heap.size + 1, 0, none⟩ = some (.int .i64 ck) ∧ W.cell? ⟨w.heap.size + 1, 1, none⟩ = some (.bool true) ∧ W.cell? ⟨w.heap.size + 1, 2, none⟩ = some (.int .u64 cn))) (by kernel_rfl) ?_ (fun hHeld => ?_)
      · ((try dsimp only); first | (go_simp; done) | (simp [*]; done))
      refine wpAnyH_take (i := 0) (v := ?_) rfl (by kernel_rfl) (by kernel_rfl) (by kernel_rfl) (fun _ _ _ h => h) (Or.inl ⟨by rfl, ?_⟩) (by assumption) ?_
      rotate_left
      · (intro w hSw; (try dsimp only at hSw); go_simp; try with_reducible rfl)
      try simp only [List.getElem_toArray, List.getElem_cons_zero, Act.put, List.setIfInBounds_toArray, List.set_cons_zero, List.set_cons_succ]
      refine wpAnyH_take (i := 1) (v := ?_) rfl (by kernel_rfl) (by kernel_rfl) (by kernel_rfl) (fun _ _ _ h => h) (Or.inl ⟨by rfl, ?_⟩) (by assumption) ?_
      rotate_left
      · (intro w hSw; (try dsimp only at hSw); go_simp; try with_reducible rfl)
      try simp only [List.getElem_toArray, List.getElem_cons_succ, List.getElem_cons_zero, Act.put, List.setIfInBounds_toArray, List.set_cons_zero, List.set_cons_succ]
      refine wpAnyH_take (i := 2) (v := ?_) rfl (by kernel_rfl) (by kernel_rfl) (by kernel_rfl) (fun _ _ _ h => h) (Or.inl ⟨by rfl, ?_⟩) (by assumption) ?_
      rotate_left
      · (intro w hSw; (try dsimp only at hSw); go_simp; try with_reducible rfl)
      try simp only [List.getElem_toArray, List.getElem_cons_succ, List.getElem_cons_zero, Act.put, List.setIfInBounds_toArray, List.set_cons_zero, List.set_cons_succ]
      refine wpAnyH_take (i := 3) (v := ?_) rfl (by kernel_rfl) (by kernel_rfl) (by kernel_rfl) (fun _ _ _ h => h) (Or.inl ⟨by rfl, ?_⟩) (by assumption) ?_
      rotate_left
      · (intro w hSw; (try dsimp only at hSw); go_simp; try with_reducible rfl)
      try simp only [List.getElem_toArray, List.getElem_cons_succ, List.getElem_cons_zero, Act.put, List.setIfInBounds_toArray, List.set_cons_zero, List.set_cons_succ]
      refine wpAnyH_take (i := 4) (v := ?_) rfl (by kernel_rfl) (by kernel_rfl) (by kernel_rfl) (fun _ _ _ h => h) (Or.inl ⟨by rfl, ?_⟩) (by assumption) ?_
      rotate_left
      · (intro w hSw; (try dsimp only at hSw); go_simp; try with_reducible rfl)
      try simp only [List.getElem_toArray, List.getElem_cons_succ, List.getElem_cons_zero, Act.put, List.setIfInBounds_toArray, List.set_cons_zero, List.set_cons_succ]
      refine wpAnyH_ready (rs := [5]) (by kernel_rfl) (by simp) ?_
      refine AllReadyH.cons rfl (fun K hK => ?_) AllReadyH.nil
      go_simp
      refine hK.out _ _ ?_ (fun hHeld => ?_)
      · ((try dsimp only); first | (go_simp; done) | (simp [*]; done))
      clear hK K
      try simp only [List.getElem_toArray, List.getElem_cons_succ, List.getElem_cons_zero, Act.put, List.setIfInBounds_toArray, List.set_cons_zero, List.set_cons_succ]
      refine wpAnyH_ready (rs := [6]) (by kernel_rfl) (by simp) ?_
      refine AllReadyH.cons rfl (fun K hK => ?_) AllReadyH.nil
      go_simp
      refine hK.out _ _ ?_ (fun hHeld => ?_)
      · ((try dsimp only); first | (go_simp; done) | (simp [*]; done))
      clear hK K
      try simp only [List.getElem_toArray, List.getElem_cons_succ, List.getElem_cons_zero, Act.put, List.setIfInBounds_toArray, List.set_cons_zero, List.set_cons_succ]
      refine wpAnyH_take (i := 7) (v := ?_) rfl (by kernel_rfl) (by kernel_rfl) (by kernel_rfl) (fun _ _ _ h => h) (Or.inl ⟨by rfl, ?_⟩) (by assumption) ?_
      rotate_left
      · (intro w hSw; (try dsimp only at hSw); go_simp; try with_reducible rfl)
      try simp only [List.getElem_toArray, List.getElem_cons_succ, List.getElem_cons_zero, Act.put, List.setIfInBounds_toArray, List.set_cons_zero, List.set_cons_succ]
      refine wpAnyH_done (by kernel_rfl) ?_ _
      refine NoPanic.normal ?_
      go_wp2_with fail
      refine bodyPost_ret (v := .tuple #[.agg #[.int .i64 lim, .slice (some ⟨g', 0, none⟩) M.length cap'], .agg #[.int .i64 r, .bool true, .int .u64 cn], .int .i64 0]) (by simp [results, Tryd.results19, go_sem, y0, y1, z0, z1, z2]) rfl ?_
      refine ⟨g', cap', ?_, ?_, ?_, (below_set HB3.out (by omega) (by omega) _ _ _ _ _).drew, HG3.out.imp id (fun h => by omega)⟩
      · rw [HU4.out trivial, HU2.out, HU1.out]; rfl
      · rw [HU1.out]
        exact (row_set HR3.out (by have := HG3.out; omega) (by have := HG3.out; omega) _ _ _ _ _).dr
      · simpa [World.setCell] using HL3.out
    · have hne : (er != 0) = true := by simpa using her
      have HER := Lib.hid her
      clear her
      have HM := Lib.hid (HME.out HER.out)
      have HSZ : Hid (∀ u0 u1 v0 v1 v2 o, Below w.heap.size w ((((((w2.setCell ⟨w.heap.size + 1 + 1, 0, none⟩ u0).setCell ⟨w.heap.size + 1 + 1, 1, none⟩ u1).setCell ⟨w.heap.size + 1 + 1 + 1, 0, none⟩ v0).setCell ⟨w.heap.size + 1 + 1 + 1, 1, none⟩ v1).setCell ⟨w.heap.size + 1 + 1 + 1, 2, none⟩ v2).alloc o)) := Lib.hid (fun u0 u1 v0 v1 v2 o => (below_set HB2.out (by omega) (by omega) u0 u1 v0 v1 v2).alloc (below_set HB2.out (by omega) (by omega) u0 u1 v0 v1 v2).size o)
      go_wp2_with fail
      refine bodyPost_ret (v := .tuple #[.agg #[.int .i64 lim, .slice (some ⟨g, 0, none⟩) L.length cap], .agg #[.int .i64 0, .bool false, .int .u64 0], .int .i64 er]) (by simp [results, Tryd.results19, go_sem, y0, y1, z0, z1, z2, l2, l3]) rfl ?_
      exact refRekey_same (by rw [HU1.out, HM.out]) HU2.out (HU5.out HER.out) HR.out hg (HSZ.out _ _ _ _ _ _)
end Go.Proofs.YtonpjogaamgceaaDoor
