/- Walks: sharing, as the reference does it: the whole. -/
import Derived.Test.YtlckajnbmkkpeaaDoorQg
namespace Go.Proofs.YtlckajnbmkkpeaaDoor
open Go.RowKit Go.Maps

set_option maxRecDepth 100000 in
set_option maxHeartbeats 4000000 in
theorem refShare_any (lim : Nat) (g cap : Nat) (L : List Nd) (hw : WFp L) (hm : L.length ≤ 65536) (x y : Int) (w : World) (hr : rowAt w g L) (hg : g < w.heap.size) :
    Calls Tryd.prog 68 #[.agg #[.int .i64 lim, .slice (some ⟨g, 0, none⟩) L.length cap], .int .i64 x, .int .i64 y] w (RefSh lim L x y w) := by
  have HW := Lib.hid hw; clear hw
  have HR := Lib.hid hr; clear hr
  have HM := Lib.hid hm; clear hm
  have HB2 := Lib.hid (fun o1 o2 => ((Below.refl w.heap.size w).alloc (Nat.le_refl _) o1).alloc (by simp) o2)
  have HB3 := Lib.hid (fun o1 o2 o3 => (HB2.out o1 o2).alloc (by simp; omega) o3)
  have HB4 := Lib.hid (fun o1 o2 o3 o4 => (HB3.out o1 o2 o3).alloc (by simp; omega) o4)
  cases hx : hasB L.length x
  · have HBO : Hid (both L x y = false) := Lib.hid (by simp [both, hx])
    go_enter Tryd.func68, Tryd.ntmps68
    go_wp2_with (go_at_call 18; refine (refHas_any _ _ _ _ _ _).mono ?_; rintro e w' ⟨rfl, rfl⟩)
    refine bodyPost_ret (v := .tuple #[.agg #[.int .i64 lim, .slice (some ⟨g, 0, none⟩) L.length cap], .int .i64 0, .int .i64 1]) (by simp [results, Tryd.results68, go_sem]) rfl ?_
    unfold RefSh shL shR shE
    rw [HBO.out]
    exact ⟨g, cap, rfl, HR.out.keep ((HB3.out _ _ _).block g hg), by simp; omega, HB3.out _ _ _⟩
  cases hy : hasB L.length y
  · have HBO : Hid (both L x y = false) := Lib.hid (by simp [both, hy])
    go_enter Tryd.func68, Tryd.ntmps68
    go_wp2_with (go_at_call 18; refine (refHas_any _ _ _ _ _ _).mono ?_; rintro e w' ⟨rfl, rfl⟩)
    refine bodyPost_ret (v := .tuple #[.agg #[.int .i64 lim, .slice (some ⟨g, 0, none⟩) L.length cap], .int .i64 0, .int .i64 1]) (by simp [results, Tryd.results68, go_sem]) rfl ?_
    unfold RefSh shL shR shE
    rw [HBO.out]
    exact ⟨g, cap, rfl, HR.out.keep ((HB4.out _ _ _ _).block g hg), by simp; omega, HB4.out _ _ _ _⟩
  have HBO : Hid (both L x y = true) := Lib.hid (by simp [both, hx, hy])
  have hyy := (both_iff.1 HBO.out).2
  obtain ⟨j, rfl⟩ := Int.eq_ofNat_of_zero_le hyy.1
  have hj : j < L.length := by omega
  have rj := HR.out j hj
  have hnd : nd L (j : Int) = L.getD j zN := by unfold nd; rw [Int.toNat_natCast]
  obtain ⟨m, hmm⟩ : ∃ m, m = L.getD j zN := ⟨_, rfl⟩
  rw [← hmm] at rj hnd
  clear hmm hyy
  obtain ⟨k2, n2, a2, b2, e2⟩ := m
  obtain ⟨rj0, rj1, rj2, rj3, rj4⟩ := rj
  simp only at rj0 rj1 rj2 rj3 rj4
  have q2 : g < w.heap.size + 1 := by omega
  have q3 : g < w.heap.size + 1 + 1 := by omega
  have q4 : g < w.heap.size + 1 + 1 + 1 := by omega
  by_cases hk : k2 = 2
  · subst hk
    have HC := Lib.hid (fun o1 o2 o3 o4 => refCmp_any (lim : Int) g cap L HW.out x a2 ((((w.alloc o1).alloc o2).alloc o3).alloc o4) (HR.out.keep ((HB4.out o1 o2 o3 o4).block g hg)) (by simp; omega))
    by_cases hc : cmp L x a2 ≤ 0
    · have HSN : Hid (shN L x (j : Int) = ⟨3, 0, x, a2, 0⟩) := Lib.hid (by unfold shN; rw [hnd]; simp [hc])
      clear hnd
      go_enter Tryd.func68, Tryd.ntmps68
      go_wp2_with (first
        | (go_at_call 18; refine (refHas_any _ _ _ _ _ _).mono ?_; rintro e w' ⟨rfl, rfl⟩)
        | (go_at_call 77; refine (HC.out _ _ _ _).mono ?_; rintro e w1 ⟨rfl, hb1⟩
           have hc1 := bcell hb1
           have hs1 := hb1.size
           simp only [World.size_alloc] at hc1 hs1
           have t0 : w1.cell? ⟨w.heap.size, 0, none⟩ = some (.int .i64 lim) := (by rw [hc1 _ _ (by omega)]; go_simp)
           have t1 : w1.cell? ⟨w.heap.size, 1, none⟩ = some (.slice (some ⟨g, 0, none⟩) L.length cap) := (by rw [hc1 _ _ (by omega)]; go_simp)
           clear hc1 hs1))
      have hc1 := bcell hb1
      have hf1 := bfroz hb1
      have hs1 := hb1.size
      simp only [World.size_alloc] at hc1 hf1 hs1
      have t0 : w1.cell? ⟨w.heap.size, 0, none⟩ = some (.int .i64 lim) := by rw [hc1 _ _ (by omega)]; go_simp
      have t1 : w1.cell? ⟨w.heap.size, 1, none⟩ = some (.slice (some ⟨g, 0, none⟩) L.length cap) := by rw [hc1 _ _ (by omega)]; go_simp
      have Y0 : w1.cell? ⟨w.heap.size + 1, 0, none⟩ = some (.int .i64 0) := by rw [hc1 _ _ (by omega)]; go_simp
      have Y1 : w1.cell? ⟨w.heap.size + 1, 1, none⟩ = some (.slice none 0 0) := by rw [hc1 _ _ (by omega)]; go_simp
      have X0 : w1.frozen? ⟨w.heap.size + 1, 0, none⟩ = false := by rw [hf1 _ _ (by omega)]; go_simp
      have X1 : w1.frozen? ⟨w.heap.size + 1, 1, none⟩ = false := by rw [hf1 _ _ (by omega)]; go_simp
      have L1 : w.heap.size + 1 < w1.heap.size := by omega
      refine (refMk_any lim g cap L HW.out HM.out 3 0 x a2 0 w1 (HR.out.keep (((HB4.out _ _ _ _).trans (hb1.mono (HB4.out _ _ _ _).size)).block g hg)) (by have := ((HB4.out _ _ _ _).trans (hb1.mono (HB4.out _ _ _ _).size)).size; omega)).mono ?_
      rintro e w4 ⟨g', cap', rfl, hrow, hglt, hb4⟩
      have y0 := (bcell hb4 (w.heap.size + 1) 0 L1).trans Y0
      have y1 := (bcell hb4 (w.heap.size + 1) 1 L1).trans Y1
      have x0 := (bfroz hb4 (w.heap.size + 1) 0 L1).trans X0
      have x1 := (bfroz hb4 (w.heap.size + 1) 1 L1).trans X1
      have hne := row_ne hrow (mkL_pos HW.out.pos) y1
      have HP := Lib.hid (refSh_close (cap' := cap') HBO.out HSN.out hrow hglt hne (((HB4.out _ _ _ _).trans (hb1.mono (HB4.out _ _ _ _).size)).trans (hb4.mono ((HB4.out _ _ _ _).trans (hb1.mono (HB4.out _ _ _ _).size)).size)) (show w.heap.size ≤ w.heap.size + 1 by omega))
      clear hrow hglt hne hb4
      go_wp2_with fail
      exact bodyPost_ret (v := .tuple #[.agg #[.int .i64 lim, .slice (some ⟨g', 0, none⟩) (mkL lim L ⟨3, 0, x, a2, 0⟩).length cap'], .int .i64 (mkR lim L ⟨3, 0, x, a2, 0⟩), .int .i64 (mkE lim L ⟨3, 0, x, a2, 0⟩)]) (by simp [results, Tryd.results68, go_sem, y0, y1]) rfl (HP.out _ _)
    · have HSN : Hid (shN L x (j : Int) = ⟨3, 0, a2, x, 0⟩) := Lib.hid (by unfold shN; rw [hnd]; simp [hc])
      have hcd : decide (cmp L x a2 ≤ 0) = false := by simpa using hc
      clear hnd hc
      go_enter Tryd.func68, Tryd.ntmps68
      go_wp2_with (first
        | (go_at_call 18; refine (refHas_any _ _ _ _ _ _).mono ?_; rintro e w' ⟨rfl, rfl⟩)
        | (go_at_call 77; refine (HC.out _ _ _ _).mono ?_; rintro e w1 ⟨rfl, hb1⟩
           have hc1 := bcell hb1
           have hs1 := hb1.size
           simp only [World.size_alloc] at hc1 hs1
           have t0 : w1.cell? ⟨w.heap.size, 0, none⟩ = some (.int .i64 lim) := (by rw [hc1 _ _ (by omega)]; go_simp)
           have t1 : w1.cell? ⟨w.heap.size, 1, none⟩ = some (.slice (some ⟨g, 0, none⟩) L.length cap) := (by rw [hc1 _ _ (by omega)]; go_simp)
           clear hc1 hs1))
      have hc1 := bcell hb1
      have hf1 := bfroz hb1
      have hs1 := hb1.size
      simp only [World.size_alloc] at hc1 hf1 hs1
      have t0 : w1.cell? ⟨w.heap.size, 0, none⟩ = some (.int .i64 lim) := by rw [hc1 _ _ (by omega)]; go_simp
      have t1 : w1.cell? ⟨w.heap.size, 1, none⟩ = some (.slice (some ⟨g, 0, none⟩) L.length cap) := by rw [hc1 _ _ (by omega)]; go_simp
      have Y0 : w1.cell? ⟨w.heap.size + 1, 0, none⟩ = some (.int .i64 0) := by rw [hc1 _ _ (by omega)]; go_simp
      have Y1 : w1.cell? ⟨w.heap.size + 1, 1, none⟩ = some (.slice none 0 0) := by rw [hc1 _ _ (by omega)]; go_simp
      have X0 : w1.frozen? ⟨w.heap.size + 1, 0, none⟩ = false := by rw [hf1 _ _ (by omega)]; go_simp
      have X1 : w1.frozen? ⟨w.heap.size + 1, 1, none⟩ = false := by rw [hf1 _ _ (by omega)]; go_simp
      have L1 : w.heap.size + 1 < w1.heap.size := by omega
      refine (refMk_any lim g cap L HW.out HM.out 3 0 a2 x 0 w1 (HR.out.keep (((HB4.out _ _ _ _).trans (hb1.mono (HB4.out _ _ _ _).size)).block g hg)) (by have := ((HB4.out _ _ _ _).trans (hb1.mono (HB4.out _ _ _ _).size)).size; omega)).mono ?_
      rintro e w4 ⟨g', cap', rfl, hrow, hglt, hb4⟩
      have y0 := (bcell hb4 (w.heap.size + 1) 0 L1).trans Y0
      have y1 := (bcell hb4 (w.heap.size + 1) 1 L1).trans Y1
      have x0 := (bfroz hb4 (w.heap.size + 1) 0 L1).trans X0
      have x1 := (bfroz hb4 (w.heap.size + 1) 1 L1).trans X1
      have hne := row_ne hrow (mkL_pos HW.out.pos) y1
      have HP := Lib.hid (refSh_close (cap' := cap') HBO.out HSN.out hrow hglt hne (((HB4.out _ _ _ _).trans (hb1.mono (HB4.out _ _ _ _).size)).trans (hb4.mono ((HB4.out _ _ _ _).trans (hb1.mono (HB4.out _ _ _ _).size)).size)) (show w.heap.size ≤ w.heap.size + 1 by omega))
      clear hrow hglt hne hb4
      go_wp2_with fail
      exact bodyPost_ret (v := .tuple #[.agg #[.int .i64 lim, .slice (some ⟨g', 0, none⟩) (mkL lim L ⟨3, 0, a2, x, 0⟩).length cap'], .int .i64 (mkR lim L ⟨3, 0, a2, x, 0⟩), .int .i64 (mkE lim L ⟨3, 0, a2, x, 0⟩)]) (by simp [results, Tryd.results68, go_sem, y0, y1]) rfl (HP.out _ _)
  · have HSN : Hid (shN L x (j : Int) = ⟨4, 0, x, j, 0⟩) := Lib.hid (by unfold shN; rw [hnd]; simp [hk])
    have hkd : (k2 != 2) = true := by simpa using hk
    clear hnd hk
    go_enter Tryd.func68, Tryd.ntmps68
    go_wp2_with (go_at_call 18; refine (refHas_any _ _ _ _ _ _).mono ?_; rintro e w' ⟨rfl, rfl⟩)
    refine (refMk_any lim g cap L HW.out HM.out 4 0 x j 0 _ (HR.out.keep ((HB4.out _ _ _ _).block g hg)) (by simp; omega)).mono ?_
    rintro e w4 ⟨g', cap', rfl, hrow, hglt, hb4⟩
    have y0 : w4.cell? ⟨w.heap.size + 1, 0, none⟩ = some (.int .i64 0) := (bcell hb4 (w.heap.size + 1) 0 (by simp)).trans (by go_simp)
    have y1 : w4.cell? ⟨w.heap.size + 1, 1, none⟩ = some (.slice none 0 0) := (bcell hb4 (w.heap.size + 1) 1 (by simp)).trans (by go_simp)
    have x0 : w4.frozen? ⟨w.heap.size + 1, 0, none⟩ = false := (bfroz hb4 (w.heap.size + 1) 0 (by simp)).trans (by go_simp)
    have x1 : w4.frozen? ⟨w.heap.size + 1, 1, none⟩ = false := (bfroz hb4 (w.heap.size + 1) 1 (by simp)).trans (by go_simp)
    have hne := row_ne hrow (mkL_pos HW.out.pos) y1
    have HP := Lib.hid (refSh_close (cap' := cap') HBO.out HSN.out hrow hglt hne ((HB4.out _ _ _ _).trans (hb4.mono (HB4.out _ _ _ _).size)) (show w.heap.size ≤ w.heap.size + 1 by omega))
    clear hrow hglt hne hb4
    go_wp2_with fail
    exact bodyPost_ret (v := .tuple #[.agg #[.int .i64 lim, .slice (some ⟨g', 0, none⟩) (mkL lim L ⟨4, 0, x, j, 0⟩).length cap'], .int .i64 (mkR lim L ⟨4, 0, x, j, 0⟩), .int .i64 (mkE lim L ⟨4, 0, x, j, 0⟩)]) (by simp [results, Tryd.results68, go_sem, y0, y1]) rfl (HP.out _ _)
end Go.Proofs.YtlckajnbmkkpeaaDoor
