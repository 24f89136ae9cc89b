/- Layer 4: walks of the reference: one, by kinds of step. -/
import Derived.Test.YtlckajnbmkkpeaaDoorFy
namespace Go.Proofs.YtlckajnbmkkpeaaDoor
open Go.RowKit Go.Maps

set_option maxRecDepth 100000 in
set_option maxHeartbeats 4000000 in
theorem one_3 (lim g cap : Nat) (L : List Nd) (hw : WFp L) (hm : L.length ≤ 65536) (sh sy : Option Addr) (ch cy : Nat) (H Y : List Int) (n a b c : Int) (w : World) (hr : rowAt w g L) (hg : g < w.heap.size) (_hH : IntsV w sh H) (hY : IntsV w sy Y) (_hhl : H.length ≤ 65536) (hyl : Y.length ≤ 65536) (hv : ∀ i, i < Y.length → hasB L.length (Y.getD i 0) = true) (hn0 : 0 ≤ n) (hn1 : n ≤ 18446744073709551615) :
    Calls Tryd.prog 49 #[.agg #[.int .i64 lim, .slice (some ⟨g, 0, none⟩) L.length cap], .slice sh H.length ch, .slice sy Y.length cy, aggR ⟨3, n, a, b, c⟩] w (OneP lim (stepY lim H L Y ⟨3, n, a, b, c⟩) w) := by
  have HSP := Lib.hid (step_split (lim := lim) (H := H) (L := L) (Y := Y) (s := ⟨3, n, a, b, c⟩) (show (3 : Int) ≠ 0 by decide))
  have HO0 := Lib.hid (obx_new w lim g cap L ⟨3, n, a, b, c⟩)
  have HAH := Lib.hid (fun wx => ahead_2 ⟨3, n, a, b, c⟩ Y.length wx)
  have HR := Lib.hid hr
  have HG := Lib.hid hg
  unfold aggR at HAH ⊢
  simp only at HAH ⊢
  have hu : ixS 3 = 2 := by decide
  by_cases hn : n = 0
  · skip
    cases hA : aheadB 2 Y.length ⟨3, n, a, b, c⟩ with
    | false =>
      have he : stepY lim H L Y ⟨3, n, a, b, c⟩ = ⟨L, 0, 12⟩ := by
        rw [HSP.out]; simp only [hu, hA, Bool.and_false]; rfl
      rw [he]
      rw [hA] at HAH
      clear he HSP hA
      subst hn
      clear hr hg _hH hY hv hu
      generalize Y.length = ny at *
      generalize H.length = nh at *
      go_enter Tryd.func49, Tryd.ntmps49
      go_wp2_with fail
      go_at_call 67
      refine (HAH.out _).mono ?_
      rintro e w1 ⟨rfl, hb1⟩
      have HO1 := Lib.hid (HO0.out.keep hb1)
      clear hb1
      obtain ⟨⟨a0, a1⟩, ⟨s0, s1, s2, s3, s4⟩, ⟨r0, r1, f0, f1⟩, lr⟩ := HO1.out.cells
      go_wp2_with fail
      refine bodyPost_ret (v := .tuple #[.agg #[.int .i64 lim, .slice (some ⟨g, 0, none⟩) L.length cap], .int .i64 0, .int .i64 12]) (by simp [results, Tryd.results49, go_sem, r0, r1]) rfl ?_
      exact one_end HO1.out HR.out HG.out 0 12 _ _
    | true =>
      have hgood : (opOk 3 && decide (loS 3 ≤ n) && decide (n ≤ hiS 3)) = true := by
        have e1 : loS 3 = 0 := by decide
        have e2 : hiS 3 = 0 := by decide
        have e3 : opOk 3 = true := by decide
        rw [e1, e2, e3]; simp; omega
      have hst : stepY lim H L Y ⟨3, n, a, b, c⟩ = shY lim L (Y.getD a.toNat 0) (Y.getD b.toNat 0) := by
        rw [HSP.out]; simp only [hu, hA, hgood, Bool.and_true, if_true]; rfl
      rw [hst]
      clear hst hgood HSP
      rw [hA] at HAH
      have hrg : (0 ≤ a ∧ a < Y.length) ∧ (0 ≤ b ∧ b < Y.length) := by
        simp only [aheadB, Bool.and_eq_true, Bool.or_eq_true, decide_eq_true_eq] at hA
        omega
      obtain ⟨⟨ha0, ha1⟩, hb0, hb1⟩ := hrg
      obtain ⟨gy, oy, rfl, hly, hya⟩ := hY (by omega)
      have hca := hya a.toNat (by omega)
      obtain ⟨va, hva⟩ : ∃ v, v = Y.getD a.toNat 0 := ⟨_, rfl⟩
      rw [← hva] at hca ⊢
      have hcb := hya b.toNat (by omega)
      obtain ⟨vb, hvb⟩ : ∃ v, v = Y.getD b.toNat 0 := ⟨_, rfl⟩
      rw [← hvb] at hcb ⊢
      have hsa : hasB L.length va = true := by rw [hva]; exact hv _ (by omega)
      have hsb : hasB L.length vb = true := by rw [hvb]; exact hv _ (by omega)
      have HCY := Lib.hid (show ∀ wx, Below w.heap.size w wx → wx.cell? ⟨gy, oy + a.toNat, none⟩ = some (.int .i64 va) ∧ wx.cell? ⟨gy, oy + b.toNat, none⟩ = some (.int .i64 vb) from fun wx hb => ⟨(hb.cell (p := ⟨gy, oy + a.toNat, none⟩) hly).trans hca, (hb.cell (p := ⟨gy, oy + b.toNat, none⟩) hly).trans hcb⟩)
      clear hya hca hva hcb hvb
      subst hn
      clear hA hv hu
      go_enter Tryd.func49, Tryd.ntmps49
      go_wp2_with fail
      go_at_call 67
      refine (HAH.out _).mono ?_
      rintro e w1 ⟨rfl, hb1⟩
      have HO1 := Lib.hid (HO0.out.keep hb1)
      clear hb1
      obtain ⟨⟨a0, a1⟩, ⟨s0, s1, s2, s3, s4⟩, ⟨r0, r1, f0, f1⟩, lr⟩ := HO1.out.cells
      obtain ⟨ya, yb⟩ := HCY.out _ HO1.out.bel
      have ly1 : gy < w1.heap.size := by have := HO1.out.bel.size; omega
      have HOd := Lib.hid (HO1.out.keep (Below.refl _ _).drew)
      have hn2 : w.heap.size ≠ w.heap.size + 1 + 1 := by omega
      have hn3 : gy ≠ w.heap.size + 1 + 1 := by omega
      have hn4 : w.heap.size + 1 + 1 ≠ w.heap.size := by omega
      have hn5 : w.heap.size + 1 + 1 ≠ gy := by omega
      go_wp2_with fail
      go_region_held3 (fun w' => w'.cell? ⟨w.heap.size, 0, none⟩ = some (.int .i64 lim) ∧ w'.cell? ⟨w.heap.size, 1, none⟩ = some (.slice (some ⟨g, 0, none⟩) L.length cap) ∧ w'.cell? ⟨w.heap.size + 1, 0, none⟩ = some (.int .i64 3) ∧ w'.cell? ⟨w.heap.size + 1, 1, none⟩ = some (.int .u64 0) ∧ w'.cell? ⟨w.heap.size + 1, 2, none⟩ = some (.int .i64 a) ∧ w'.cell? ⟨w.heap.size + 1, 3, none⟩ = some (.int .i64 b) ∧ w'.cell? ⟨w.heap.size + 1, 4, none⟩ = some (.int .i64 c) ∧ w'.cell? ⟨gy, oy + a.toNat, none⟩ = some (.int .i64 va) ∧ w'.cell? ⟨gy, oy + b.toNat, none⟩ = some (.int .i64 vb)) (go_keep)
        ((go_at_call 68; refine (refShare_any lim g cap L hw hm va vb _ (HR.out.keep (HOd.out.bel.block g HG.out)) (by have := HOd.out.bel.size; have := HG.out; omega)).mono ?_; rintro e w2 ⟨g', cap', rfl, hrow, hlt2, hb2⟩; have HN : Hid (∀ u v, OneP lim (shY lim L va vb) w (.returned (.tuple #[.agg #[.int .i64 lim, .slice (some ⟨g', 0, none⟩) (shL lim L va vb).length cap'], .int .i64 (shR lim L va vb), .int .i64 (shE lim L va vb)])) ((w2.setCell ⟨w.heap.size + 1 + 1, 0, none⟩ u).setCell ⟨w.heap.size + 1 + 1, 1, none⟩ v)) := Lib.hid (fun u v => one_new (st := shY lim L va vb) (cap' := cap') HOd.out hb2 hrow (show 0 < (shL lim L va vb).length from shL_pos hw.pos) hlt2 u v); have HO2 := Lib.hid (HOd.out.keep hb2); clear hb2 hrow hlt2; obtain ⟨⟨b0, b1⟩, ⟨q0, q1, q2, q3, q4⟩, ⟨z0, z1, x0, x1⟩, lz⟩ := HO2.out.cells; obtain ⟨ta, tb⟩ := HCY.out _ HO2.out.bel; generalize shR lim L va vb = R at *; generalize shE lim L va vb = E at *; generalize (shL lim L va vb).length = nl at *))
      go_wp2_with fail
      refine bodyPost_ret (v := .tuple #[.agg #[.int .i64 lim, .slice (some ⟨g', 0, none⟩) nl cap'], .int .i64 R, .int .i64 E]) (by simp [results, Tryd.results49, go_sem, z0, z1]) rfl ?_
      exact HN.out _ _
  · have he : stepY lim H L Y ⟨3, n, a, b, c⟩ = ⟨L, 0, 12⟩ := by
      have e1 : loS 3 = 0 := by decide
      have e2 : hiS 3 = 0 := by decide
      have hnx : ¬ ((opOk 3 && decide (loS 3 ≤ n) && decide (n ≤ hiS 3)) && aheadB (ixS 3) Y.length ⟨3, n, a, b, c⟩) = true := by
        rw [e1, e2]
        simp only [Bool.and_eq_true, decide_eq_true_eq]
        omega
      rw [HSP.out, if_neg hnx]; rfl
    rw [he]
    clear he HSP
    have hnb : (n != 0) = true := by simpa using hn
    clear hr hg _hH hY hv hu
    generalize Y.length = ny at *
    generalize H.length = nh at *
    go_enter Tryd.func49, Tryd.ntmps49
    go_wp2_with fail
    refine bodyPost_ret (v := .tuple #[.agg #[.int .i64 lim, .slice (some ⟨g, 0, none⟩) L.length cap], .int .i64 0, .int .i64 12]) (by simp [results, Tryd.results49, go_sem]) rfl ?_
    exact one_end0 HR.out HG.out 0 12 _ _ _
set_option maxRecDepth 100000 in
set_option maxHeartbeats 4000000 in
theorem one_5 (lim g cap : Nat) (L : List Nd) (hw : WFp L) (hm : L.length ≤ 65536) (sh sy : Option Addr) (ch cy : Nat) (H Y : List Int) (n a b c : Int) (w : World) (hr : rowAt w g L) (hg : g < w.heap.size) (_hH : IntsV w sh H) (hY : IntsV w sy Y) (_hhl : H.length ≤ 65536) (hyl : Y.length ≤ 65536) (hv : ∀ i, i < Y.length → hasB L.length (Y.getD i 0) = true) (hn0 : 0 ≤ n) (hn1 : n ≤ 18446744073709551615) :
    Calls Tryd.prog 49 #[.agg #[.int .i64 lim, .slice (some ⟨g, 0, none⟩) L.length cap], .slice sh H.length ch, .slice sy Y.length cy, aggR ⟨5, n, a, b, c⟩] w (OneP lim (stepY lim H L Y ⟨5, n, a, b, c⟩) w) := by
  have HSP := Lib.hid (step_split (lim := lim) (H := H) (L := L) (Y := Y) (s := ⟨5, n, a, b, c⟩) (show (5 : Int) ≠ 0 by decide))
  have HO0 := Lib.hid (obx_new w lim g cap L ⟨5, n, a, b, c⟩)
  have HAH := Lib.hid (fun wx => ahead_2 ⟨5, n, a, b, c⟩ Y.length wx)
  have HR := Lib.hid hr
  have HG := Lib.hid hg
  unfold aggR at HAH ⊢
  simp only at HAH ⊢
  have hu : ixS 5 = 2 := by decide
  by_cases hn : n = 0
  · skip
    cases hA : aheadB 2 Y.length ⟨5, n, a, b, c⟩ with
    | false =>
      have he : stepY lim H L Y ⟨5, n, a, b, c⟩ = ⟨L, 0, 12⟩ := by
        rw [HSP.out]; simp only [hu, hA, Bool.and_false]; rfl
      rw [he]
      rw [hA] at HAH
      clear he HSP hA
      subst hn
      clear hr hg _hH hY hv hu
      generalize Y.length = ny at *
      generalize H.length = nh at *
      go_enter Tryd.func49, Tryd.ntmps49
      go_wp2_with fail
      go_at_call 67
      refine (HAH.out _).mono ?_
      rintro e w1 ⟨rfl, hb1⟩
      have HO1 := Lib.hid (HO0.out.keep hb1)
      clear hb1
      obtain ⟨⟨a0, a1⟩, ⟨s0, s1, s2, s3, s4⟩, ⟨r0, r1, f0, f1⟩, lr⟩ := HO1.out.cells
      go_wp2_with fail
      refine bodyPost_ret (v := .tuple #[.agg #[.int .i64 lim, .slice (some ⟨g, 0, none⟩) L.length cap], .int .i64 0, .int .i64 12]) (by simp [results, Tryd.results49, go_sem, r0, r1]) rfl ?_
      exact one_end HO1.out HR.out HG.out 0 12 _ _
    | true =>
      have hgood : (opOk 5 && decide (loS 5 ≤ n) && decide (n ≤ hiS 5)) = true := by
        have e1 : loS 5 = 0 := by decide
        have e2 : hiS 5 = 0 := by decide
        have e3 : opOk 5 = true := by decide
        rw [e1, e2, e3]; simp; omega
      have hst : stepY lim H L Y ⟨5, n, a, b, c⟩ = mkY lim L ⟨5, n, (Y.getD a.toNat 0), (Y.getD b.toNat 0), 0⟩ := by
        rw [HSP.out]; simp only [hu, hA, hgood, Bool.and_true, if_true]; rfl
      rw [hst]
      clear hst hgood HSP
      rw [hA] at HAH
      have hrg : (0 ≤ a ∧ a < Y.length) ∧ (0 ≤ b ∧ b < Y.length) := by
        simp only [aheadB, Bool.and_eq_true, Bool.or_eq_true, decide_eq_true_eq] at hA
        omega
      obtain ⟨⟨ha0, ha1⟩, hb0, hb1⟩ := hrg
      obtain ⟨gy, oy, rfl, hly, hya⟩ := hY (by omega)
      have hca := hya a.toNat (by omega)
      obtain ⟨va, hva⟩ : ∃ v, v = Y.getD a.toNat 0 := ⟨_, rfl⟩
      rw [← hva] at hca ⊢
      have hcb := hya b.toNat (by omega)
      obtain ⟨vb, hvb⟩ : ∃ v, v = Y.getD b.toNat 0 := ⟨_, rfl⟩
      rw [← hvb] at hcb ⊢
      have hsa : hasB L.length va = true := by rw [hva]; exact hv _ (by omega)
      have hsb : hasB L.length vb = true := by rw [hvb]; exact hv _ (by omega)
      have HCY := Lib.hid (show ∀ wx, Below w.heap.size w wx → wx.cell? ⟨gy, oy + a.toNat, none⟩ = some (.int .i64 va) ∧ wx.cell? ⟨gy, oy + b.toNat, none⟩ = some (.int .i64 vb) from fun wx hb => ⟨(hb.cell (p := ⟨gy, oy + a.toNat, none⟩) hly).trans hca, (hb.cell (p := ⟨gy, oy + b.toNat, none⟩) hly).trans hcb⟩)
      clear hya hca hva hcb hvb
      subst hn
      clear hA hv hu
      go_enter Tryd.func49, Tryd.ntmps49
      go_wp2_with fail
      go_at_call 67
      refine (HAH.out _).mono ?_
      rintro e w1 ⟨rfl, hb1⟩
      have HO1 := Lib.hid (HO0.out.keep hb1)
      clear hb1
      obtain ⟨⟨a0, a1⟩, ⟨s0, s1, s2, s3, s4⟩, ⟨r0, r1, f0, f1⟩, lr⟩ := HO1.out.cells
      obtain ⟨ya, yb⟩ := HCY.out _ HO1.out.bel
      have ly1 : gy < w1.heap.size := by have := HO1.out.bel.size; omega
      have HOd := Lib.hid (HO1.out.keep (Below.refl _ _).drew)
      have hn2 : w.heap.size ≠ w.heap.size + 1 + 1 := by omega
      have hn3 : gy ≠ w.heap.size + 1 + 1 := by omega
      have hn4 : w.heap.size + 1 + 1 ≠ w.heap.size := by omega
      have hn5 : w.heap.size + 1 + 1 ≠ gy := by omega
      go_wp2_with fail
      go_region_held3 (fun w' => w'.cell? ⟨w.heap.size, 0, none⟩ = some (.int .i64 lim) ∧ w'.cell? ⟨w.heap.size, 1, none⟩ = some (.slice (some ⟨g, 0, none⟩) L.length cap) ∧ w'.cell? ⟨w.heap.size + 1, 0, none⟩ = some (.int .i64 5) ∧ w'.cell? ⟨w.heap.size + 1, 1, none⟩ = some (.int .u64 0) ∧ w'.cell? ⟨w.heap.size + 1, 2, none⟩ = some (.int .i64 a) ∧ w'.cell? ⟨w.heap.size + 1, 3, none⟩ = some (.int .i64 b) ∧ w'.cell? ⟨w.heap.size + 1, 4, none⟩ = some (.int .i64 c) ∧ w'.cell? ⟨gy, oy + a.toNat, none⟩ = some (.int .i64 va) ∧ w'.cell? ⟨gy, oy + b.toNat, none⟩ = some (.int .i64 vb)) (go_keep)
        ((go_at_call 38; refine (refMk_any lim g cap L hw hm 5 (0) va vb 0 _ (HR.out.keep (HOd.out.bel.block g HG.out)) (by have := HOd.out.bel.size; have := HG.out; omega)).mono ?_; rintro e w2 ⟨g', cap', rfl, hrow, hlt2, hb2⟩; have HN : Hid (∀ u v, OneP lim (mkY lim L ⟨5, 0, va, vb, 0⟩) w (.returned (.tuple #[.agg #[.int .i64 lim, .slice (some ⟨g', 0, none⟩) (mkL lim L ⟨5, 0, va, vb, 0⟩).length cap'], .int .i64 (mkR lim L ⟨5, 0, va, vb, 0⟩), .int .i64 (mkE lim L ⟨5, 0, va, vb, 0⟩)])) ((w2.setCell ⟨w.heap.size + 1 + 1, 0, none⟩ u).setCell ⟨w.heap.size + 1 + 1, 1, none⟩ v)) := Lib.hid (fun u v => one_new (st := mkY lim L ⟨5, 0, va, vb, 0⟩) (cap' := cap') HOd.out hb2 hrow (show 0 < (mkL lim L ⟨5, 0, va, vb, 0⟩).length from mkL_pos hw.pos) hlt2 u v); have HO2 := Lib.hid (HOd.out.keep hb2); clear hb2 hrow hlt2; obtain ⟨⟨b0, b1⟩, ⟨q0, q1, q2, q3, q4⟩, ⟨z0, z1, x0, x1⟩, lz⟩ := HO2.out.cells; obtain ⟨ta, tb⟩ := HCY.out _ HO2.out.bel; generalize mkR lim L ⟨5, 0, va, vb, 0⟩ = R at *; generalize mkE lim L ⟨5, 0, va, vb, 0⟩ = E at *; generalize (mkL lim L ⟨5, 0, va, vb, 0⟩).length = nl at *))
      go_wp2_with fail
      refine bodyPost_ret (v := .tuple #[.agg #[.int .i64 lim, .slice (some ⟨g', 0, none⟩) nl cap'], .int .i64 R, .int .i64 E]) (by simp [results, Tryd.results49, go_sem, z0, z1]) rfl ?_
      exact HN.out _ _
  · have he : stepY lim H L Y ⟨5, n, a, b, c⟩ = ⟨L, 0, 12⟩ := by
      have e1 : loS 5 = 0 := by decide
      have e2 : hiS 5 = 0 := by decide
      have hnx : ¬ ((opOk 5 && decide (loS 5 ≤ n) && decide (n ≤ hiS 5)) && aheadB (ixS 5) Y.length ⟨5, n, a, b, c⟩) = true := by
        rw [e1, e2]
        simp only [Bool.and_eq_true, decide_eq_true_eq]
        omega
      rw [HSP.out, if_neg hnx]; rfl
    rw [he]
    clear he HSP
    have hnb : (n != 0) = true := by simpa using hn
    clear hr hg _hH hY hv hu
    generalize Y.length = ny at *
    generalize H.length = nh at *
    go_enter Tryd.func49, Tryd.ntmps49
    go_wp2_with fail
    refine bodyPost_ret (v := .tuple #[.agg #[.int .i64 lim, .slice (some ⟨g, 0, none⟩) L.length cap], .int .i64 0, .int .i64 12]) (by simp [results, Tryd.results49, go_sem]) rfl ?_
    exact one_end0 HR.out HG.out 0 12 _ _ _
set_option maxRecDepth 100000 in
set_option maxHeartbeats 4000000 in
theorem one_6 (lim g cap : Nat) (L : List Nd) (hw : WFp L) (hm : L.length ≤ 65536) (sh sy : Option Addr) (ch cy : Nat) (H Y : List Int) (n a b c : Int) (w : World) (hr : rowAt w g L) (hg : g < w.heap.size) (_hH : IntsV w sh H) (hY : IntsV w sy Y) (_hhl : H.length ≤ 65536) (hyl : Y.length ≤ 65536) (hv : ∀ i, i < Y.length → hasB L.length (Y.getD i 0) = true) (hn0 : 0 ≤ n) (hn1 : n ≤ 18446744073709551615) :
    Calls Tryd.prog 49 #[.agg #[.int .i64 lim, .slice (some ⟨g, 0, none⟩) L.length cap], .slice sh H.length ch, .slice sy Y.length cy, aggR ⟨6, n, a, b, c⟩] w (OneP lim (stepY lim H L Y ⟨6, n, a, b, c⟩) w) := by
  have HSP := Lib.hid (step_split (lim := lim) (H := H) (L := L) (Y := Y) (s := ⟨6, n, a, b, c⟩) (show (6 : Int) ≠ 0 by decide))
  have HO0 := Lib.hid (obx_new w lim g cap L ⟨6, n, a, b, c⟩)
  have HAH := Lib.hid (fun wx => ahead_2 ⟨6, n, a, b, c⟩ Y.length wx)
  have HR := Lib.hid hr
  have HG := Lib.hid hg
  unfold aggR at HAH ⊢
  simp only at HAH ⊢
  have hu : ixS 6 = 2 := by decide
  by_cases hn : 1 ≤ n ∧ n ≤ 4
  · skip
    cases hA : aheadB 2 Y.length ⟨6, n, a, b, c⟩ with
    | false =>
      have he : stepY lim H L Y ⟨6, n, a, b, c⟩ = ⟨L, 0, 12⟩ := by
        rw [HSP.out]; simp only [hu, hA, Bool.and_false]; rfl
      rw [he]
      rw [hA] at HAH
      clear he HSP hA
      obtain ⟨hlo, hhi⟩ := hn
      clear hr hg _hH hY hv hu
      generalize Y.length = ny at *
      generalize H.length = nh at *
      go_enter Tryd.func49, Tryd.ntmps49
      go_wp2_with fail
      go_at_call 67
      refine (HAH.out _).mono ?_
      rintro e w1 ⟨rfl, hb1⟩
      have HO1 := Lib.hid (HO0.out.keep hb1)
      clear hb1
      obtain ⟨⟨a0, a1⟩, ⟨s0, s1, s2, s3, s4⟩, ⟨r0, r1, f0, f1⟩, lr⟩ := HO1.out.cells
      go_wp2_with fail
      refine bodyPost_ret (v := .tuple #[.agg #[.int .i64 lim, .slice (some ⟨g, 0, none⟩) L.length cap], .int .i64 0, .int .i64 12]) (by simp [results, Tryd.results49, go_sem, r0, r1]) rfl ?_
      exact one_end HO1.out HR.out HG.out 0 12 _ _
    | true =>
      have hgood : (opOk 6 && decide (loS 6 ≤ n) && decide (n ≤ hiS 6)) = true := by
        have e1 : loS 6 = 1 := by decide
        have e2 : hiS 6 = 4 := by decide
        have e3 : opOk 6 = true := by decide
        rw [e1, e2, e3]; simp; omega
      have hst : stepY lim H L Y ⟨6, n, a, b, c⟩ = mkY lim L ⟨6, n, (Y.getD a.toNat 0), (Y.getD b.toNat 0), 0⟩ := by
        rw [HSP.out]; simp only [hu, hA, hgood, Bool.and_true, if_true]; rfl
      rw [hst]
      clear hst hgood HSP
      rw [hA] at HAH
      have hrg : (0 ≤ a ∧ a < Y.length) ∧ (0 ≤ b ∧ b < Y.length) := by
        simp only [aheadB, Bool.and_eq_true, Bool.or_eq_true, decide_eq_true_eq] at hA
        omega
      obtain ⟨⟨ha0, ha1⟩, hb0, hb1⟩ := hrg
      obtain ⟨gy, oy, rfl, hly, hya⟩ := hY (by omega)
      have hca := hya a.toNat (by omega)
      obtain ⟨va, hva⟩ : ∃ v, v = Y.getD a.toNat 0 := ⟨_, rfl⟩
      rw [← hva] at hca ⊢
      have hcb := hya b.toNat (by omega)
      obtain ⟨vb, hvb⟩ : ∃ v, v = Y.getD b.toNat 0 := ⟨_, rfl⟩
      rw [← hvb] at hcb ⊢
      have hsa : hasB L.length va = true := by rw [hva]; exact hv _ (by omega)
      have hsb : hasB L.length vb = true := by rw [hvb]; exact hv _ (by omega)
      have HCY := Lib.hid (show ∀ wx, Below w.heap.size w wx → wx.cell? ⟨gy, oy + a.toNat, none⟩ = some (.int .i64 va) ∧ wx.cell? ⟨gy, oy + b.toNat, none⟩ = some (.int .i64 vb) from fun wx hb => ⟨(hb.cell (p := ⟨gy, oy + a.toNat, none⟩) hly).trans hca, (hb.cell (p := ⟨gy, oy + b.toNat, none⟩) hly).trans hcb⟩)
      clear hya hca hva hcb hvb
      obtain ⟨hlo, hhi⟩ := hn
      clear hA hv hu
      go_enter Tryd.func49, Tryd.ntmps49
      go_wp2_with fail
      go_at_call 67
      refine (HAH.out _).mono ?_
      rintro e w1 ⟨rfl, hb1⟩
      have HO1 := Lib.hid (HO0.out.keep hb1)
      clear hb1
      obtain ⟨⟨a0, a1⟩, ⟨s0, s1, s2, s3, s4⟩, ⟨r0, r1, f0, f1⟩, lr⟩ := HO1.out.cells
      obtain ⟨ya, yb⟩ := HCY.out _ HO1.out.bel
      have ly1 : gy < w1.heap.size := by have := HO1.out.bel.size; omega
      have HOd := Lib.hid (HO1.out.keep (Below.refl _ _).drew)
      have hn2 : w.heap.size ≠ w.heap.size + 1 + 1 := by omega
      have hn3 : gy ≠ w.heap.size + 1 + 1 := by omega
      have hn4 : w.heap.size + 1 + 1 ≠ w.heap.size := by omega
      have hn5 : w.heap.size + 1 + 1 ≠ gy := by omega
      go_wp2_with fail
      go_region_held3 (fun w' => w'.cell? ⟨w.heap.size, 0, none⟩ = some (.int .i64 lim) ∧ w'.cell? ⟨w.heap.size, 1, none⟩ = some (.slice (some ⟨g, 0, none⟩) L.length cap) ∧ w'.cell? ⟨w.heap.size + 1, 0, none⟩ = some (.int .i64 6) ∧ w'.cell? ⟨w.heap.size + 1, 1, none⟩ = some (.int .u64 n) ∧ w'.cell? ⟨w.heap.size + 1, 2, none⟩ = some (.int .i64 a) ∧ w'.cell? ⟨w.heap.size + 1, 3, none⟩ = some (.int .i64 b) ∧ w'.cell? ⟨w.heap.size + 1, 4, none⟩ = some (.int .i64 c) ∧ w'.cell? ⟨gy, oy + a.toNat, none⟩ = some (.int .i64 va) ∧ w'.cell? ⟨gy, oy + b.toNat, none⟩ = some (.int .i64 vb)) (go_keep)
        ((go_at_call 38; refine (refMk_any lim g cap L hw hm 6 (n) va vb 0 _ (HR.out.keep (HOd.out.bel.block g HG.out)) (by have := HOd.out.bel.size; have := HG.out; omega)).mono ?_; rintro e w2 ⟨g', cap', rfl, hrow, hlt2, hb2⟩; have HN : Hid (∀ u v, OneP lim (mkY lim L ⟨6, n, va, vb, 0⟩) w (.returned (.tuple #[.agg #[.int .i64 lim, .slice (some ⟨g', 0, none⟩) (mkL lim L ⟨6, n, va, vb, 0⟩).length cap'], .int .i64 (mkR lim L ⟨6, n, va, vb, 0⟩), .int .i64 (mkE lim L ⟨6, n, va, vb, 0⟩)])) ((w2.setCell ⟨w.heap.size + 1 + 1, 0, none⟩ u).setCell ⟨w.heap.size + 1 + 1, 1, none⟩ v)) := Lib.hid (fun u v => one_new (st := mkY lim L ⟨6, n, va, vb, 0⟩) (cap' := cap') HOd.out hb2 hrow (show 0 < (mkL lim L ⟨6, n, va, vb, 0⟩).length from mkL_pos hw.pos) hlt2 u v); have HO2 := Lib.hid (HOd.out.keep hb2); clear hb2 hrow hlt2; obtain ⟨⟨b0, b1⟩, ⟨q0, q1, q2, q3, q4⟩, ⟨z0, z1, x0, x1⟩, lz⟩ := HO2.out.cells; obtain ⟨ta, tb⟩ := HCY.out _ HO2.out.bel; generalize mkR lim L ⟨6, n, va, vb, 0⟩ = R at *; generalize mkE lim L ⟨6, n, va, vb, 0⟩ = E at *; generalize (mkL lim L ⟨6, n, va, vb, 0⟩).length = nl at *))
      go_wp2_with fail
      refine bodyPost_ret (v := .tuple #[.agg #[.int .i64 lim, .slice (some ⟨g', 0, none⟩) nl cap'], .int .i64 R, .int .i64 E]) (by simp [results, Tryd.results49, go_sem, z0, z1]) rfl ?_
      exact HN.out _ _
  · have he : stepY lim H L Y ⟨6, n, a, b, c⟩ = ⟨L, 0, 12⟩ := by
      have e1 : loS 6 = 1 := by decide
      have e2 : hiS 6 = 4 := by decide
      have hnx : ¬ ((opOk 6 && decide (loS 6 ≤ n) && decide (n ≤ hiS 6)) && aheadB (ixS 6) Y.length ⟨6, n, a, b, c⟩) = true := by
        rw [e1, e2]
        simp only [Bool.and_eq_true, decide_eq_true_eq]
        omega
      rw [HSP.out, if_neg hnx]; rfl
    rw [he]
    clear he HSP
    by_cases hlo : n < 1
    · skip
      clear hr hg _hH hY hv hu
      generalize Y.length = ny at *
      generalize H.length = nh at *
      go_enter Tryd.func49, Tryd.ntmps49
      go_wp2_with fail
      refine bodyPost_ret (v := .tuple #[.agg #[.int .i64 lim, .slice (some ⟨g, 0, none⟩) L.length cap], .int .i64 0, .int .i64 12]) (by simp [results, Tryd.results49, go_sem]) rfl ?_
      exact one_end0 HR.out HG.out 0 12 _ _ _
    · have hhi : 4 < n := by omega
      clear hr hg _hH hY hv hu
      generalize Y.length = ny at *
      generalize H.length = nh at *
      go_enter Tryd.func49, Tryd.ntmps49
      go_wp2_with fail
      refine bodyPost_ret (v := .tuple #[.agg #[.int .i64 lim, .slice (some ⟨g, 0, none⟩) L.length cap], .int .i64 0, .int .i64 12]) (by simp [results, Tryd.results49, go_sem]) rfl ?_
      exact one_end0 HR.out HG.out 0 12 _ _ _
set_option maxRecDepth 100000 in
set_option maxHeartbeats 4000000 in
theorem one_7 (lim g cap : Nat) (L : List Nd) (hw : WFp L) (hm : L.length ≤ 65536) (sh sy : Option Addr) (ch cy : Nat) (H Y : List Int) (n a b c : Int) (w : World) (hr : rowAt w g L) (hg : g < w.heap.size) (_hH : IntsV w sh H) (hY : IntsV w sy Y) (_hhl : H.length ≤ 65536) (hyl : Y.length ≤ 65536) (hv : ∀ i, i < Y.length → hasB L.length (Y.getD i 0) = true) (hn0 : 0 ≤ n) (hn1 : n ≤ 18446744073709551615) :
    Calls Tryd.prog 49 #[.agg #[.int .i64 lim, .slice (some ⟨g, 0, none⟩) L.length cap], .slice sh H.length ch, .slice sy Y.length cy, aggR ⟨7, n, a, b, c⟩] w (OneP lim (stepY lim H L Y ⟨7, n, a, b, c⟩) w) := by
  have HSP := Lib.hid (step_split (lim := lim) (H := H) (L := L) (Y := Y) (s := ⟨7, n, a, b, c⟩) (show (7 : Int) ≠ 0 by decide))
  have HO0 := Lib.hid (obx_new w lim g cap L ⟨7, n, a, b, c⟩)
  have HAH := Lib.hid (fun wx => ahead_3 ⟨7, n, a, b, c⟩ Y.length wx)
  have HR := Lib.hid hr
  have HG := Lib.hid hg
  unfold aggR at HAH ⊢
  simp only at HAH ⊢
  have hu : ixS 7 = 3 := by decide
  cases hA : aheadB 3 Y.length ⟨7, n, a, b, c⟩ with
  | false =>
    have he : stepY lim H L Y ⟨7, n, a, b, c⟩ = ⟨L, 0, 12⟩ := by
      rw [HSP.out]; simp only [hu, hA, Bool.and_false]; rfl
    rw [he]
    rw [hA] at HAH
    clear he HSP hA
    clear hr hg _hH hY hv hu
    generalize Y.length = ny at *
    generalize H.length = nh at *
    go_enter Tryd.func49, Tryd.ntmps49
    go_wp2_with fail
    go_at_call 67
    refine (HAH.out _).mono ?_
    rintro e w1 ⟨rfl, hb1⟩
    have HO1 := Lib.hid (HO0.out.keep hb1)
    clear hb1
    obtain ⟨⟨a0, a1⟩, ⟨s0, s1, s2, s3, s4⟩, ⟨r0, r1, f0, f1⟩, lr⟩ := HO1.out.cells
    go_wp2_with fail
    refine bodyPost_ret (v := .tuple #[.agg #[.int .i64 lim, .slice (some ⟨g, 0, none⟩) L.length cap], .int .i64 0, .int .i64 12]) (by simp [results, Tryd.results49, go_sem, r0, r1]) rfl ?_
    exact one_end HO1.out HR.out HG.out 0 12 _ _
  | true =>
    have hgood : (opOk 7 && decide (loS 7 ≤ n) && decide (n ≤ hiS 7)) = true := by
      have e1 : loS 7 = 0 := by decide
      have e2 : hiS 7 = 18446744073709551615 := by decide
      have e3 : opOk 7 = true := by decide
      rw [e1, e2, e3]; simp; omega
    have hst : stepY lim H L Y ⟨7, n, a, b, c⟩ = mkY lim L ⟨7, n, (Y.getD a.toNat 0), (Y.getD b.toNat 0), (Y.getD c.toNat 0)⟩ := by
      rw [HSP.out]; simp only [hu, hA, hgood, Bool.and_true, if_true]; rfl
    rw [hst]
    clear hst hgood HSP
    rw [hA] at HAH
    have hrg : (0 ≤ a ∧ a < Y.length) ∧ (0 ≤ b ∧ b < Y.length) ∧ (0 ≤ c ∧ c < Y.length) := by
      simp only [aheadB, Bool.and_eq_true, Bool.or_eq_true, decide_eq_true_eq] at hA
      omega
    obtain ⟨⟨ha0, ha1⟩, ⟨hb0, hb1⟩, hc0, hc1⟩ := hrg
    obtain ⟨gy, oy, rfl, hly, hya⟩ := hY (by omega)
    have hca := hya a.toNat (by omega)
    obtain ⟨va, hva⟩ : ∃ v, v = Y.getD a.toNat 0 := ⟨_, rfl⟩
    rw [← hva] at hca ⊢
    have hcb := hya b.toNat (by omega)
    obtain ⟨vb, hvb⟩ : ∃ v, v = Y.getD b.toNat 0 := ⟨_, rfl⟩
    rw [← hvb] at hcb ⊢
    have hcc := hya c.toNat (by omega)
    obtain ⟨vc, hvc⟩ : ∃ v, v = Y.getD c.toNat 0 := ⟨_, rfl⟩
    rw [← hvc] at hcc ⊢
    have hsa : hasB L.length va = true := by rw [hva]; exact hv _ (by omega)
    have hsb : hasB L.length vb = true := by rw [hvb]; exact hv _ (by omega)
    have hsc : hasB L.length vc = true := by rw [hvc]; exact hv _ (by omega)
    have HCY := Lib.hid (show ∀ wx, Below w.heap.size w wx → wx.cell? ⟨gy, oy + a.toNat, none⟩ = some (.int .i64 va) ∧ wx.cell? ⟨gy, oy + b.toNat, none⟩ = some (.int .i64 vb) ∧ wx.cell? ⟨gy, oy + c.toNat, none⟩ = some (.int .i64 vc) from fun wx hb => ⟨(hb.cell (p := ⟨gy, oy + a.toNat, none⟩) hly).trans hca, (hb.cell (p := ⟨gy, oy + b.toNat, none⟩) hly).trans hcb, (hb.cell (p := ⟨gy, oy + c.toNat, none⟩) hly).trans hcc⟩)
    clear hya hca hva hcb hvb hcc hvc
    clear hA hv hu
    go_enter Tryd.func49, Tryd.ntmps49
    go_wp2_with fail
    go_at_call 67
    refine (HAH.out _).mono ?_
    rintro e w1 ⟨rfl, hb1⟩
    have HO1 := Lib.hid (HO0.out.keep hb1)
    clear hb1
    obtain ⟨⟨a0, a1⟩, ⟨s0, s1, s2, s3, s4⟩, ⟨r0, r1, f0, f1⟩, lr⟩ := HO1.out.cells
    obtain ⟨ya, yb, yc⟩ := HCY.out _ HO1.out.bel
    have ly1 : gy < w1.heap.size := by have := HO1.out.bel.size; omega
    have HOd := Lib.hid (HO1.out.keep (Below.refl _ _).drew)
    have hn2 : w.heap.size ≠ w.heap.size + 1 + 1 := by omega
    have hn3 : gy ≠ w.heap.size + 1 + 1 := by omega
    have hn4 : w.heap.size + 1 + 1 ≠ w.heap.size := by omega
    have hn5 : w.heap.size + 1 + 1 ≠ gy := by omega
    go_wp2_with fail
    go_region_held3 (fun w' => w'.cell? ⟨w.heap.size, 0, none⟩ = some (.int .i64 lim) ∧ w'.cell? ⟨w.heap.size, 1, none⟩ = some (.slice (some ⟨g, 0, none⟩) L.length cap) ∧ w'.cell? ⟨w.heap.size + 1, 0, none⟩ = some (.int .i64 7) ∧ w'.cell? ⟨w.heap.size + 1, 1, none⟩ = some (.int .u64 n) ∧ w'.cell? ⟨w.heap.size + 1, 2, none⟩ = some (.int .i64 a) ∧ w'.cell? ⟨w.heap.size + 1, 3, none⟩ = some (.int .i64 b) ∧ w'.cell? ⟨w.heap.size + 1, 4, none⟩ = some (.int .i64 c) ∧ w'.cell? ⟨gy, oy + a.toNat, none⟩ = some (.int .i64 va) ∧ w'.cell? ⟨gy, oy + b.toNat, none⟩ = some (.int .i64 vb) ∧ w'.cell? ⟨gy, oy + c.toNat, none⟩ = some (.int .i64 vc)) (go_keep)
      ((go_at_call 38; refine (refMk_any lim g cap L hw hm 7 (n) va vb vc _ (HR.out.keep (HOd.out.bel.block g HG.out)) (by have := HOd.out.bel.size; have := HG.out; omega)).mono ?_; rintro e w2 ⟨g', cap', rfl, hrow, hlt2, hb2⟩; have HN : Hid (∀ u v, OneP lim (mkY lim L ⟨7, n, va, vb, vc⟩) w (.returned (.tuple #[.agg #[.int .i64 lim, .slice (some ⟨g', 0, none⟩) (mkL lim L ⟨7, n, va, vb, vc⟩).length cap'], .int .i64 (mkR lim L ⟨7, n, va, vb, vc⟩), .int .i64 (mkE lim L ⟨7, n, va, vb, vc⟩)])) ((w2.setCell ⟨w.heap.size + 1 + 1, 0, none⟩ u).setCell ⟨w.heap.size + 1 + 1, 1, none⟩ v)) := Lib.hid (fun u v => one_new (st := mkY lim L ⟨7, n, va, vb, vc⟩) (cap' := cap') HOd.out hb2 hrow (show 0 < (mkL lim L ⟨7, n, va, vb, vc⟩).length from mkL_pos hw.pos) hlt2 u v); have HO2 := Lib.hid (HOd.out.keep hb2); clear hb2 hrow hlt2; obtain ⟨⟨b0, b1⟩, ⟨q0, q1, q2, q3, q4⟩, ⟨z0, z1, x0, x1⟩, lz⟩ := HO2.out.cells; obtain ⟨ta, tb, tc⟩ := HCY.out _ HO2.out.bel; generalize mkR lim L ⟨7, n, va, vb, vc⟩ = R at *; generalize mkE lim L ⟨7, n, va, vb, vc⟩ = E at *; generalize (mkL lim L ⟨7, n, va, vb, vc⟩).length = nl at *))
    go_wp2_with fail
    refine bodyPost_ret (v := .tuple #[.agg #[.int .i64 lim, .slice (some ⟨g', 0, none⟩) nl cap'], .int .i64 R, .int .i64 E]) (by simp [results, Tryd.results49, go_sem, z0, z1]) rfl ?_
    exact HN.out _ _
set_option maxRecDepth 100000 in
set_option maxHeartbeats 4000000 in
theorem one_8 (lim g cap : Nat) (L : List Nd) (hw : WFp L) (hm : L.length ≤ 65536) (sh sy : Option Addr) (ch cy : Nat) (H Y : List Int) (n a b c : Int) (w : World) (hr : rowAt w g L) (hg : g < w.heap.size) (_hH : IntsV w sh H) (hY : IntsV w sy Y) (_hhl : H.length ≤ 65536) (hyl : Y.length ≤ 65536) (hv : ∀ i, i < Y.length → hasB L.length (Y.getD i 0) = true) (hn0 : 0 ≤ n) (hn1 : n ≤ 18446744073709551615) :
    Calls Tryd.prog 49 #[.agg #[.int .i64 lim, .slice (some ⟨g, 0, none⟩) L.length cap], .slice sh H.length ch, .slice sy Y.length cy, aggR ⟨8, n, a, b, c⟩] w (OneP lim (stepY lim H L Y ⟨8, n, a, b, c⟩) w) := by
  have HSP := Lib.hid (step_split (lim := lim) (H := H) (L := L) (Y := Y) (s := ⟨8, n, a, b, c⟩) (show (8 : Int) ≠ 0 by decide))
  have HO0 := Lib.hid (obx_new w lim g cap L ⟨8, n, a, b, c⟩)
  have HAH := Lib.hid (fun wx => ahead_2 ⟨8, n, a, b, c⟩ Y.length wx)
  have HR := Lib.hid hr
  have HG := Lib.hid hg
  unfold aggR at HAH ⊢
  simp only at HAH ⊢
  have hu : ixS 8 = 2 := by decide
  by_cases hn : n = 0
  · skip
    cases hA : aheadB 2 Y.length ⟨8, n, a, b, c⟩ with
    | false =>
      have he : stepY lim H L Y ⟨8, n, a, b, c⟩ = ⟨L, 0, 12⟩ := by
        rw [HSP.out]; simp only [hu, hA, Bool.and_false]; rfl
      rw [he]
      rw [hA] at HAH
      clear he HSP hA
      subst hn
      clear hr hg _hH hY hv hu
      generalize Y.length = ny at *
      generalize H.length = nh at *
      go_enter Tryd.func49, Tryd.ntmps49
      go_wp2_with fail
      go_at_call 67
      refine (HAH.out _).mono ?_
      rintro e w1 ⟨rfl, hb1⟩
      have HO1 := Lib.hid (HO0.out.keep hb1)
      clear hb1
      obtain ⟨⟨a0, a1⟩, ⟨s0, s1, s2, s3, s4⟩, ⟨r0, r1, f0, f1⟩, lr⟩ := HO1.out.cells
      go_wp2_with fail
      refine bodyPost_ret (v := .tuple #[.agg #[.int .i64 lim, .slice (some ⟨g, 0, none⟩) L.length cap], .int .i64 0, .int .i64 12]) (by simp [results, Tryd.results49, go_sem, r0, r1]) rfl ?_
      exact one_end HO1.out HR.out HG.out 0 12 _ _
    | true =>
      have hgood : (opOk 8 && decide (loS 8 ≤ n) && decide (n ≤ hiS 8)) = true := by
        have e1 : loS 8 = 0 := by decide
        have e2 : hiS 8 = 0 := by decide
        have e3 : opOk 8 = true := by decide
        rw [e1, e2, e3]; simp; omega
      have hst : stepY lim H L Y ⟨8, n, a, b, c⟩ = mkY lim L ⟨8, n, (Y.getD a.toNat 0), (Y.getD b.toNat 0), 0⟩ := by
        rw [HSP.out]; simp only [hu, hA, hgood, Bool.and_true, if_true]; rfl
      rw [hst]
      clear hst hgood HSP
      rw [hA] at HAH
      have hrg : (0 ≤ a ∧ a < Y.length) ∧ (0 ≤ b ∧ b < Y.length) := by
        simp only [aheadB, Bool.and_eq_true, Bool.or_eq_true, decide_eq_true_eq] at hA
        omega
      obtain ⟨⟨ha0, ha1⟩, hb0, hb1⟩ := hrg
      obtain ⟨gy, oy, rfl, hly, hya⟩ := hY (by omega)
      have hca := hya a.toNat (by omega)
      obtain ⟨va, hva⟩ : ∃ v, v = Y.getD a.toNat 0 := ⟨_, rfl⟩
      rw [← hva] at hca ⊢
      have hcb := hya b.toNat (by omega)
      obtain ⟨vb, hvb⟩ : ∃ v, v = Y.getD b.toNat 0 := ⟨_, rfl⟩
      rw [← hvb] at hcb ⊢
      have hsa : hasB L.length va = true := by rw [hva]; exact hv _ (by omega)
      have hsb : hasB L.length vb = true := by rw [hvb]; exact hv _ (by omega)
      have HCY := Lib.hid (show ∀ wx, Below w.heap.size w wx → wx.cell? ⟨gy, oy + a.toNat, none⟩ = some (.int .i64 va) ∧ wx.cell? ⟨gy, oy + b.toNat, none⟩ = some (.int .i64 vb) from fun wx hb => ⟨(hb.cell (p := ⟨gy, oy + a.toNat, none⟩) hly).trans hca, (hb.cell (p := ⟨gy, oy + b.toNat, none⟩) hly).trans hcb⟩)
      clear hya hca hva hcb hvb
      subst hn
      clear hA hv hu
      go_enter Tryd.func49, Tryd.ntmps49
      go_wp2_with fail
      go_at_call 67
      refine (HAH.out _).mono ?_
      rintro e w1 ⟨rfl, hb1⟩
      have HO1 := Lib.hid (HO0.out.keep hb1)
      clear hb1
      obtain ⟨⟨a0, a1⟩, ⟨s0, s1, s2, s3, s4⟩, ⟨r0, r1, f0, f1⟩, lr⟩ := HO1.out.cells
      obtain ⟨ya, yb⟩ := HCY.out _ HO1.out.bel
      have ly1 : gy < w1.heap.size := by have := HO1.out.bel.size; omega
      have HOd := Lib.hid (HO1.out.keep (Below.refl _ _).drew)
      have hn2 : w.heap.size ≠ w.heap.size + 1 + 1 := by omega
      have hn3 : gy ≠ w.heap.size + 1 + 1 := by omega
      have hn4 : w.heap.size + 1 + 1 ≠ w.heap.size := by omega
      have hn5 : w.heap.size + 1 + 1 ≠ gy := by omega
      go_wp2_with fail
      go_region_held3 (fun w' => w'.cell? ⟨w.heap.size, 0, none⟩ = some (.int .i64 lim) ∧ w'.cell? ⟨w.heap.size, 1, none⟩ = some (.slice (some ⟨g, 0, none⟩) L.length cap) ∧ w'.cell? ⟨w.heap.size + 1, 0, none⟩ = some (.int .i64 8) ∧ w'.cell? ⟨w.heap.size + 1, 1, none⟩ = some (.int .u64 0) ∧ w'.cell? ⟨w.heap.size + 1, 2, none⟩ = some (.int .i64 a) ∧ w'.cell? ⟨w.heap.size + 1, 3, none⟩ = some (.int .i64 b) ∧ w'.cell? ⟨w.heap.size + 1, 4, none⟩ = some (.int .i64 c) ∧ w'.cell? ⟨gy, oy + a.toNat, none⟩ = some (.int .i64 va) ∧ w'.cell? ⟨gy, oy + b.toNat, none⟩ = some (.int .i64 vb)) (go_keep)
        ((go_at_call 38; refine (refMk_any lim g cap L hw hm 8 (0) va vb 0 _ (HR.out.keep (HOd.out.bel.block g HG.out)) (by have := HOd.out.bel.size; have := HG.out; omega)).mono ?_; rintro e w2 ⟨g', cap', rfl, hrow, hlt2, hb2⟩; have HN : Hid (∀ u v, OneP lim (mkY lim L ⟨8, 0, va, vb, 0⟩) w (.returned (.tuple #[.agg #[.int .i64 lim, .slice (some ⟨g', 0, none⟩) (mkL lim L ⟨8, 0, va, vb, 0⟩).length cap'], .int .i64 (mkR lim L ⟨8, 0, va, vb, 0⟩), .int .i64 (mkE lim L ⟨8, 0, va, vb, 0⟩)])) ((w2.setCell ⟨w.heap.size + 1 + 1, 0, none⟩ u).setCell ⟨w.heap.size + 1 + 1, 1, none⟩ v)) := Lib.hid (fun u v => one_new (st := mkY lim L ⟨8, 0, va, vb, 0⟩) (cap' := cap') HOd.out hb2 hrow (show 0 < (mkL lim L ⟨8, 0, va, vb, 0⟩).length from mkL_pos hw.pos) hlt2 u v); have HO2 := Lib.hid (HOd.out.keep hb2); clear hb2 hrow hlt2; obtain ⟨⟨b0, b1⟩, ⟨q0, q1, q2, q3, q4⟩, ⟨z0, z1, x0, x1⟩, lz⟩ := HO2.out.cells; obtain ⟨ta, tb⟩ := HCY.out _ HO2.out.bel; generalize mkR lim L ⟨8, 0, va, vb, 0⟩ = R at *; generalize mkE lim L ⟨8, 0, va, vb, 0⟩ = E at *; generalize (mkL lim L ⟨8, 0, va, vb, 0⟩).length = nl at *))
      go_wp2_with fail
      refine bodyPost_ret (v := .tuple #[.agg #[.int .i64 lim, .slice (some ⟨g', 0, none⟩) nl cap'], .int .i64 R, .int .i64 E]) (by simp [results, Tryd.results49, go_sem, z0, z1]) rfl ?_
      exact HN.out _ _
  · have he : stepY lim H L Y ⟨8, n, a, b, c⟩ = ⟨L, 0, 12⟩ := by
      have e1 : loS 8 = 0 := by decide
      have e2 : hiS 8 = 0 := by decide
      have hnx : ¬ ((opOk 8 && decide (loS 8 ≤ n) && decide (n ≤ hiS 8)) && aheadB (ixS 8) Y.length ⟨8, n, a, b, c⟩) = true := by
        rw [e1, e2]
        simp only [Bool.and_eq_true, decide_eq_true_eq]
        omega
      rw [HSP.out, if_neg hnx]; rfl
    rw [he]
    clear he HSP
    have hnb : (n != 0) = true := by simpa using hn
    clear hr hg _hH hY hv hu
    generalize Y.length = ny at *
    generalize H.length = nh at *
    go_enter Tryd.func49, Tryd.ntmps49
    go_wp2_with fail
    refine bodyPost_ret (v := .tuple #[.agg #[.int .i64 lim, .slice (some ⟨g, 0, none⟩) L.length cap], .int .i64 0, .int .i64 12]) (by simp [results, Tryd.results49, go_sem]) rfl ?_
    exact one_end0 HR.out HG.out 0 12 _ _ _
end Go.Proofs.YtlckajnbmkkpeaaDoor
