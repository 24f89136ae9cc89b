/- Layer 4: walks of the reference: one, by kinds of step. -/
import Derived.Test.YtlckajnbmkkpeaaDoorFy
namespace Go.Proofs.YtlckajnbmkkpeaaDoor
open Go.RowKit Go.Maps

set_option maxRecDepth 100000 in
set_option maxHeartbeats 4000000 in
theorem one_0 (lim g cap : Nat) (L : List Nd) (_hw : WFp L) (_hm : L.length ≤ 65536) (sh sy : Option Addr) (ch cy : Nat) (H Y : List Int) (n a b c : Int) (w : World) (hr : rowAt w g L) (hg : g < w.heap.size) (hH : IntsV w sh H) (_hY : IntsV w sy Y) (hhl : H.length ≤ 65536) (_hyl : Y.length ≤ 65536) (_hv : ∀ i, i < Y.length → hasB L.length (Y.getD i 0) = true) (hn0 : 0 ≤ n) (hn1 : n ≤ 18446744073709551615) :
    Calls Tryd.prog 49 #[.agg #[.int .i64 lim, .slice (some ⟨g, 0, none⟩) L.length cap], .slice sh H.length ch, .slice sy Y.length cy, aggR ⟨0, n, a, b, c⟩] w (OneP lim (stepY lim H L Y ⟨0, n, a, b, c⟩) w) := by
  have HO0 := Lib.hid (obx_new w lim g cap L ⟨0, n, a, b, c⟩)
  have HR := Lib.hid hr
  have HG := Lib.hid hg
  have hst : stepY lim H L Y ⟨0, n, a, b, c⟩ = if n = 0 ∧ b = 0 ∧ c = 0 ∧ 0 ≤ a ∧ a < H.length then ⟨L, H.getD a.toNat 0, 0⟩ else ⟨L, 0, 12⟩ := by
    have e1 : loS 0 = 0 := by decide
    have e2 : hiS 0 = 0 := by decide
    have e3 : opOk 0 = true := by decide
    have e4 : ixS 0 = 1 := by decide
    have hu : usedB ⟨0, n, a, b, c⟩ = (decide (n = 0) && decide (b = 0) && decide (c = 0)) := by
      unfold usedB
      simp only [e1, e2, e3, e4]
      rw [Bool.eq_iff_iff]
      simp
      omega
    have hp : pickB H (idx ⟨0, n, a, b, c⟩) = (decide (0 ≤ a) && decide (a < H.length)) := by
      unfold pickB idx; simp only [e4]; simp
    unfold stepY srcS
    rw [hu]
    simp only [if_true]
    rw [hp]
    by_cases h1 : n = 0 <;> by_cases h2 : b = 0 <;> by_cases h3 : c = 0 <;> by_cases h4 : 0 ≤ a <;> by_cases h5 : a < H.length <;> simp [h1, h2, h3, h4, h5, bad, doY, pickL, idx, e4]
  rw [hst]
  clear hst _hY _hv _hyl
  unfold aggR
  simp only
  by_cases h1 : n = 0
  · by_cases h2 : b = 0
    · by_cases h3 : c = 0
      · by_cases h4 : 0 ≤ a
        · by_cases h5 : a < H.length
          · skip
            rw [if_pos ⟨h1, h2, h3, h4, h5⟩]
            obtain ⟨gy, oy, rfl, hly, hya⟩ := hH (by omega)
            have hca := hya a.toNat (by omega)
            obtain ⟨va, hva⟩ : ∃ v, v = H.getD a.toNat 0 := ⟨_, rfl⟩
            rw [← hva] at hca ⊢
            clear hva hya
            subst h1
            subst h2
            subst h3
            have hha : a < (H.length : Int) := h5
            have HCY := Lib.hid (show ∀ wx, Below w.heap.size w wx → wx.cell? ⟨gy, oy + a.toNat, none⟩ = some (.int .i64 va) from fun wx hb => (hb.cell (p := ⟨gy, oy + a.toNat, none⟩) hly).trans hca)
            have hn2 : w.heap.size ≠ w.heap.size + 1 + 1 := by omega
            have hn3 : gy ≠ w.heap.size + 1 + 1 := by omega
            have hn4 : w.heap.size + 1 + 1 ≠ w.heap.size := by omega
            have hn5 : w.heap.size + 1 + 1 ≠ gy := by omega
            have HOd := Lib.hid (HO0.out.keep (Below.refl _ _).drew)
            obtain ⟨⟨a0, a1⟩, ⟨s0, s1, s2, s3, s4⟩, ⟨r0, r1, f0, f1⟩, lr⟩ := HOd.out.cells
            have ya := HCY.out _ HOd.out.bel
            have HCZ := Lib.hid (show ∀ o1 o2 o3, (((w.alloc o1).alloc o2).alloc o3).drew.cell? ⟨gy, oy + a.toNat, none⟩ = some (.int .i64 va) from fun o1 o2 o3 => HCY.out _ ((((Below.refl _ _).alloc (Nat.le_refl _) _).alloc (by simp) _).alloc (by simp; omega) _).drew)
            clear hca hr hg hH hhl
            generalize Y.length = ny at *
            go_enter Tryd.func49, Tryd.ntmps49
            go_wp2_with fail
            go_region_held3 (fun w' => w'.cell? ⟨w.heap.size, 0, none⟩ = some (.int .i64 lim) ∧ w'.cell? ⟨w.heap.size, 1, none⟩ = some (.slice (some ⟨g, 0, none⟩) L.length cap) ∧ w'.cell? ⟨w.heap.size + 1, 0, none⟩ = some (.int .i64 0) ∧ w'.cell? ⟨w.heap.size + 1, 1, none⟩ = some (.int .u64 0) ∧ w'.cell? ⟨w.heap.size + 1, 2, none⟩ = some (.int .i64 a) ∧ w'.cell? ⟨w.heap.size + 1, 3, none⟩ = some (.int .i64 0) ∧ w'.cell? ⟨w.heap.size + 1, 4, none⟩ = some (.int .i64 0) ∧ w'.cell? ⟨gy, oy + a.toNat, none⟩ = some (.int .i64 va)) (refine ⟨?_, ?_, ?_, ?_, ?_, ?_, ?_, ?_⟩ <;> first | exact HCZ.out _ _ _ | go_keep) (fail)
            go_wp2_with fail
            refine bodyPost_ret (v := .tuple #[.agg #[.int .i64 lim, .slice (some ⟨g, 0, none⟩) L.length cap], .int .i64 va, .int .i64 0]) (by simp [results, Tryd.results49, go_sem]) rfl ?_
            exact one_end0d HR.out HG.out va 0 _ _ _
          · skip
            subst h1
            subst h2
            subst h3
            have h6 : (H.length : Int) ≤ a := by omega
            rw [if_neg (by omega)]
            clear hr hg hH
            generalize Y.length = ny at *
            go_enter Tryd.func49, Tryd.ntmps49
            go_wp2_with fail
            refine bodyPost_ret (v := .tuple #[.agg #[.int .i64 lim, .slice (some ⟨g, 0, none⟩) L.length cap], .int .i64 0, .int .i64 12]) (by simp [results, Tryd.results49, go_sem]) rfl ?_
            exact one_end0 HR.out HG.out 0 12 _ _ _
        · skip
          subst h1
          subst h2
          subst h3
          have h6 : a < 0 := by omega
          rw [if_neg (by omega)]
          clear hr hg hH
          generalize Y.length = ny at *
          go_enter Tryd.func49, Tryd.ntmps49
          go_wp2_with fail
          refine bodyPost_ret (v := .tuple #[.agg #[.int .i64 lim, .slice (some ⟨g, 0, none⟩) L.length cap], .int .i64 0, .int .i64 12]) (by simp [results, Tryd.results49, go_sem]) rfl ?_
          exact one_end0 HR.out HG.out 0 12 _ _ _
      · skip
        subst h1
        subst h2
        have h6 : (c != 0) = true := by simpa using h3
        rw [if_neg (by omega)]
        clear hr hg hH
        generalize Y.length = ny at *
        go_enter Tryd.func49, Tryd.ntmps49
        go_wp2_with fail
        refine bodyPost_ret (v := .tuple #[.agg #[.int .i64 lim, .slice (some ⟨g, 0, none⟩) L.length cap], .int .i64 0, .int .i64 12]) (by simp [results, Tryd.results49, go_sem]) rfl ?_
        exact one_end0 HR.out HG.out 0 12 _ _ _
    · skip
      subst h1
      have h6 : (b != 0) = true := by simpa using h2
      rw [if_neg (by omega)]
      clear hr hg hH
      generalize Y.length = ny at *
      go_enter Tryd.func49, Tryd.ntmps49
      go_wp2_with fail
      refine bodyPost_ret (v := .tuple #[.agg #[.int .i64 lim, .slice (some ⟨g, 0, none⟩) L.length cap], .int .i64 0, .int .i64 12]) (by simp [results, Tryd.results49, go_sem]) rfl ?_
      exact one_end0 HR.out HG.out 0 12 _ _ _
  · skip
    have h6 : (n != 0) = true := by simpa using h1
    rw [if_neg (by omega)]
    clear hr hg hH
    generalize Y.length = ny at *
    go_enter Tryd.func49, Tryd.ntmps49
    go_wp2_with fail
    refine bodyPost_ret (v := .tuple #[.agg #[.int .i64 lim, .slice (some ⟨g, 0, none⟩) L.length cap], .int .i64 0, .int .i64 12]) (by simp [results, Tryd.results49, go_sem]) rfl ?_
    exact one_end0 HR.out HG.out 0 12 _ _ _
set_option maxRecDepth 100000 in
set_option maxHeartbeats 4000000 in
theorem one_1 (lim g cap : Nat) (L : List Nd) (hw : WFp L) (hm : L.length ≤ 65536) (sh sy : Option Addr) (ch cy : Nat) (H Y : List Int) (n a b c : Int) (w : World) (hr : rowAt w g L) (hg : g < w.heap.size) (_hH : IntsV w sh H) (_hY : IntsV w sy Y) (_hhl : H.length ≤ 65536) (_hyl : Y.length ≤ 65536) (_hv : ∀ i, i < Y.length → hasB L.length (Y.getD i 0) = true) (hn0 : 0 ≤ n) (hn1 : n ≤ 18446744073709551615) :
    Calls Tryd.prog 49 #[.agg #[.int .i64 lim, .slice (some ⟨g, 0, none⟩) L.length cap], .slice sh H.length ch, .slice sy Y.length cy, aggR ⟨1, n, a, b, c⟩] w (OneP lim (stepY lim H L Y ⟨1, n, a, b, c⟩) w) := by
  have HSP := Lib.hid (step_split (lim := lim) (H := H) (L := L) (Y := Y) (s := ⟨1, n, a, b, c⟩) (show (1 : Int) ≠ 0 by decide))
  have HO0 := Lib.hid (obx_new w lim g cap L ⟨1, n, a, b, c⟩)
  have HAH := Lib.hid (fun wx => ahead_0 ⟨1, n, a, b, c⟩ Y.length wx)
  have HR := Lib.hid hr
  have HG := Lib.hid hg
  unfold aggR at HAH ⊢
  simp only at HAH ⊢
  have hu : ixS 1 = 0 := by decide
  by_cases hn : n ≤ 1048575
  · skip
    cases hA : aheadB 0 Y.length ⟨1, n, a, b, c⟩ with
    | false =>
      have he : stepY lim H L Y ⟨1, n, a, b, c⟩ = ⟨L, 0, 12⟩ := by
        rw [HSP.out]; simp only [hu, hA, Bool.and_false]; rfl
      rw [he]
      rw [hA] at HAH
      clear he HSP hA
      have hlt : n < 1048576 := by omega
      clear hr hg _hH _hY _hv hu
      generalize Y.length = ny at *
      generalize H.length = nh at *
      go_enter Tryd.func49, Tryd.ntmps49
      go_wp2_with fail
      go_at_call 67
      refine (HAH.out _).mono ?_
      rintro e w1 ⟨rfl, hb1⟩
      have HO1 := Lib.hid (HO0.out.keep hb1)
      clear hb1
      obtain ⟨⟨a0, a1⟩, ⟨s0, s1, s2, s3, s4⟩, ⟨r0, r1, f0, f1⟩, lr⟩ := HO1.out.cells
      go_wp2_with fail
      refine bodyPost_ret (v := .tuple #[.agg #[.int .i64 lim, .slice (some ⟨g, 0, none⟩) L.length cap], .int .i64 0, .int .i64 12]) (by simp [results, Tryd.results49, go_sem, r0, r1]) rfl ?_
      exact one_end HO1.out HR.out HG.out 0 12 _ _
    | true =>
      have hgood : (opOk 1 && decide (loS 1 ≤ n) && decide (n ≤ hiS 1)) = true := by
        have e1 : loS 1 = 0 := by decide
        have e2 : hiS 1 = 1048575 := by decide
        have e3 : opOk 1 = true := by decide
        rw [e1, e2, e3]; simp; omega
      have hst : stepY lim H L Y ⟨1, n, a, b, c⟩ = mkY lim L ⟨1, 4294967296 + n, 0, 0, 0⟩ := by
        rw [HSP.out]; simp only [hu, hA, hgood, Bool.and_true, if_true]; rfl
      rw [hst]
      clear hst hgood HSP
      rw [hA] at HAH
      have hlt : n < 1048576 := by omega
      clear hA _hv hu
      go_enter Tryd.func49, Tryd.ntmps49
      go_wp2_with fail
      go_at_call 67
      refine (HAH.out _).mono ?_
      rintro e w1 ⟨rfl, hb1⟩
      have HO1 := Lib.hid (HO0.out.keep hb1)
      clear hb1
      obtain ⟨⟨a0, a1⟩, ⟨s0, s1, s2, s3, s4⟩, ⟨r0, r1, f0, f1⟩, lr⟩ := HO1.out.cells
      have HOd := HO1
      go_wp2_with fail
      go_at_call 38
      refine (refMk_any lim g cap L hw hm 1 (4294967296 + n) 0 0 0 _ (HR.out.keep (HO1.out.bel.block g HG.out)) (by have := HO1.out.bel.size; have := HG.out; omega)).mono ?_
      rintro e w2 ⟨g', cap', rfl, hrow, hlt2, hb2⟩
      have HN : Hid (∀ u v, OneP lim (mkY lim L ⟨1, 4294967296 + n, 0, 0, 0⟩) w (.returned (.tuple #[.agg #[.int .i64 lim, .slice (some ⟨g', 0, none⟩) (mkL lim L ⟨1, 4294967296 + n, 0, 0, 0⟩).length cap'], .int .i64 (mkR lim L ⟨1, 4294967296 + n, 0, 0, 0⟩), .int .i64 (mkE lim L ⟨1, 4294967296 + n, 0, 0, 0⟩)])) ((w2.setCell ⟨w.heap.size + 1 + 1, 0, none⟩ u).setCell ⟨w.heap.size + 1 + 1, 1, none⟩ v)) := Lib.hid (fun u v => one_new (st := mkY lim L ⟨1, 4294967296 + n, 0, 0, 0⟩) (cap' := cap') HOd.out hb2 hrow (show 0 < (mkL lim L ⟨1, 4294967296 + n, 0, 0, 0⟩).length from mkL_pos hw.pos) hlt2 u v)
      have HO2 := Lib.hid (HO1.out.keep hb2)
      clear hb2 hrow hlt2 a0 a1 s0 s1 s2 s3 s4 r0 r1 f0 f1 lr
      obtain ⟨⟨b0, b1⟩, ⟨q0, q1, q2, q3, q4⟩, ⟨z0, z1, x0, x1⟩, lz⟩ := HO2.out.cells
      generalize mkR lim L ⟨1, 4294967296 + n, 0, 0, 0⟩ = R at *
      generalize mkE lim L ⟨1, 4294967296 + n, 0, 0, 0⟩ = E at *
      generalize (mkL lim L ⟨1, 4294967296 + n, 0, 0, 0⟩).length = nl at *
      go_wp2_with fail
      refine bodyPost_ret (v := .tuple #[.agg #[.int .i64 lim, .slice (some ⟨g', 0, none⟩) nl cap'], .int .i64 R, .int .i64 E]) (by simp [results, Tryd.results49, go_sem, z0, z1]) rfl ?_
      exact HN.out _ _
  · have he : stepY lim H L Y ⟨1, n, a, b, c⟩ = ⟨L, 0, 12⟩ := by
      have e1 : loS 1 = 0 := by decide
      have e2 : hiS 1 = 1048575 := by decide
      have hnx : ¬ ((opOk 1 && decide (loS 1 ≤ n) && decide (n ≤ hiS 1)) && aheadB (ixS 1) Y.length ⟨1, n, a, b, c⟩) = true := by
        rw [e1, e2]
        simp only [Bool.and_eq_true, decide_eq_true_eq]
        omega
      rw [HSP.out, if_neg hnx]; rfl
    rw [he]
    clear he HSP
    have hge : 1048576 ≤ n := by omega
    clear hr hg _hH _hY _hv hu
    generalize Y.length = ny at *
    generalize H.length = nh at *
    go_enter Tryd.func49, Tryd.ntmps49
    go_wp2_with fail
    refine bodyPost_ret (v := .tuple #[.agg #[.int .i64 lim, .slice (some ⟨g, 0, none⟩) L.length cap], .int .i64 0, .int .i64 12]) (by simp [results, Tryd.results49, go_sem]) rfl ?_
    exact one_end0 HR.out HG.out 0 12 _ _ _
set_option maxRecDepth 100000 in
set_option maxHeartbeats 4000000 in
theorem one_2 (lim g cap : Nat) (L : List Nd) (hw : WFp L) (hm : L.length ≤ 65536) (sh sy : Option Addr) (ch cy : Nat) (H Y : List Int) (n a b c : Int) (w : World) (hr : rowAt w g L) (hg : g < w.heap.size) (_hH : IntsV w sh H) (hY : IntsV w sy Y) (_hhl : H.length ≤ 65536) (hyl : Y.length ≤ 65536) (hv : ∀ i, i < Y.length → hasB L.length (Y.getD i 0) = true) (hn0 : 0 ≤ n) (hn1 : n ≤ 18446744073709551615) :
    Calls Tryd.prog 49 #[.agg #[.int .i64 lim, .slice (some ⟨g, 0, none⟩) L.length cap], .slice sh H.length ch, .slice sy Y.length cy, aggR ⟨2, n, a, b, c⟩] w (OneP lim (stepY lim H L Y ⟨2, n, a, b, c⟩) w) := by
  have HSP := Lib.hid (step_split (lim := lim) (H := H) (L := L) (Y := Y) (s := ⟨2, n, a, b, c⟩) (show (2 : Int) ≠ 0 by decide))
  have HO0 := Lib.hid (obx_new w lim g cap L ⟨2, n, a, b, c⟩)
  have HAH := Lib.hid (fun wx => ahead_1 ⟨2, n, a, b, c⟩ Y.length wx)
  have HR := Lib.hid hr
  have HG := Lib.hid hg
  unfold aggR at HAH ⊢
  simp only at HAH ⊢
  have hu : ixS 2 = 1 := by decide
  by_cases hn : n = 0
  · skip
    cases hA : aheadB 1 Y.length ⟨2, n, a, b, c⟩ with
    | false =>
      have he : stepY lim H L Y ⟨2, n, a, b, c⟩ = ⟨L, 0, 12⟩ := by
        rw [HSP.out]; simp only [hu, hA, Bool.and_false]; rfl
      rw [he]
      rw [hA] at HAH
      clear he HSP hA
      subst hn
      clear hr hg _hH hY hv hu
      generalize Y.length = ny at *
      generalize H.length = nh at *
      go_enter Tryd.func49, Tryd.ntmps49
      go_wp2_with fail
      go_at_call 67
      refine (HAH.out _).mono ?_
      rintro e w1 ⟨rfl, hb1⟩
      have HO1 := Lib.hid (HO0.out.keep hb1)
      clear hb1
      obtain ⟨⟨a0, a1⟩, ⟨s0, s1, s2, s3, s4⟩, ⟨r0, r1, f0, f1⟩, lr⟩ := HO1.out.cells
      go_wp2_with fail
      refine bodyPost_ret (v := .tuple #[.agg #[.int .i64 lim, .slice (some ⟨g, 0, none⟩) L.length cap], .int .i64 0, .int .i64 12]) (by simp [results, Tryd.results49, go_sem, r0, r1]) rfl ?_
      exact one_end HO1.out HR.out HG.out 0 12 _ _
    | true =>
      have hgood : (opOk 2 && decide (loS 2 ≤ n) && decide (n ≤ hiS 2)) = true := by
        have e1 : loS 2 = 0 := by decide
        have e2 : hiS 2 = 0 := by decide
        have e3 : opOk 2 = true := by decide
        rw [e1, e2, e3]; simp; omega
      have hst : stepY lim H L Y ⟨2, n, a, b, c⟩ = mkY lim L ⟨2, n, (Y.getD a.toNat 0), 0, 0⟩ := by
        rw [HSP.out]; simp only [hu, hA, hgood, Bool.and_true, if_true]; rfl
      rw [hst]
      clear hst hgood HSP
      rw [hA] at HAH
      have hrg : (0 ≤ a ∧ a < Y.length) := by
        simp only [aheadB, Bool.and_eq_true, Bool.or_eq_true, decide_eq_true_eq] at hA
        omega
      obtain ⟨ha0, ha1⟩ := hrg
      obtain ⟨gy, oy, rfl, hly, hya⟩ := hY (by omega)
      have hca := hya a.toNat (by omega)
      obtain ⟨va, hva⟩ : ∃ v, v = Y.getD a.toNat 0 := ⟨_, rfl⟩
      rw [← hva] at hca ⊢
      have hsa : hasB L.length va = true := by rw [hva]; exact hv _ (by omega)
      have HCY := Lib.hid (show ∀ wx, Below w.heap.size w wx → wx.cell? ⟨gy, oy + a.toNat, none⟩ = some (.int .i64 va) from fun wx hb => (hb.cell (p := ⟨gy, oy + a.toNat, none⟩) hly).trans hca)
      clear hya hca hva
      subst hn
      clear hA hv hu
      go_enter Tryd.func49, Tryd.ntmps49
      go_wp2_with fail
      go_at_call 67
      refine (HAH.out _).mono ?_
      rintro e w1 ⟨rfl, hb1⟩
      have HO1 := Lib.hid (HO0.out.keep hb1)
      clear hb1
      obtain ⟨⟨a0, a1⟩, ⟨s0, s1, s2, s3, s4⟩, ⟨r0, r1, f0, f1⟩, lr⟩ := HO1.out.cells
      have ya := HCY.out _ HO1.out.bel
      have ly1 : gy < w1.heap.size := by have := HO1.out.bel.size; omega
      have HOd := Lib.hid (HO1.out.keep (Below.refl _ _).drew)
      have hn2 : w.heap.size ≠ w.heap.size + 1 + 1 := by omega
      have hn3 : gy ≠ w.heap.size + 1 + 1 := by omega
      have hn4 : w.heap.size + 1 + 1 ≠ w.heap.size := by omega
      have hn5 : w.heap.size + 1 + 1 ≠ gy := by omega
      go_wp2_with fail
      go_region_held3 (fun w' => w'.cell? ⟨w.heap.size, 0, none⟩ = some (.int .i64 lim) ∧ w'.cell? ⟨w.heap.size, 1, none⟩ = some (.slice (some ⟨g, 0, none⟩) L.length cap) ∧ w'.cell? ⟨w.heap.size + 1, 0, none⟩ = some (.int .i64 2) ∧ w'.cell? ⟨w.heap.size + 1, 1, none⟩ = some (.int .u64 0) ∧ w'.cell? ⟨w.heap.size + 1, 2, none⟩ = some (.int .i64 a) ∧ w'.cell? ⟨w.heap.size + 1, 3, none⟩ = some (.int .i64 b) ∧ w'.cell? ⟨w.heap.size + 1, 4, none⟩ = some (.int .i64 c) ∧ w'.cell? ⟨gy, oy + a.toNat, none⟩ = some (.int .i64 va)) (go_keep)
        ((go_at_call 38; refine (refMk_any lim g cap L hw hm 2 (0) va 0 0 _ (HR.out.keep (HOd.out.bel.block g HG.out)) (by have := HOd.out.bel.size; have := HG.out; omega)).mono ?_; rintro e w2 ⟨g', cap', rfl, hrow, hlt2, hb2⟩; have HN : Hid (∀ u v, OneP lim (mkY lim L ⟨2, 0, va, 0, 0⟩) w (.returned (.tuple #[.agg #[.int .i64 lim, .slice (some ⟨g', 0, none⟩) (mkL lim L ⟨2, 0, va, 0, 0⟩).length cap'], .int .i64 (mkR lim L ⟨2, 0, va, 0, 0⟩), .int .i64 (mkE lim L ⟨2, 0, va, 0, 0⟩)])) ((w2.setCell ⟨w.heap.size + 1 + 1, 0, none⟩ u).setCell ⟨w.heap.size + 1 + 1, 1, none⟩ v)) := Lib.hid (fun u v => one_new (st := mkY lim L ⟨2, 0, va, 0, 0⟩) (cap' := cap') HOd.out hb2 hrow (show 0 < (mkL lim L ⟨2, 0, va, 0, 0⟩).length from mkL_pos hw.pos) hlt2 u v); have HO2 := Lib.hid (HOd.out.keep hb2); clear hb2 hrow hlt2; obtain ⟨⟨b0, b1⟩, ⟨q0, q1, q2, q3, q4⟩, ⟨z0, z1, x0, x1⟩, lz⟩ := HO2.out.cells; have ta := HCY.out _ HO2.out.bel; generalize mkR lim L ⟨2, 0, va, 0, 0⟩ = R at *; generalize mkE lim L ⟨2, 0, va, 0, 0⟩ = E at *; generalize (mkL lim L ⟨2, 0, va, 0, 0⟩).length = nl at *))
      go_wp2_with fail
      refine bodyPost_ret (v := .tuple #[.agg #[.int .i64 lim, .slice (some ⟨g', 0, none⟩) nl cap'], .int .i64 R, .int .i64 E]) (by simp [results, Tryd.results49, go_sem, z0, z1]) rfl ?_
      exact HN.out _ _
  · have he : stepY lim H L Y ⟨2, n, a, b, c⟩ = ⟨L, 0, 12⟩ := by
      have e1 : loS 2 = 0 := by decide
      have e2 : hiS 2 = 0 := by decide
      have hnx : ¬ ((opOk 2 && decide (loS 2 ≤ n) && decide (n ≤ hiS 2)) && aheadB (ixS 2) Y.length ⟨2, n, a, b, c⟩) = true := by
        rw [e1, e2]
        simp only [Bool.and_eq_true, decide_eq_true_eq]
        omega
      rw [HSP.out, if_neg hnx]; rfl
    rw [he]
    clear he HSP
    have hnb : (n != 0) = true := by simpa using hn
    clear hr hg _hH hY hv hu
    generalize Y.length = ny at *
    generalize H.length = nh at *
    go_enter Tryd.func49, Tryd.ntmps49
    go_wp2_with fail
    refine bodyPost_ret (v := .tuple #[.agg #[.int .i64 lim, .slice (some ⟨g, 0, none⟩) L.length cap], .int .i64 0, .int .i64 12]) (by simp [results, Tryd.results49, go_sem]) rfl ?_
    exact one_end0 HR.out HG.out 0 12 _ _ _
set_option maxRecDepth 100000 in
set_option maxHeartbeats 4000000 in
theorem one_9 (lim g cap : Nat) (L : List Nd) (hw : WFp L) (hm : L.length ≤ 65536) (sh sy : Option Addr) (ch cy : Nat) (H Y : List Int) (n a b c : Int) (w : World) (hr : rowAt w g L) (hg : g < w.heap.size) (_hH : IntsV w sh H) (_hY : IntsV w sy Y) (_hhl : H.length ≤ 65536) (_hyl : Y.length ≤ 65536) (_hv : ∀ i, i < Y.length → hasB L.length (Y.getD i 0) = true) (hn0 : 0 ≤ n) (hn1 : n ≤ 18446744073709551615) :
    Calls Tryd.prog 49 #[.agg #[.int .i64 lim, .slice (some ⟨g, 0, none⟩) L.length cap], .slice sh H.length ch, .slice sy Y.length cy, aggR ⟨9, n, a, b, c⟩] w (OneP lim (stepY lim H L Y ⟨9, n, a, b, c⟩) w) := by
  have HSP := Lib.hid (step_split (lim := lim) (H := H) (L := L) (Y := Y) (s := ⟨9, n, a, b, c⟩) (show (9 : Int) ≠ 0 by decide))
  have HO0 := Lib.hid (obx_new w lim g cap L ⟨9, n, a, b, c⟩)
  have HAH := Lib.hid (fun wx => ahead_0 ⟨9, n, a, b, c⟩ Y.length wx)
  have HR := Lib.hid hr
  have HG := Lib.hid hg
  unfold aggR at HAH ⊢
  simp only at HAH ⊢
  have hu : ixS 9 = 0 := by decide
  cases hA : aheadB 0 Y.length ⟨9, n, a, b, c⟩ with
  | false =>
    have he : stepY lim H L Y ⟨9, n, a, b, c⟩ = ⟨L, 0, 12⟩ := by
      rw [HSP.out]; simp only [hu, hA, Bool.and_false]; rfl
    rw [he]
    rw [hA] at HAH
    clear he HSP hA
    clear hr hg _hH _hY _hv hu
    generalize Y.length = ny at *
    generalize H.length = nh at *
    go_enter Tryd.func49, Tryd.ntmps49
    go_wp2_with fail
    go_at_call 67
    refine (HAH.out _).mono ?_
    rintro e w1 ⟨rfl, hb1⟩
    have HO1 := Lib.hid (HO0.out.keep hb1)
    clear hb1
    obtain ⟨⟨a0, a1⟩, ⟨s0, s1, s2, s3, s4⟩, ⟨r0, r1, f0, f1⟩, lr⟩ := HO1.out.cells
    go_wp2_with fail
    refine bodyPost_ret (v := .tuple #[.agg #[.int .i64 lim, .slice (some ⟨g, 0, none⟩) L.length cap], .int .i64 0, .int .i64 12]) (by simp [results, Tryd.results49, go_sem, r0, r1]) rfl ?_
    exact one_end HO1.out HR.out HG.out 0 12 _ _
  | true =>
    have hgood : (opOk 9 && decide (loS 9 ≤ n) && decide (n ≤ hiS 9)) = true := by
      have e1 : loS 9 = 0 := by decide
      have e2 : hiS 9 = 18446744073709551615 := by decide
      have e3 : opOk 9 = true := by decide
      rw [e1, e2, e3]; simp; omega
    have hst : stepY lim H L Y ⟨9, n, a, b, c⟩ = mkY lim L ⟨9, n, 0, 0, 0⟩ := by
      rw [HSP.out]; simp only [hu, hA, hgood, Bool.and_true, if_true]; rfl
    rw [hst]
    clear hst hgood HSP
    rw [hA] at HAH
    clear hA _hv hu
    go_enter Tryd.func49, Tryd.ntmps49
    go_wp2_with fail
    go_at_call 67
    refine (HAH.out _).mono ?_
    rintro e w1 ⟨rfl, hb1⟩
    have HO1 := Lib.hid (HO0.out.keep hb1)
    clear hb1
    obtain ⟨⟨a0, a1⟩, ⟨s0, s1, s2, s3, s4⟩, ⟨r0, r1, f0, f1⟩, lr⟩ := HO1.out.cells
    have HOd := HO1
    go_wp2_with fail
    go_at_call 38
    refine (refMk_any lim g cap L hw hm 9 (n) 0 0 0 _ (HR.out.keep (HO1.out.bel.block g HG.out)) (by have := HO1.out.bel.size; have := HG.out; omega)).mono ?_
    rintro e w2 ⟨g', cap', rfl, hrow, hlt2, hb2⟩
    have HN : Hid (∀ u v, OneP lim (mkY lim L ⟨9, n, 0, 0, 0⟩) w (.returned (.tuple #[.agg #[.int .i64 lim, .slice (some ⟨g', 0, none⟩) (mkL lim L ⟨9, n, 0, 0, 0⟩).length cap'], .int .i64 (mkR lim L ⟨9, n, 0, 0, 0⟩), .int .i64 (mkE lim L ⟨9, n, 0, 0, 0⟩)])) ((w2.setCell ⟨w.heap.size + 1 + 1, 0, none⟩ u).setCell ⟨w.heap.size + 1 + 1, 1, none⟩ v)) := Lib.hid (fun u v => one_new (st := mkY lim L ⟨9, n, 0, 0, 0⟩) (cap' := cap') HOd.out hb2 hrow (show 0 < (mkL lim L ⟨9, n, 0, 0, 0⟩).length from mkL_pos hw.pos) hlt2 u v)
    have HO2 := Lib.hid (HO1.out.keep hb2)
    clear hb2 hrow hlt2 a0 a1 s0 s1 s2 s3 s4 r0 r1 f0 f1 lr
    obtain ⟨⟨b0, b1⟩, ⟨q0, q1, q2, q3, q4⟩, ⟨z0, z1, x0, x1⟩, lz⟩ := HO2.out.cells
    generalize mkR lim L ⟨9, n, 0, 0, 0⟩ = R at *
    generalize mkE lim L ⟨9, n, 0, 0, 0⟩ = E at *
    generalize (mkL lim L ⟨9, n, 0, 0, 0⟩).length = nl at *
    go_wp2_with fail
    refine bodyPost_ret (v := .tuple #[.agg #[.int .i64 lim, .slice (some ⟨g', 0, none⟩) nl cap'], .int .i64 R, .int .i64 E]) (by simp [results, Tryd.results49, go_sem, z0, z1]) rfl ?_
    exact HN.out _ _
set_option maxRecDepth 100000 in
set_option maxHeartbeats 4000000 in
theorem one_13 (lim g cap : Nat) (L : List Nd) (_hw : WFp L) (_hm : L.length ≤ 65536) (sh sy : Option Addr) (ch cy : Nat) (H Y : List Int) (n a b c : Int) (w : World) (hr : rowAt w g L) (hg : g < w.heap.size) (_hH : IntsV w sh H) (_hY : IntsV w sy Y) (_hhl : H.length ≤ 65536) (_hyl : Y.length ≤ 65536) (_hv : ∀ i, i < Y.length → hasB L.length (Y.getD i 0) = true) (hn0 : 0 ≤ n) (hn1 : n ≤ 18446744073709551615) :
    Calls Tryd.prog 49 #[.agg #[.int .i64 lim, .slice (some ⟨g, 0, none⟩) L.length cap], .slice sh H.length ch, .slice sy Y.length cy, aggR ⟨13, n, a, b, c⟩] w (OneP lim (stepY lim H L Y ⟨13, n, a, b, c⟩) w) := by
  have HSP := Lib.hid (step_split (lim := lim) (H := H) (L := L) (Y := Y) (s := ⟨13, n, a, b, c⟩) (show (13 : Int) ≠ 0 by decide))
  have HO0 := Lib.hid (obx_new w lim g cap L ⟨13, n, a, b, c⟩)
  have HAH := Lib.hid (fun wx => ahead_0 ⟨13, n, a, b, c⟩ Y.length wx)
  have HR := Lib.hid hr
  have HG := Lib.hid hg
  unfold aggR at HAH ⊢
  simp only at HAH ⊢
  have hu : ixS 13 = 0 := by decide
  by_cases hn : n = 0
  · skip
    cases hA : aheadB 0 Y.length ⟨13, n, a, b, c⟩ with
    | false =>
      have he : stepY lim H L Y ⟨13, n, a, b, c⟩ = ⟨L, 0, 12⟩ := by
        rw [HSP.out]; simp only [hu, hA, Bool.and_false]; rfl
      rw [he]
      rw [hA] at HAH
      clear he HSP hA
      subst hn
      clear hr hg _hH _hY _hv hu
      generalize Y.length = ny at *
      generalize H.length = nh at *
      go_enter Tryd.func49, Tryd.ntmps49
      go_wp2_with fail
      go_at_call 67
      refine (HAH.out _).mono ?_
      rintro e w1 ⟨rfl, hb1⟩
      have HO1 := Lib.hid (HO0.out.keep hb1)
      clear hb1
      obtain ⟨⟨a0, a1⟩, ⟨s0, s1, s2, s3, s4⟩, ⟨r0, r1, f0, f1⟩, lr⟩ := HO1.out.cells
      go_wp2_with fail
      refine bodyPost_ret (v := .tuple #[.agg #[.int .i64 lim, .slice (some ⟨g, 0, none⟩) L.length cap], .int .i64 0, .int .i64 12]) (by simp [results, Tryd.results49, go_sem, r0, r1]) rfl ?_
      exact one_end HO1.out HR.out HG.out 0 12 _ _
    | true =>
      have hgood : (opOk 13 && decide (loS 13 ≤ n) && decide (n ≤ hiS 13)) = true := by
        have e1 : loS 13 = 0 := by decide
        have e2 : hiS 13 = 0 := by decide
        have e3 : opOk 13 = true := by decide
        rw [e1, e2, e3]; simp; omega
      have hst : stepY lim H L Y ⟨13, n, a, b, c⟩ = ⟨L, 0, 0⟩ := by
        rw [HSP.out]; simp only [hu, hA, hgood, Bool.and_true, if_true]; rfl
      rw [hst]
      clear hst hgood HSP
      rw [hA] at HAH
      subst hn
      clear hA _hv hu
      go_enter Tryd.func49, Tryd.ntmps49
      go_wp2_with fail
      go_at_call 67
      refine (HAH.out _).mono ?_
      rintro e w1 ⟨rfl, hb1⟩
      have HO1 := Lib.hid (HO0.out.keep hb1)
      clear hb1
      obtain ⟨⟨a0, a1⟩, ⟨s0, s1, s2, s3, s4⟩, ⟨r0, r1, f0, f1⟩, lr⟩ := HO1.out.cells
      go_wp2_with fail
      refine bodyPost_ret (v := .tuple #[.agg #[.int .i64 lim, .slice (some ⟨g, 0, none⟩) L.length cap], .int .i64 0, .int .i64 0]) (by simp [results, Tryd.results49, go_sem, r0, r1]) rfl ?_
      exact one_end HO1.out HR.out HG.out 0 0 _ _
  · have he : stepY lim H L Y ⟨13, n, a, b, c⟩ = ⟨L, 0, 12⟩ := by
      have e1 : loS 13 = 0 := by decide
      have e2 : hiS 13 = 0 := by decide
      have hnx : ¬ ((opOk 13 && decide (loS 13 ≤ n) && decide (n ≤ hiS 13)) && aheadB (ixS 13) Y.length ⟨13, n, a, b, c⟩) = true := by
        rw [e1, e2]
        simp only [Bool.and_eq_true, decide_eq_true_eq]
        omega
      rw [HSP.out, if_neg hnx]; rfl
    rw [he]
    clear he HSP
    have hnb : (n != 0) = true := by simpa using hn
    clear hr hg _hH _hY _hv hu
    generalize Y.length = ny at *
    generalize H.length = nh at *
    go_enter Tryd.func49, Tryd.ntmps49
    go_wp2_with fail
    refine bodyPost_ret (v := .tuple #[.agg #[.int .i64 lim, .slice (some ⟨g, 0, none⟩) L.length cap], .int .i64 0, .int .i64 12]) (by simp [results, Tryd.results49, go_sem]) rfl ?_
    exact one_end0 HR.out HG.out 0 12 _ _ _
set_option maxRecDepth 100000 in
set_option maxHeartbeats 4000000 in
theorem one_other (lim g cap : Nat) (L : List Nd) (_hw : WFp L) (_hm : L.length ≤ 65536) (sh sy : Option Addr) (ch cy : Nat) (H Y : List Int) (op n a b c : Int) (hop : opOk op = false) (w : World) (hr : rowAt w g L) (hg : g < w.heap.size) (_hH : IntsV w sh H) (_hY : IntsV w sy Y) (_hhl : H.length ≤ 65536) (_hyl : Y.length ≤ 65536) (_hv : ∀ i, i < Y.length → hasB L.length (Y.getD i 0) = true) (_hn0 : 0 ≤ n) (_hn1 : n ≤ 18446744073709551615) :
    Calls Tryd.prog 49 #[.agg #[.int .i64 lim, .slice (some ⟨g, 0, none⟩) L.length cap], .slice sh H.length ch, .slice sy Y.length cy, aggR ⟨op, n, a, b, c⟩] w (OneP lim (stepY lim H L Y ⟨op, n, a, b, c⟩) w) := by
  have HR := Lib.hid hr
  have HG := Lib.hid hg
  have hne : op ≠ 0 ∧ op ≠ 1 ∧ op ≠ 2 ∧ op ≠ 3 ∧ op ≠ 5 ∧ op ≠ 6 ∧ op ≠ 7 ∧ op ≠ 8 ∧ op ≠ 9 ∧ op ≠ 10 ∧ op ≠ 11 ∧ op ≠ 12 ∧ op ≠ 13 := by
    refine ⟨?_, ?_, ?_, ?_, ?_, ?_, ?_, ?_, ?_, ?_, ?_, ?_, ?_⟩ <;> (rintro rfl; exact absurd hop (by decide))
  have hst : stepY lim H L Y ⟨op, n, a, b, c⟩ = ⟨L, 0, 12⟩ := by
    rw [step_split hne.1]; simp only [hop, Bool.false_and]; rfl
  rw [hst]
  obtain ⟨h0, h1, h2, h3, h5, h6, h7, h8, h9, h10, h11, h12, h13⟩ := hne
  have q0 : (op == 0) = false := by simpa using h0
  have q1 : (op == 1) = false := by simpa using h1
  have q2 : (op == 2) = false := by simpa using h2
  have q3 : (op == 3) = false := by simpa using h3
  have q5 : (op == 5) = false := by simpa using h5
  have q6 : (op == 6) = false := by simpa using h6
  have q7 : (op == 7) = false := by simpa using h7
  have q8 : (op == 8) = false := by simpa using h8
  have q9 : (op == 9) = false := by simpa using h9
  have q10 : (op == 10) = false := by simpa using h10
  have q11 : (op == 11) = false := by simpa using h11
  have q12 : (op == 12) = false := by simpa using h12
  have q13 : (op == 13) = false := by simpa using h13
  clear hst hop hr hg _hH _hY _hv h0 h1 h2 h3 h5 h6 h7 h8 h9 h10 h11 h12 h13
  unfold aggR
  simp only
  generalize Y.length = ny at *
  generalize H.length = nh at *
  go_enter Tryd.func49, Tryd.ntmps49
  go_wp2_with fail
  refine bodyPost_ret (v := .tuple #[.agg #[.int .i64 lim, .slice (some ⟨g, 0, none⟩) L.length cap], .int .i64 0, .int .i64 12]) (by simp [results, Tryd.results49, go_sem]) rfl ?_
  exact one_end0 HR.out HG.out 0 12 _ _ _
end Go.Proofs.YtlckajnbmkkpeaaDoor
