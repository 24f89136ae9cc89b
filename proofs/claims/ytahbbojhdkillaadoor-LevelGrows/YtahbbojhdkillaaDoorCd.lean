/- Layer 7: walks of owners, brokenBySealing, brokenAt. -/
import Derived.Test.YtahbbojhdkillaaDoorCc
namespace Go.Proofs.YtahbbojhdkillaaDoor
open Go.RowKit Go.Shelf

set_option maxRecDepth 100000 in
set_option maxHeartbeats 4000000 in
theorem owners_any (b : Nat) (f : Cs) (t : Int) (h3 : 3 ≤ t) (h6 : t ≤ 6) (w : World) (hk : Ky w) (hs : StV w b f) : Calls Tryd.prog 69 #[.pointer (some ⟨b, 0, none⟩), .int .i64 t] w fun e w' => e = .returned (.bool (ow2 f t)) ∧ Below w.heap.size w w' := by
  have hl := lt_of_heap hs
  have q := eq2
  have ht : t = 3 ∨ t = 4 ∨ t = 5 ∨ t = 6 := by omega
  clear h3 h6
  have HK := Lib.hid hk; clear hk
  have HS := Lib.hid hs; clear hs
  rcases ht with rfl | rfl | rfl | rfl
  · have k0 : w.cell? ⟨4, 6, none⟩ = some (.int .i64 1) := HK.out 6 (by omega)
    have k1 : w.cell? ⟨4, 7, none⟩ = some (.int .i64 1) := HK.out 7 (by omega)
    have lg := World.block_lt_of_cell? _ _ k0
    have x0 : ∀ w, (Instr.index 124 (.agg #[.int .i64 1, .int .i64 1]) (.int .i64 0)).run Tryd.prog w = .ok (.int .i64 1) w := fun _ => by kernel_rfl
    have x1 : ∀ w, (Instr.index 124 (.agg #[.int .i64 1, .int .i64 1]) (.int .i64 1)).run Tryd.prog w = .ok (.int .i64 1) w := fun _ => by kernel_rfl
    have a0 := HS.out.at 2 (by omega)
    have a1 := HS.out.at 5 (by omega)
    have HW : Hid (ow2 f 3 = (f 2 && f 5)) := Lib.hid (by simp [ow2])
    generalize f 2 = u at *
    generalize f 5 = v at *
    cases u
    all_goals cases v
    all_goals
      go_enter Tryd.func69, Tryd.ntmps69
      go_wp2_with fail
      refine wp_loop_rounds 3 ?_
      rw [rounds_succ]
      go_wp2_with fail
      rw [rounds_succ]
      go_wp2_with fail
      rw [rounds_succ]
      go_wp2_with fail
      go_quiet (fail)
      go_wp2_with fail
      go_ret
      refine ⟨by rw [HW.out]; rfl, ?_⟩
      exact belowN ((Below.refl _ _).alloc (Nat.le_refl _) _)
  · have k0 : w.cell? ⟨4, 8, none⟩ = some (.int .i64 1) := HK.out 8 (by omega)
    have k1 : w.cell? ⟨4, 9, none⟩ = some (.int .i64 2) := HK.out 9 (by omega)
    have lg := World.block_lt_of_cell? _ _ k0
    have x0 : ∀ w, (Instr.index 124 (.agg #[.int .i64 1, .int .i64 2]) (.int .i64 0)).run Tryd.prog w = .ok (.int .i64 1) w := fun _ => by kernel_rfl
    have x1 : ∀ w, (Instr.index 124 (.agg #[.int .i64 1, .int .i64 2]) (.int .i64 1)).run Tryd.prog w = .ok (.int .i64 2) w := fun _ => by kernel_rfl
    have a0 := HS.out.at 2 (by omega)
    have a1 := HS.out.at 6 (by omega)
    have HW : Hid (ow2 f 4 = (f 2 && f 6)) := Lib.hid (by simp [ow2])
    generalize f 2 = u at *
    generalize f 6 = v at *
    cases u
    all_goals cases v
    all_goals
      go_enter Tryd.func69, Tryd.ntmps69
      go_wp2_with fail
      refine wp_loop_rounds 3 ?_
      rw [rounds_succ]
      go_wp2_with fail
      rw [rounds_succ]
      go_wp2_with fail
      rw [rounds_succ]
      go_wp2_with fail
      go_quiet (fail)
      go_wp2_with fail
      go_ret
      refine ⟨by rw [HW.out]; rfl, ?_⟩
      exact belowN ((Below.refl _ _).alloc (Nat.le_refl _) _)
  · have k0 : w.cell? ⟨4, 10, none⟩ = some (.int .i64 2) := HK.out 10 (by omega)
    have k1 : w.cell? ⟨4, 11, none⟩ = some (.int .i64 1) := HK.out 11 (by omega)
    have lg := World.block_lt_of_cell? _ _ k0
    have x0 : ∀ w, (Instr.index 124 (.agg #[.int .i64 2, .int .i64 1]) (.int .i64 0)).run Tryd.prog w = .ok (.int .i64 2) w := fun _ => by kernel_rfl
    have x1 : ∀ w, (Instr.index 124 (.agg #[.int .i64 2, .int .i64 1]) (.int .i64 1)).run Tryd.prog w = .ok (.int .i64 1) w := fun _ => by kernel_rfl
    have a0 := HS.out.at 3 (by omega)
    have a1 := HS.out.at 5 (by omega)
    have HW : Hid (ow2 f 5 = (f 3 && f 5)) := Lib.hid (by simp [ow2])
    generalize f 3 = u at *
    generalize f 5 = v at *
    cases u
    all_goals cases v
    all_goals
      go_enter Tryd.func69, Tryd.ntmps69
      go_wp2_with fail
      refine wp_loop_rounds 3 ?_
      rw [rounds_succ]
      go_wp2_with fail
      rw [rounds_succ]
      go_wp2_with fail
      rw [rounds_succ]
      go_wp2_with fail
      go_quiet (fail)
      go_wp2_with fail
      go_ret
      refine ⟨by rw [HW.out]; rfl, ?_⟩
      exact belowN ((Below.refl _ _).alloc (Nat.le_refl _) _)
  · have k0 : w.cell? ⟨4, 12, none⟩ = some (.int .i64 2) := HK.out 12 (by omega)
    have k1 : w.cell? ⟨4, 13, none⟩ = some (.int .i64 2) := HK.out 13 (by omega)
    have lg := World.block_lt_of_cell? _ _ k0
    have x0 : ∀ w, (Instr.index 124 (.agg #[.int .i64 2, .int .i64 2]) (.int .i64 0)).run Tryd.prog w = .ok (.int .i64 2) w := fun _ => by kernel_rfl
    have x1 : ∀ w, (Instr.index 124 (.agg #[.int .i64 2, .int .i64 2]) (.int .i64 1)).run Tryd.prog w = .ok (.int .i64 2) w := fun _ => by kernel_rfl
    have a0 := HS.out.at 3 (by omega)
    have a1 := HS.out.at 6 (by omega)
    have HW : Hid (ow2 f 6 = (f 3 && f 6)) := Lib.hid (by simp [ow2])
    generalize f 3 = u at *
    generalize f 6 = v at *
    cases u
    all_goals cases v
    all_goals
      go_enter Tryd.func69, Tryd.ntmps69
      go_wp2_with fail
      refine wp_loop_rounds 3 ?_
      rw [rounds_succ]
      go_wp2_with fail
      rw [rounds_succ]
      go_wp2_with fail
      rw [rounds_succ]
      go_wp2_with fail
      go_quiet (fail)
      go_wp2_with fail
      go_ret
      refine ⟨by rw [HW.out]; rfl, ?_⟩
      exact belowN ((Below.refl _ _).alloc (Nat.le_refl _) _)

set_option maxRecDepth 100000 in
set_option maxHeartbeats 8000000 in
theorem bbs_any (b : Nat) (f : Cs) (r : Int) (hr : r = 0 ∨ r = 1) (w : World) (hk : Ky w) (hs : StV w b f) : Calls Tryd.prog 58 #[.pointer (some ⟨b, 0, none⟩), .int .i64 r] w fun e w' => e = .returned (.int .i64 (bbs f r)) ∧ Below w.heap.size w w' := by
  have hl := lt_of_heap hs
  have HK := Lib.hid hk; clear hk
  have HS := Lib.hid hs; clear hs
  have HC := Lib.hid (fun wx (hb : Below w.heap.size w wx) i (hi : i < 15) => (HS.out.keep hb).at i hi)
  cases hK : kyd f with
  | false =>
    have HY := Lib.hid hK; clear hK
    have HR : Hid (bbs f r = 0) := Lib.hid (by unfold bbs; rw [HY.out]; rfl)
    clear hr
    go_enter Tryd.func58, Tryd.ntmps58
    go_wp2_with (go_at_call 59; refine (keyed_any b f _ HK.out HS.out).mono ?_; rintro e w1 ⟨rfl, rfl⟩; rw [HY.out])
    go_ret
    exact ⟨by rw [HR.out]; rfl, Below.refl _ _⟩
  | true =>
    have HY := Lib.hid hK; clear hK
    rcases hr with rfl | rfl
    · have HR : Hid (bbs f 0 = if (f 12 && !f 10) || (f 13 && !f 11) then 5 else if f 14 && !f 2 then 6 else 0) := Lib.hid (by unfold bbs; rw [HY.out]; rfl)
      cases h12 : f 12 with
      | false =>
        cases h13 : f 13 with
        | false =>
          cases h14 : f 14 with
          | false =>
            have HV : Hid (bbs f 0 = 0) := Lib.hid (by rw [HR.out]; simp [h12, h13, h14])
            have HD : Hid (∀ wx, Below w.heap.size w wx → wx.cell? ⟨b, 12, none⟩ = some (.bool false) ∧ wx.cell? ⟨b, 13, none⟩ = some (.bool false) ∧ wx.cell? ⟨b, 14, none⟩ = some (.bool false)) := Lib.hid (fun wx hb => ⟨by rw [HC.out wx hb 12 (by omega), h12], by rw [HC.out wx hb 13 (by omega), h13], by rw [HC.out wx hb 14 (by omega), h14]⟩)
            clear h12 h13 h14
            go_enter Tryd.func58, Tryd.ntmps58
            go_wp2_with (first
              | (have _k := HB1; go_at_call 70; refine (sharedBy_01 _ (HK.out.keep HB1.out)).mono ?_; rintro e w2 ⟨rfl, hb2⟩; have HB2 := Lib.hid (HB1.out.trans (hb2.mono HB1.out.size)); clear hb2; have hd := HD.out _ HB2.out; have lb : b < w2.heap.size := Nat.lt_of_lt_of_le hl HB2.out.size; obtain ⟨a12, a13, a14⟩ := hd)
              | (go_at_call 70; refine (sharedBy_02 _ HK.out).mono ?_; rintro e w1 ⟨rfl, hb1⟩; have HB1 := Lib.hid hb1; clear hb1)
              | (go_at_call 59; refine (keyed_any b f _ HK.out HS.out).mono ?_; rintro e w1 ⟨rfl, rfl⟩; rw [HY.out]))
            go_ret
            exact ⟨by rw [HV.out]; rfl, HB2.out⟩
          | true =>
            cases h2 : f 2 with
            | false =>
              have HV : Hid (bbs f 0 = 6) := Lib.hid (by rw [HR.out]; simp [h12, h13, h14, h2])
              have HD : Hid (∀ wx, Below w.heap.size w wx → wx.cell? ⟨b, 12, none⟩ = some (.bool false) ∧ wx.cell? ⟨b, 13, none⟩ = some (.bool false) ∧ wx.cell? ⟨b, 14, none⟩ = some (.bool true) ∧ wx.cell? ⟨b, 2, none⟩ = some (.bool false)) := Lib.hid (fun wx hb => ⟨by rw [HC.out wx hb 12 (by omega), h12], by rw [HC.out wx hb 13 (by omega), h13], by rw [HC.out wx hb 14 (by omega), h14], by rw [HC.out wx hb 2 (by omega), h2]⟩)
              clear h12 h13 h14 h2
              go_enter Tryd.func58, Tryd.ntmps58
              go_wp2_with (first
                | (have _k := HB1; go_at_call 70; refine (sharedBy_01 _ (HK.out.keep HB1.out)).mono ?_; rintro e w2 ⟨rfl, hb2⟩; have HB2 := Lib.hid (HB1.out.trans (hb2.mono HB1.out.size)); clear hb2; have hd := HD.out _ HB2.out; have lb : b < w2.heap.size := Nat.lt_of_lt_of_le hl HB2.out.size; obtain ⟨a12, a13, a14, a2⟩ := hd)
                | (go_at_call 70; refine (sharedBy_02 _ HK.out).mono ?_; rintro e w1 ⟨rfl, hb1⟩; have HB1 := Lib.hid hb1; clear hb1)
                | (go_at_call 59; refine (keyed_any b f _ HK.out HS.out).mono ?_; rintro e w1 ⟨rfl, rfl⟩; rw [HY.out]))
              go_ret
              exact ⟨by rw [HV.out]; rfl, HB2.out⟩
            | true =>
              have HV : Hid (bbs f 0 = 0) := Lib.hid (by rw [HR.out]; simp [h12, h13, h14, h2])
              have HD : Hid (∀ wx, Below w.heap.size w wx → wx.cell? ⟨b, 12, none⟩ = some (.bool false) ∧ wx.cell? ⟨b, 13, none⟩ = some (.bool false) ∧ wx.cell? ⟨b, 14, none⟩ = some (.bool true) ∧ wx.cell? ⟨b, 2, none⟩ = some (.bool true)) := Lib.hid (fun wx hb => ⟨by rw [HC.out wx hb 12 (by omega), h12], by rw [HC.out wx hb 13 (by omega), h13], by rw [HC.out wx hb 14 (by omega), h14], by rw [HC.out wx hb 2 (by omega), h2]⟩)
              clear h12 h13 h14 h2
              go_enter Tryd.func58, Tryd.ntmps58
              go_wp2_with (first
                | (have _k := HB1; go_at_call 70; refine (sharedBy_01 _ (HK.out.keep HB1.out)).mono ?_; rintro e w2 ⟨rfl, hb2⟩; have HB2 := Lib.hid (HB1.out.trans (hb2.mono HB1.out.size)); clear hb2; have hd := HD.out _ HB2.out; have lb : b < w2.heap.size := Nat.lt_of_lt_of_le hl HB2.out.size; obtain ⟨a12, a13, a14, a2⟩ := hd)
                | (go_at_call 70; refine (sharedBy_02 _ HK.out).mono ?_; rintro e w1 ⟨rfl, hb1⟩; have HB1 := Lib.hid hb1; clear hb1)
                | (go_at_call 59; refine (keyed_any b f _ HK.out HS.out).mono ?_; rintro e w1 ⟨rfl, rfl⟩; rw [HY.out]))
              go_ret
              exact ⟨by rw [HV.out]; rfl, HB2.out⟩
        | true =>
          cases h11 : f 11 with
          | false =>
            have HV : Hid (bbs f 0 = 5) := Lib.hid (by rw [HR.out]; simp [h12, h13, h11])
            have HD : Hid (∀ wx, Below w.heap.size w wx → wx.cell? ⟨b, 12, none⟩ = some (.bool false) ∧ wx.cell? ⟨b, 13, none⟩ = some (.bool true) ∧ wx.cell? ⟨b, 11, none⟩ = some (.bool false)) := Lib.hid (fun wx hb => ⟨by rw [HC.out wx hb 12 (by omega), h12], by rw [HC.out wx hb 13 (by omega), h13], by rw [HC.out wx hb 11 (by omega), h11]⟩)
            clear h12 h13 h11
            go_enter Tryd.func58, Tryd.ntmps58
            go_wp2_with (first
              | (have _k := HB1; go_at_call 70; refine (sharedBy_01 _ (HK.out.keep HB1.out)).mono ?_; rintro e w2 ⟨rfl, hb2⟩; have HB2 := Lib.hid (HB1.out.trans (hb2.mono HB1.out.size)); clear hb2; have hd := HD.out _ HB2.out; have lb : b < w2.heap.size := Nat.lt_of_lt_of_le hl HB2.out.size; obtain ⟨a12, a13, a11⟩ := hd)
              | (go_at_call 70; refine (sharedBy_02 _ HK.out).mono ?_; rintro e w1 ⟨rfl, hb1⟩; have HB1 := Lib.hid hb1; clear hb1)
              | (go_at_call 59; refine (keyed_any b f _ HK.out HS.out).mono ?_; rintro e w1 ⟨rfl, rfl⟩; rw [HY.out]))
            go_ret
            exact ⟨by rw [HV.out]; rfl, HB2.out⟩
          | true =>
            cases h14 : f 14 with
            | false =>
              have HV : Hid (bbs f 0 = 0) := Lib.hid (by rw [HR.out]; simp [h12, h13, h11, h14])
              have HD : Hid (∀ wx, Below w.heap.size w wx → wx.cell? ⟨b, 12, none⟩ = some (.bool false) ∧ wx.cell? ⟨b, 13, none⟩ = some (.bool true) ∧ wx.cell? ⟨b, 11, none⟩ = some (.bool true) ∧ wx.cell? ⟨b, 14, none⟩ = some (.bool false)) := Lib.hid (fun wx hb => ⟨by rw [HC.out wx hb 12 (by omega), h12], by rw [HC.out wx hb 13 (by omega), h13], by rw [HC.out wx hb 11 (by omega), h11], by rw [HC.out wx hb 14 (by omega), h14]⟩)
              clear h12 h13 h11 h14
              go_enter Tryd.func58, Tryd.ntmps58
              go_wp2_with (first
                | (have _k := HB1; go_at_call 70; refine (sharedBy_01 _ (HK.out.keep HB1.out)).mono ?_; rintro e w2 ⟨rfl, hb2⟩; have HB2 := Lib.hid (HB1.out.trans (hb2.mono HB1.out.size)); clear hb2; have hd := HD.out _ HB2.out; have lb : b < w2.heap.size := Nat.lt_of_lt_of_le hl HB2.out.size; obtain ⟨a12, a13, a11, a14⟩ := hd)
                | (go_at_call 70; refine (sharedBy_02 _ HK.out).mono ?_; rintro e w1 ⟨rfl, hb1⟩; have HB1 := Lib.hid hb1; clear hb1)
                | (go_at_call 59; refine (keyed_any b f _ HK.out HS.out).mono ?_; rintro e w1 ⟨rfl, rfl⟩; rw [HY.out]))
              go_ret
              exact ⟨by rw [HV.out]; rfl, HB2.out⟩
            | true =>
              cases h2 : f 2 with
              | false =>
                have HV : Hid (bbs f 0 = 6) := Lib.hid (by rw [HR.out]; simp [h12, h13, h11, h14, h2])
                have HD : Hid (∀ wx, Below w.heap.size w wx → wx.cell? ⟨b, 12, none⟩ = some (.bool false) ∧ wx.cell? ⟨b, 13, none⟩ = some (.bool true) ∧ wx.cell? ⟨b, 11, none⟩ = some (.bool true) ∧ wx.cell? ⟨b, 14, none⟩ = some (.bool true) ∧ wx.cell? ⟨b, 2, none⟩ = some (.bool false)) := Lib.hid (fun wx hb => ⟨by rw [HC.out wx hb 12 (by omega), h12], by rw [HC.out wx hb 13 (by omega), h13], by rw [HC.out wx hb 11 (by omega), h11], by rw [HC.out wx hb 14 (by omega), h14], by rw [HC.out wx hb 2 (by omega), h2]⟩)
                clear h12 h13 h11 h14 h2
                go_enter Tryd.func58, Tryd.ntmps58
                go_wp2_with (first
                  | (have _k := HB1; go_at_call 70; refine (sharedBy_01 _ (HK.out.keep HB1.out)).mono ?_; rintro e w2 ⟨rfl, hb2⟩; have HB2 := Lib.hid (HB1.out.trans (hb2.mono HB1.out.size)); clear hb2; have hd := HD.out _ HB2.out; have lb : b < w2.heap.size := Nat.lt_of_lt_of_le hl HB2.out.size; obtain ⟨a12, a13, a11, a14, a2⟩ := hd)
                  | (go_at_call 70; refine (sharedBy_02 _ HK.out).mono ?_; rintro e w1 ⟨rfl, hb1⟩; have HB1 := Lib.hid hb1; clear hb1)
                  | (go_at_call 59; refine (keyed_any b f _ HK.out HS.out).mono ?_; rintro e w1 ⟨rfl, rfl⟩; rw [HY.out]))
                go_ret
                exact ⟨by rw [HV.out]; rfl, HB2.out⟩
              | true =>
                have HV : Hid (bbs f 0 = 0) := Lib.hid (by rw [HR.out]; simp [h12, h13, h11, h14, h2])
                have HD : Hid (∀ wx, Below w.heap.size w wx → wx.cell? ⟨b, 12, none⟩ = some (.bool false) ∧ wx.cell? ⟨b, 13, none⟩ = some (.bool true) ∧ wx.cell? ⟨b, 11, none⟩ = some (.bool true) ∧ wx.cell? ⟨b, 14, none⟩ = some (.bool true) ∧ wx.cell? ⟨b, 2, none⟩ = some (.bool true)) := Lib.hid (fun wx hb => ⟨by rw [HC.out wx hb 12 (by omega), h12], by rw [HC.out wx hb 13 (by omega), h13], by rw [HC.out wx hb 11 (by omega), h11], by rw [HC.out wx hb 14 (by omega), h14], by rw [HC.out wx hb 2 (by omega), h2]⟩)
                clear h12 h13 h11 h14 h2
                go_enter Tryd.func58, Tryd.ntmps58
                go_wp2_with (first
                  | (have _k := HB1; go_at_call 70; refine (sharedBy_01 _ (HK.out.keep HB1.out)).mono ?_; rintro e w2 ⟨rfl, hb2⟩; have HB2 := Lib.hid (HB1.out.trans (hb2.mono HB1.out.size)); clear hb2; have hd := HD.out _ HB2.out; have lb : b < w2.heap.size := Nat.lt_of_lt_of_le hl HB2.out.size; obtain ⟨a12, a13, a11, a14, a2⟩ := hd)
                  | (go_at_call 70; refine (sharedBy_02 _ HK.out).mono ?_; rintro e w1 ⟨rfl, hb1⟩; have HB1 := Lib.hid hb1; clear hb1)
                  | (go_at_call 59; refine (keyed_any b f _ HK.out HS.out).mono ?_; rintro e w1 ⟨rfl, rfl⟩; rw [HY.out]))
                go_ret
                exact ⟨by rw [HV.out]; rfl, HB2.out⟩
      | true =>
        cases h10 : f 10 with
        | false =>
          have HV : Hid (bbs f 0 = 5) := Lib.hid (by rw [HR.out]; simp [h12, h10])
          have HD : Hid (∀ wx, Below w.heap.size w wx → wx.cell? ⟨b, 12, none⟩ = some (.bool true) ∧ wx.cell? ⟨b, 10, none⟩ = some (.bool false)) := Lib.hid (fun wx hb => ⟨by rw [HC.out wx hb 12 (by omega), h12], by rw [HC.out wx hb 10 (by omega), h10]⟩)
          clear h12 h10
          go_enter Tryd.func58, Tryd.ntmps58
          go_wp2_with (first
            | (have _k := HB1; go_at_call 70; refine (sharedBy_01 _ (HK.out.keep HB1.out)).mono ?_; rintro e w2 ⟨rfl, hb2⟩; have HB2 := Lib.hid (HB1.out.trans (hb2.mono HB1.out.size)); clear hb2; have hd := HD.out _ HB2.out; have lb : b < w2.heap.size := Nat.lt_of_lt_of_le hl HB2.out.size; obtain ⟨a12, a10⟩ := hd)
            | (go_at_call 70; refine (sharedBy_02 _ HK.out).mono ?_; rintro e w1 ⟨rfl, hb1⟩; have HB1 := Lib.hid hb1; clear hb1)
            | (go_at_call 59; refine (keyed_any b f _ HK.out HS.out).mono ?_; rintro e w1 ⟨rfl, rfl⟩; rw [HY.out]))
          go_ret
          exact ⟨by rw [HV.out]; rfl, HB2.out⟩
        | true =>
          cases h13 : f 13 with
          | false =>
            cases h14 : f 14 with
            | false =>
              have HV : Hid (bbs f 0 = 0) := Lib.hid (by rw [HR.out]; simp [h12, h10, h13, h14])
              have HD : Hid (∀ wx, Below w.heap.size w wx → wx.cell? ⟨b, 12, none⟩ = some (.bool true) ∧ wx.cell? ⟨b, 10, none⟩ = some (.bool true) ∧ wx.cell? ⟨b, 13, none⟩ = some (.bool false) ∧ wx.cell? ⟨b, 14, none⟩ = some (.bool false)) := Lib.hid (fun wx hb => ⟨by rw [HC.out wx hb 12 (by omega), h12], by rw [HC.out wx hb 10 (by omega), h10], by rw [HC.out wx hb 13 (by omega), h13], by rw [HC.out wx hb 14 (by omega), h14]⟩)
              clear h12 h10 h13 h14
              go_enter Tryd.func58, Tryd.ntmps58
              go_wp2_with (first
                | (have _k := HB1; go_at_call 70; refine (sharedBy_01 _ (HK.out.keep HB1.out)).mono ?_; rintro e w2 ⟨rfl, hb2⟩; have HB2 := Lib.hid (HB1.out.trans (hb2.mono HB1.out.size)); clear hb2; have hd := HD.out _ HB2.out; have lb : b < w2.heap.size := Nat.lt_of_lt_of_le hl HB2.out.size; obtain ⟨a12, a10, a13, a14⟩ := hd)
                | (go_at_call 70; refine (sharedBy_02 _ HK.out).mono ?_; rintro e w1 ⟨rfl, hb1⟩; have HB1 := Lib.hid hb1; clear hb1)
                | (go_at_call 59; refine (keyed_any b f _ HK.out HS.out).mono ?_; rintro e w1 ⟨rfl, rfl⟩; rw [HY.out]))
              go_ret
              exact ⟨by rw [HV.out]; rfl, HB2.out⟩
            | true =>
              cases h2 : f 2 with
              | false =>
                have HV : Hid (bbs f 0 = 6) := Lib.hid (by rw [HR.out]; simp [h12, h10, h13, h14, h2])
                have HD : Hid (∀ wx, Below w.heap.size w wx → wx.cell? ⟨b, 12, none⟩ = some (.bool true) ∧ wx.cell? ⟨b, 10, none⟩ = some (.bool true) ∧ wx.cell? ⟨b, 13, none⟩ = some (.bool false) ∧ wx.cell? ⟨b, 14, none⟩ = some (.bool true) ∧ wx.cell? ⟨b, 2, none⟩ = some (.bool false)) := Lib.hid (fun wx hb => ⟨by rw [HC.out wx hb 12 (by omega), h12], by rw [HC.out wx hb 10 (by omega), h10], by rw [HC.out wx hb 13 (by omega), h13], by rw [HC.out wx hb 14 (by omega), h14], by rw [HC.out wx hb 2 (by omega), h2]⟩)
                clear h12 h10 h13 h14 h2
                go_enter Tryd.func58, Tryd.ntmps58
                go_wp2_with (first
                  | (have _k := HB1; go_at_call 70; refine (sharedBy_01 _ (HK.out.keep HB1.out)).mono ?_; rintro e w2 ⟨rfl, hb2⟩; have HB2 := Lib.hid (HB1.out.trans (hb2.mono HB1.out.size)); clear hb2; have hd := HD.out _ HB2.out; have lb : b < w2.heap.size := Nat.lt_of_lt_of_le hl HB2.out.size; obtain ⟨a12, a10, a13, a14, a2⟩ := hd)
                  | (go_at_call 70; refine (sharedBy_02 _ HK.out).mono ?_; rintro e w1 ⟨rfl, hb1⟩; have HB1 := Lib.hid hb1; clear hb1)
                  | (go_at_call 59; refine (keyed_any b f _ HK.out HS.out).mono ?_; rintro e w1 ⟨rfl, rfl⟩; rw [HY.out]))
                go_ret
                exact ⟨by rw [HV.out]; rfl, HB2.out⟩
              | true =>
                have HV : Hid (bbs f 0 = 0) := Lib.hid (by rw [HR.out]; simp [h12, h10, h13, h14, h2])
                have HD : Hid (∀ wx, Below w.heap.size w wx → wx.cell? ⟨b, 12, none⟩ = some (.bool true) ∧ wx.cell? ⟨b, 10, none⟩ = some (.bool true) ∧ wx.cell? ⟨b, 13, none⟩ = some (.bool false) ∧ wx.cell? ⟨b, 14, none⟩ = some (.bool true) ∧ wx.cell? ⟨b, 2, none⟩ = some (.bool true)) := Lib.hid (fun wx hb => ⟨by rw [HC.out wx hb 12 (by omega), h12], by rw [HC.out wx hb 10 (by omega), h10], by rw [HC.out wx hb 13 (by omega), h13], by rw [HC.out wx hb 14 (by omega), h14], by rw [HC.out wx hb 2 (by omega), h2]⟩)
                clear h12 h10 h13 h14 h2
                go_enter Tryd.func58, Tryd.ntmps58
                go_wp2_with (first
                  | (have _k := HB1; go_at_call 70; refine (sharedBy_01 _ (HK.out.keep HB1.out)).mono ?_; rintro e w2 ⟨rfl, hb2⟩; have HB2 := Lib.hid (HB1.out.trans (hb2.mono HB1.out.size)); clear hb2; have hd := HD.out _ HB2.out; have lb : b < w2.heap.size := Nat.lt_of_lt_of_le hl HB2.out.size; obtain ⟨a12, a10, a13, a14, a2⟩ := hd)
                  | (go_at_call 70; refine (sharedBy_02 _ HK.out).mono ?_; rintro e w1 ⟨rfl, hb1⟩; have HB1 := Lib.hid hb1; clear hb1)
                  | (go_at_call 59; refine (keyed_any b f _ HK.out HS.out).mono ?_; rintro e w1 ⟨rfl, rfl⟩; rw [HY.out]))
                go_ret
                exact ⟨by rw [HV.out]; rfl, HB2.out⟩
          | true =>
            cases h11 : f 11 with
            | false =>
              have HV : Hid (bbs f 0 = 5) := Lib.hid (by rw [HR.out]; simp [h12, h10, h13, h11])
              have HD : Hid (∀ wx, Below w.heap.size w wx → wx.cell? ⟨b, 12, none⟩ = some (.bool true) ∧ wx.cell? ⟨b, 10, none⟩ = some (.bool true) ∧ wx.cell? ⟨b, 13, none⟩ = some (.bool true) ∧ wx.cell? ⟨b, 11, none⟩ = some (.bool false)) := Lib.hid (fun wx hb => ⟨by rw [HC.out wx hb 12 (by omega), h12], by rw [HC.out wx hb 10 (by omega), h10], by rw [HC.out wx hb 13 (by omega), h13], by rw [HC.out wx hb 11 (by omega), h11]⟩)
              clear h12 h10 h13 h11
              go_enter Tryd.func58, Tryd.ntmps58
              go_wp2_with (first
                | (have _k := HB1; go_at_call 70; refine (sharedBy_01 _ (HK.out.keep HB1.out)).mono ?_; rintro e w2 ⟨rfl, hb2⟩; have HB2 := Lib.hid (HB1.out.trans (hb2.mono HB1.out.size)); clear hb2; have hd := HD.out _ HB2.out; have lb : b < w2.heap.size := Nat.lt_of_lt_of_le hl HB2.out.size; obtain ⟨a12, a10, a13, a11⟩ := hd)
                | (go_at_call 70; refine (sharedBy_02 _ HK.out).mono ?_; rintro e w1 ⟨rfl, hb1⟩; have HB1 := Lib.hid hb1; clear hb1)
                | (go_at_call 59; refine (keyed_any b f _ HK.out HS.out).mono ?_; rintro e w1 ⟨rfl, rfl⟩; rw [HY.out]))
              go_ret
              exact ⟨by rw [HV.out]; rfl, HB2.out⟩
            | true =>
              cases h14 : f 14 with
              | false =>
                have HV : Hid (bbs f 0 = 0) := Lib.hid (by rw [HR.out]; simp [h12, h10, h13, h11, h14])
                have HD : Hid (∀ wx, Below w.heap.size w wx → wx.cell? ⟨b, 12, none⟩ = some (.bool true) ∧ wx.cell? ⟨b, 10, none⟩ = some (.bool true) ∧ wx.cell? ⟨b, 13, none⟩ = some (.bool true) ∧ wx.cell? ⟨b, 11, none⟩ = some (.bool true) ∧ wx.cell? ⟨b, 14, none⟩ = some (.bool false)) := Lib.hid (fun wx hb => ⟨by rw [HC.out wx hb 12 (by omega), h12], by rw [HC.out wx hb 10 (by omega), h10], by rw [HC.out wx hb 13 (by omega), h13], by rw [HC.out wx hb 11 (by omega), h11], by rw [HC.out wx hb 14 (by omega), h14]⟩)
                clear h12 h10 h13 h11 h14
                go_enter Tryd.func58, Tryd.ntmps58
                go_wp2_with (first
                  | (have _k := HB1; go_at_call 70; refine (sharedBy_01 _ (HK.out.keep HB1.out)).mono ?_; rintro e w2 ⟨rfl, hb2⟩; have HB2 := Lib.hid (HB1.out.trans (hb2.mono HB1.out.size)); clear hb2; have hd := HD.out _ HB2.out; have lb : b < w2.heap.size := Nat.lt_of_lt_of_le hl HB2.out.size; obtain ⟨a12, a10, a13, a11, a14⟩ := hd)
                  | (go_at_call 70; refine (sharedBy_02 _ HK.out).mono ?_; rintro e w1 ⟨rfl, hb1⟩; have HB1 := Lib.hid hb1; clear hb1)
                  | (go_at_call 59; refine (keyed_any b f _ HK.out HS.out).mono ?_; rintro e w1 ⟨rfl, rfl⟩; rw [HY.out]))
                go_ret
                exact ⟨by rw [HV.out]; rfl, HB2.out⟩
              | true =>
                cases h2 : f 2 with
                | false =>
                  have HV : Hid (bbs f 0 = 6) := Lib.hid (by rw [HR.out]; simp [h12, h10, h13, h11, h14, h2])
                  have HD : Hid (∀ wx, Below w.heap.size w wx → wx.cell? ⟨b, 12, none⟩ = some (.bool true) ∧ wx.cell? ⟨b, 10, none⟩ = some (.bool true) ∧ wx.cell? ⟨b, 13, none⟩ = some (.bool true) ∧ wx.cell? ⟨b, 11, none⟩ = some (.bool true) ∧ wx.cell? ⟨b, 14, none⟩ = some (.bool true) ∧ wx.cell? ⟨b, 2, none⟩ = some (.bool false)) := Lib.hid (fun wx hb => ⟨by rw [HC.out wx hb 12 (by omega), h12], by rw [HC.out wx hb 10 (by omega), h10], by rw [HC.out wx hb 13 (by omega), h13], by rw [HC.out wx hb 11 (by omega), h11], by rw [HC.out wx hb 14 (by omega), h14], by rw [HC.out wx hb 2 (by omega), h2]⟩)
                  clear h12 h10 h13 h11 h14 h2
                  go_enter Tryd.func58, Tryd.ntmps58
                  go_wp2_with (first
                    | (have _k := HB1; go_at_call 70; refine (sharedBy_01 _ (HK.out.keep HB1.out)).mono ?_; rintro e w2 ⟨rfl, hb2⟩; have HB2 := Lib.hid (HB1.out.trans (hb2.mono HB1.out.size)); clear hb2; have hd := HD.out _ HB2.out; have lb : b < w2.heap.size := Nat.lt_of_lt_of_le hl HB2.out.size; obtain ⟨a12, a10, a13, a11, a14, a2⟩ := hd)
                    | (go_at_call 70; refine (sharedBy_02 _ HK.out).mono ?_; rintro e w1 ⟨rfl, hb1⟩; have HB1 := Lib.hid hb1; clear hb1)
                    | (go_at_call 59; refine (keyed_any b f _ HK.out HS.out).mono ?_; rintro e w1 ⟨rfl, rfl⟩; rw [HY.out]))
                  go_ret
                  exact ⟨by rw [HV.out]; rfl, HB2.out⟩
                | true =>
                  have HV : Hid (bbs f 0 = 0) := Lib.hid (by rw [HR.out]; simp [h12, h10, h13, h11, h14, h2])
                  have HD : Hid (∀ wx, Below w.heap.size w wx → wx.cell? ⟨b, 12, none⟩ = some (.bool true) ∧ wx.cell? ⟨b, 10, none⟩ = some (.bool true) ∧ wx.cell? ⟨b, 13, none⟩ = some (.bool true) ∧ wx.cell? ⟨b, 11, none⟩ = some (.bool true) ∧ wx.cell? ⟨b, 14, none⟩ = some (.bool true) ∧ wx.cell? ⟨b, 2, none⟩ = some (.bool true)) := Lib.hid (fun wx hb => ⟨by rw [HC.out wx hb 12 (by omega), h12], by rw [HC.out wx hb 10 (by omega), h10], by rw [HC.out wx hb 13 (by omega), h13], by rw [HC.out wx hb 11 (by omega), h11], by rw [HC.out wx hb 14 (by omega), h14], by rw [HC.out wx hb 2 (by omega), h2]⟩)
                  clear h12 h10 h13 h11 h14 h2
                  go_enter Tryd.func58, Tryd.ntmps58
                  go_wp2_with (first
                    | (have _k := HB1; go_at_call 70; refine (sharedBy_01 _ (HK.out.keep HB1.out)).mono ?_; rintro e w2 ⟨rfl, hb2⟩; have HB2 := Lib.hid (HB1.out.trans (hb2.mono HB1.out.size)); clear hb2; have hd := HD.out _ HB2.out; have lb : b < w2.heap.size := Nat.lt_of_lt_of_le hl HB2.out.size; obtain ⟨a12, a10, a13, a11, a14, a2⟩ := hd)
                    | (go_at_call 70; refine (sharedBy_02 _ HK.out).mono ?_; rintro e w1 ⟨rfl, hb1⟩; have HB1 := Lib.hid hb1; clear hb1)
                    | (go_at_call 59; refine (keyed_any b f _ HK.out HS.out).mono ?_; rintro e w1 ⟨rfl, rfl⟩; rw [HY.out]))
                  go_ret
                  exact ⟨by rw [HV.out]; rfl, HB2.out⟩
    · have HR : Hid (bbs f 1 = if (f 11 && !f 10) || (f 13 && !f 12) then 5 else if f 14 && !f 5 then 6 else 0) := Lib.hid (by unfold bbs; rw [HY.out]; rfl)
      cases h11 : f 11 with
      | false =>
        cases h13 : f 13 with
        | false =>
          cases h14 : f 14 with
          | false =>
            have HV : Hid (bbs f 1 = 0) := Lib.hid (by rw [HR.out]; simp [h11, h13, h14])
            have HD : Hid (∀ wx, Below w.heap.size w wx → wx.cell? ⟨b, 11, none⟩ = some (.bool false) ∧ wx.cell? ⟨b, 13, none⟩ = some (.bool false) ∧ wx.cell? ⟨b, 14, none⟩ = some (.bool false)) := Lib.hid (fun wx hb => ⟨by rw [HC.out wx hb 11 (by omega), h11], by rw [HC.out wx hb 13 (by omega), h13], by rw [HC.out wx hb 14 (by omega), h14]⟩)
            clear h11 h13 h14
            go_enter Tryd.func58, Tryd.ntmps58
            go_wp2_with (first
              | (have _k := HB1; go_at_call 70; refine (sharedBy_11 _ (HK.out.keep HB1.out)).mono ?_; rintro e w2 ⟨rfl, hb2⟩; have HB2 := Lib.hid (HB1.out.trans (hb2.mono HB1.out.size)); clear hb2; have hd := HD.out _ HB2.out; have lb : b < w2.heap.size := Nat.lt_of_lt_of_le hl HB2.out.size; obtain ⟨a11, a13, a14⟩ := hd)
              | (go_at_call 70; refine (sharedBy_12 _ HK.out).mono ?_; rintro e w1 ⟨rfl, hb1⟩; have HB1 := Lib.hid hb1; clear hb1)
              | (go_at_call 59; refine (keyed_any b f _ HK.out HS.out).mono ?_; rintro e w1 ⟨rfl, rfl⟩; rw [HY.out]))
            go_ret
            exact ⟨by rw [HV.out]; rfl, HB2.out⟩
          | true =>
            cases h5 : f 5 with
            | false =>
              have HV : Hid (bbs f 1 = 6) := Lib.hid (by rw [HR.out]; simp [h11, h13, h14, h5])
              have HD : Hid (∀ wx, Below w.heap.size w wx → wx.cell? ⟨b, 11, none⟩ = some (.bool false) ∧ wx.cell? ⟨b, 13, none⟩ = some (.bool false) ∧ wx.cell? ⟨b, 14, none⟩ = some (.bool true) ∧ wx.cell? ⟨b, 5, none⟩ = some (.bool false)) := Lib.hid (fun wx hb => ⟨by rw [HC.out wx hb 11 (by omega), h11], by rw [HC.out wx hb 13 (by omega), h13], by rw [HC.out wx hb 14 (by omega), h14], by rw [HC.out wx hb 5 (by omega), h5]⟩)
              clear h11 h13 h14 h5
              go_enter Tryd.func58, Tryd.ntmps58
              go_wp2_with (first
                | (have _k := HB1; go_at_call 70; refine (sharedBy_11 _ (HK.out.keep HB1.out)).mono ?_; rintro e w2 ⟨rfl, hb2⟩; have HB2 := Lib.hid (HB1.out.trans (hb2.mono HB1.out.size)); clear hb2; have hd := HD.out _ HB2.out; have lb : b < w2.heap.size := Nat.lt_of_lt_of_le hl HB2.out.size; obtain ⟨a11, a13, a14, a5⟩ := hd)
                | (go_at_call 70; refine (sharedBy_12 _ HK.out).mono ?_; rintro e w1 ⟨rfl, hb1⟩; have HB1 := Lib.hid hb1; clear hb1)
                | (go_at_call 59; refine (keyed_any b f _ HK.out HS.out).mono ?_; rintro e w1 ⟨rfl, rfl⟩; rw [HY.out]))
              go_ret
              exact ⟨by rw [HV.out]; rfl, HB2.out⟩
            | true =>
              have HV : Hid (bbs f 1 = 0) := Lib.hid (by rw [HR.out]; simp [h11, h13, h14, h5])
              have HD : Hid (∀ wx, Below w.heap.size w wx → wx.cell? ⟨b, 11, none⟩ = some (.bool false) ∧ wx.cell? ⟨b, 13, none⟩ = some (.bool false) ∧ wx.cell? ⟨b, 14, none⟩ = some (.bool true) ∧ wx.cell? ⟨b, 5, none⟩ = some (.bool true)) := Lib.hid (fun wx hb => ⟨by rw [HC.out wx hb 11 (by omega), h11], by rw [HC.out wx hb 13 (by omega), h13], by rw [HC.out wx hb 14 (by omega), h14], by rw [HC.out wx hb 5 (by omega), h5]⟩)
              clear h11 h13 h14 h5
              go_enter Tryd.func58, Tryd.ntmps58
              go_wp2_with (first
                | (have _k := HB1; go_at_call 70; refine (sharedBy_11 _ (HK.out.keep HB1.out)).mono ?_; rintro e w2 ⟨rfl, hb2⟩; have HB2 := Lib.hid (HB1.out.trans (hb2.mono HB1.out.size)); clear hb2; have hd := HD.out _ HB2.out; have lb : b < w2.heap.size := Nat.lt_of_lt_of_le hl HB2.out.size; obtain ⟨a11, a13, a14, a5⟩ := hd)
                | (go_at_call 70; refine (sharedBy_12 _ HK.out).mono ?_; rintro e w1 ⟨rfl, hb1⟩; have HB1 := Lib.hid hb1; clear hb1)
                | (go_at_call 59; refine (keyed_any b f _ HK.out HS.out).mono ?_; rintro e w1 ⟨rfl, rfl⟩; rw [HY.out]))
              go_ret
              exact ⟨by rw [HV.out]; rfl, HB2.out⟩
        | true =>
          cases h12 : f 12 with
          | false =>
            have HV : Hid (bbs f 1 = 5) := Lib.hid (by rw [HR.out]; simp [h11, h13, h12])
            have HD : Hid (∀ wx, Below w.heap.size w wx → wx.cell? ⟨b, 11, none⟩ = some (.bool false) ∧ wx.cell? ⟨b, 13, none⟩ = some (.bool true) ∧ wx.cell? ⟨b, 12, none⟩ = some (.bool false)) := Lib.hid (fun wx hb => ⟨by rw [HC.out wx hb 11 (by omega), h11], by rw [HC.out wx hb 13 (by omega), h13], by rw [HC.out wx hb 12 (by omega), h12]⟩)
            clear h11 h13 h12
            go_enter Tryd.func58, Tryd.ntmps58
            go_wp2_with (first
              | (have _k := HB1; go_at_call 70; refine (sharedBy_11 _ (HK.out.keep HB1.out)).mono ?_; rintro e w2 ⟨rfl, hb2⟩; have HB2 := Lib.hid (HB1.out.trans (hb2.mono HB1.out.size)); clear hb2; have hd := HD.out _ HB2.out; have lb : b < w2.heap.size := Nat.lt_of_lt_of_le hl HB2.out.size; obtain ⟨a11, a13, a12⟩ := hd)
              | (go_at_call 70; refine (sharedBy_12 _ HK.out).mono ?_; rintro e w1 ⟨rfl, hb1⟩; have HB1 := Lib.hid hb1; clear hb1)
              | (go_at_call 59; refine (keyed_any b f _ HK.out HS.out).mono ?_; rintro e w1 ⟨rfl, rfl⟩; rw [HY.out]))
            go_ret
            exact ⟨by rw [HV.out]; rfl, HB2.out⟩
          | true =>
            cases h14 : f 14 with
            | false =>
              have HV : Hid (bbs f 1 = 0) := Lib.hid (by rw [HR.out]; simp [h11, h13, h12, h14])
              have HD : Hid (∀ wx, Below w.heap.size w wx → wx.cell? ⟨b, 11, none⟩ = some (.bool false) ∧ wx.cell? ⟨b, 13, none⟩ = some (.bool true) ∧ wx.cell? ⟨b, 12, none⟩ = some (.bool true) ∧ wx.cell? ⟨b, 14, none⟩ = some (.bool false)) := Lib.hid (fun wx hb => ⟨by rw [HC.out wx hb 11 (by omega), h11], by rw [HC.out wx hb 13 (by omega), h13], by rw [HC.out wx hb 12 (by omega), h12], by rw [HC.out wx hb 14 (by omega), h14]⟩)
              clear h11 h13 h12 h14
              go_enter Tryd.func58, Tryd.ntmps58
              go_wp2_with (first
                | (have _k := HB1; go_at_call 70; refine (sharedBy_11 _ (HK.out.keep HB1.out)).mono ?_; rintro e w2 ⟨rfl, hb2⟩; have HB2 := Lib.hid (HB1.out.trans (hb2.mono HB1.out.size)); clear hb2; have hd := HD.out _ HB2.out; have lb : b < w2.heap.size := Nat.lt_of_lt_of_le hl HB2.out.size; obtain ⟨a11, a13, a12, a14⟩ := hd)
                | (go_at_call 70; refine (sharedBy_12 _ HK.out).mono ?_; rintro e w1 ⟨rfl, hb1⟩; have HB1 := Lib.hid hb1; clear hb1)
                | (go_at_call 59; refine (keyed_any b f _ HK.out HS.out).mono ?_; rintro e w1 ⟨rfl, rfl⟩; rw [HY.out]))
              go_ret
              exact ⟨by rw [HV.out]; rfl, HB2.out⟩
            | true =>
              cases h5 : f 5 with
              | false =>
                have HV : Hid (bbs f 1 = 6) := Lib.hid (by rw [HR.out]; simp [h11, h13, h12, h14, h5])
                have HD : Hid (∀ wx, Below w.heap.size w wx → wx.cell? ⟨b, 11, none⟩ = some (.bool false) ∧ wx.cell? ⟨b, 13, none⟩ = some (.bool true) ∧ wx.cell? ⟨b, 12, none⟩ = some (.bool true) ∧ wx.cell? ⟨b, 14, none⟩ = some (.bool true) ∧ wx.cell? ⟨b, 5, none⟩ = some (.bool false)) := Lib.hid (fun wx hb => ⟨by rw [HC.out wx hb 11 (by omega), h11], by rw [HC.out wx hb 13 (by omega), h13], by rw [HC.out wx hb 12 (by omega), h12], by rw [HC.out wx hb 14 (by omega), h14], by rw [HC.out wx hb 5 (by omega), h5]⟩)
                clear h11 h13 h12 h14 h5
                go_enter Tryd.func58, Tryd.ntmps58
                go_wp2_with (first
                  | (have _k := HB1; go_at_call 70; refine (sharedBy_11 _ (HK.out.keep HB1.out)).mono ?_; rintro e w2 ⟨rfl, hb2⟩; have HB2 := Lib.hid (HB1.out.trans (hb2.mono HB1.out.size)); clear hb2; have hd := HD.out _ HB2.out; have lb : b < w2.heap.size := Nat.lt_of_lt_of_le hl HB2.out.size; obtain ⟨a11, a13, a12, a14, a5⟩ := hd)
                  | (go_at_call 70; refine (sharedBy_12 _ HK.out).mono ?_; rintro e w1 ⟨rfl, hb1⟩; have HB1 := Lib.hid hb1; clear hb1)
                  | (go_at_call 59; refine (keyed_any b f _ HK.out HS.out).mono ?_; rintro e w1 ⟨rfl, rfl⟩; rw [HY.out]))
                go_ret
                exact ⟨by rw [HV.out]; rfl, HB2.out⟩
              | true =>
                have HV : Hid (bbs f 1 = 0) := Lib.hid (by rw [HR.out]; simp [h11, h13, h12, h14, h5])
                have HD : Hid (∀ wx, Below w.heap.size w wx → wx.cell? ⟨b, 11, none⟩ = some (.bool false) ∧ wx.cell? ⟨b, 13, none⟩ = some (.bool true) ∧ wx.cell? ⟨b, 12, none⟩ = some (.bool true) ∧ wx.cell? ⟨b, 14, none⟩ = some (.bool true) ∧ wx.cell? ⟨b, 5, none⟩ = some (.bool true)) := Lib.hid (fun wx hb => ⟨by rw [HC.out wx hb 11 (by omega), h11], by rw [HC.out wx hb 13 (by omega), h13], by rw [HC.out wx hb 12 (by omega), h12], by rw [HC.out wx hb 14 (by omega), h14], by rw [HC.out wx hb 5 (by omega), h5]⟩)
                clear h11 h13 h12 h14 h5
                go_enter Tryd.func58, Tryd.ntmps58
                go_wp2_with (first
                  | (have _k := HB1; go_at_call 70; refine (sharedBy_11 _ (HK.out.keep HB1.out)).mono ?_; rintro e w2 ⟨rfl, hb2⟩; have HB2 := Lib.hid (HB1.out.trans (hb2.mono HB1.out.size)); clear hb2; have hd := HD.out _ HB2.out; have lb : b < w2.heap.size := Nat.lt_of_lt_of_le hl HB2.out.size; obtain ⟨a11, a13, a12, a14, a5⟩ := hd)
                  | (go_at_call 70; refine (sharedBy_12 _ HK.out).mono ?_; rintro e w1 ⟨rfl, hb1⟩; have HB1 := Lib.hid hb1; clear hb1)
                  | (go_at_call 59; refine (keyed_any b f _ HK.out HS.out).mono ?_; rintro e w1 ⟨rfl, rfl⟩; rw [HY.out]))
                go_ret
                exact ⟨by rw [HV.out]; rfl, HB2.out⟩
      | true =>
        cases h10 : f 10 with
        | false =>
          have HV : Hid (bbs f 1 = 5) := Lib.hid (by rw [HR.out]; simp [h11, h10])
          have HD : Hid (∀ wx, Below w.heap.size w wx → wx.cell? ⟨b, 11, none⟩ = some (.bool true) ∧ wx.cell? ⟨b, 10, none⟩ = some (.bool false)) := Lib.hid (fun wx hb => ⟨by rw [HC.out wx hb 11 (by omega), h11], by rw [HC.out wx hb 10 (by omega), h10]⟩)
          clear h11 h10
          go_enter Tryd.func58, Tryd.ntmps58
          go_wp2_with (first
            | (have _k := HB1; go_at_call 70; refine (sharedBy_11 _ (HK.out.keep HB1.out)).mono ?_; rintro e w2 ⟨rfl, hb2⟩; have HB2 := Lib.hid (HB1.out.trans (hb2.mono HB1.out.size)); clear hb2; have hd := HD.out _ HB2.out; have lb : b < w2.heap.size := Nat.lt_of_lt_of_le hl HB2.out.size; obtain ⟨a11, a10⟩ := hd)
            | (go_at_call 70; refine (sharedBy_12 _ HK.out).mono ?_; rintro e w1 ⟨rfl, hb1⟩; have HB1 := Lib.hid hb1; clear hb1)
            | (go_at_call 59; refine (keyed_any b f _ HK.out HS.out).mono ?_; rintro e w1 ⟨rfl, rfl⟩; rw [HY.out]))
          go_ret
          exact ⟨by rw [HV.out]; rfl, HB2.out⟩
        | true =>
          cases h13 : f 13 with
          | false =>
            cases h14 : f 14 with
            | false =>
              have HV : Hid (bbs f 1 = 0) := Lib.hid (by rw [HR.out]; simp [h11, h10, h13, h14])
              have HD : Hid (∀ wx, Below w.heap.size w wx → wx.cell? ⟨b, 11, none⟩ = some (.bool true) ∧ wx.cell? ⟨b, 10, none⟩ = some (.bool true) ∧ wx.cell? ⟨b, 13, none⟩ = some (.bool false) ∧ wx.cell? ⟨b, 14, none⟩ = some (.bool false)) := Lib.hid (fun wx hb => ⟨by rw [HC.out wx hb 11 (by omega), h11], by rw [HC.out wx hb 10 (by omega), h10], by rw [HC.out wx hb 13 (by omega), h13], by rw [HC.out wx hb 14 (by omega), h14]⟩)
              clear h11 h10 h13 h14
              go_enter Tryd.func58, Tryd.ntmps58
              go_wp2_with (first
                | (have _k := HB1; go_at_call 70; refine (sharedBy_11 _ (HK.out.keep HB1.out)).mono ?_; rintro e w2 ⟨rfl, hb2⟩; have HB2 := Lib.hid (HB1.out.trans (hb2.mono HB1.out.size)); clear hb2; have hd := HD.out _ HB2.out; have lb : b < w2.heap.size := Nat.lt_of_lt_of_le hl HB2.out.size; obtain ⟨a11, a10, a13, a14⟩ := hd)
                | (go_at_call 70; refine (sharedBy_12 _ HK.out).mono ?_; rintro e w1 ⟨rfl, hb1⟩; have HB1 := Lib.hid hb1; clear hb1)
                | (go_at_call 59; refine (keyed_any b f _ HK.out HS.out).mono ?_; rintro e w1 ⟨rfl, rfl⟩; rw [HY.out]))
              go_ret
              exact ⟨by rw [HV.out]; rfl, HB2.out⟩
            | true =>
              cases h5 : f 5 with
              | false =>
                have HV : Hid (bbs f 1 = 6) := Lib.hid (by rw [HR.out]; simp [h11, h10, h13, h14, h5])
                have HD : Hid (∀ wx, Below w.heap.size w wx → wx.cell? ⟨b, 11, none⟩ = some (.bool true) ∧ wx.cell? ⟨b, 10, none⟩ = some (.bool true) ∧ wx.cell? ⟨b, 13, none⟩ = some (.bool false) ∧ wx.cell? ⟨b, 14, none⟩ = some (.bool true) ∧ wx.cell? ⟨b, 5, none⟩ = some (.bool false)) := Lib.hid (fun wx hb => ⟨by rw [HC.out wx hb 11 (by omega), h11], by rw [HC.out wx hb 10 (by omega), h10], by rw [HC.out wx hb 13 (by omega), h13], by rw [HC.out wx hb 14 (by omega), h14], by rw [HC.out wx hb 5 (by omega), h5]⟩)
                clear h11 h10 h13 h14 h5
                go_enter Tryd.func58, Tryd.ntmps58
                go_wp2_with (first
                  | (have _k := HB1; go_at_call 70; refine (sharedBy_11 _ (HK.out.keep HB1.out)).mono ?_; rintro e w2 ⟨rfl, hb2⟩; have HB2 := Lib.hid (HB1.out.trans (hb2.mono HB1.out.size)); clear hb2; have hd := HD.out _ HB2.out; have lb : b < w2.heap.size := Nat.lt_of_lt_of_le hl HB2.out.size; obtain ⟨a11, a10, a13, a14, a5⟩ := hd)
                  | (go_at_call 70; refine (sharedBy_12 _ HK.out).mono ?_; rintro e w1 ⟨rfl, hb1⟩; have HB1 := Lib.hid hb1; clear hb1)
                  | (go_at_call 59; refine (keyed_any b f _ HK.out HS.out).mono ?_; rintro e w1 ⟨rfl, rfl⟩; rw [HY.out]))
                go_ret
                exact ⟨by rw [HV.out]; rfl, HB2.out⟩
              | true =>
                have HV : Hid (bbs f 1 = 0) := Lib.hid (by rw [HR.out]; simp [h11, h10, h13, h14, h5])
                have HD : Hid (∀ wx, Below w.heap.size w wx → wx.cell? ⟨b, 11, none⟩ = some (.bool true) ∧ wx.cell? ⟨b, 10, none⟩ = some (.bool true) ∧ wx.cell? ⟨b, 13, none⟩ = some (.bool false) ∧ wx.cell? ⟨b, 14, none⟩ = some (.bool true) ∧ wx.cell? ⟨b, 5, none⟩ = some (.bool true)) := Lib.hid (fun wx hb => ⟨by rw [HC.out wx hb 11 (by omega), h11], by rw [HC.out wx hb 10 (by omega), h10], by rw [HC.out wx hb 13 (by omega), h13], by rw [HC.out wx hb 14 (by omega), h14], by rw [HC.out wx hb 5 (by omega), h5]⟩)
                clear h11 h10 h13 h14 h5
                go_enter Tryd.func58, Tryd.ntmps58
                go_wp2_with (first
                  | (have _k := HB1; go_at_call 70; refine (sharedBy_11 _ (HK.out.keep HB1.out)).mono ?_; rintro e w2 ⟨rfl, hb2⟩; have HB2 := Lib.hid (HB1.out.trans (hb2.mono HB1.out.size)); clear hb2; have hd := HD.out _ HB2.out; have lb : b < w2.heap.size := Nat.lt_of_lt_of_le hl HB2.out.size; obtain ⟨a11, a10, a13, a14, a5⟩ := hd)
                  | (go_at_call 70; refine (sharedBy_12 _ HK.out).mono ?_; rintro e w1 ⟨rfl, hb1⟩; have HB1 := Lib.hid hb1; clear hb1)
                  | (go_at_call 59; refine (keyed_any b f _ HK.out HS.out).mono ?_; rintro e w1 ⟨rfl, rfl⟩; rw [HY.out]))
                go_ret
                exact ⟨by rw [HV.out]; rfl, HB2.out⟩
          | true =>
            cases h12 : f 12 with
            | false =>
              have HV : Hid (bbs f 1 = 5) := Lib.hid (by rw [HR.out]; simp [h11, h10, h13, h12])
              have HD : Hid (∀ wx, Below w.heap.size w wx → wx.cell? ⟨b, 11, none⟩ = some (.bool true) ∧ wx.cell? ⟨b, 10, none⟩ = some (.bool true) ∧ wx.cell? ⟨b, 13, none⟩ = some (.bool true) ∧ wx.cell? ⟨b, 12, none⟩ = some (.bool false)) := Lib.hid (fun wx hb => ⟨by rw [HC.out wx hb 11 (by omega), h11], by rw [HC.out wx hb 10 (by omega), h10], by rw [HC.out wx hb 13 (by omega), h13], by rw [HC.out wx hb 12 (by omega), h12]⟩)
              clear h11 h10 h13 h12
              go_enter Tryd.func58, Tryd.ntmps58
              go_wp2_with (first
                | (have _k := HB1; go_at_call 70; refine (sharedBy_11 _ (HK.out.keep HB1.out)).mono ?_; rintro e w2 ⟨rfl, hb2⟩; have HB2 := Lib.hid (HB1.out.trans (hb2.mono HB1.out.size)); clear hb2; have hd := HD.out _ HB2.out; have lb : b < w2.heap.size := Nat.lt_of_lt_of_le hl HB2.out.size; obtain ⟨a11, a10, a13, a12⟩ := hd)
                | (go_at_call 70; refine (sharedBy_12 _ HK.out).mono ?_; rintro e w1 ⟨rfl, hb1⟩; have HB1 := Lib.hid hb1; clear hb1)
                | (go_at_call 59; refine (keyed_any b f _ HK.out HS.out).mono ?_; rintro e w1 ⟨rfl, rfl⟩; rw [HY.out]))
              go_ret
              exact ⟨by rw [HV.out]; rfl, HB2.out⟩
            | true =>
              cases h14 : f 14 with
              | false =>
                have HV : Hid (bbs f 1 = 0) := Lib.hid (by rw [HR.out]; simp [h11, h10, h13, h12, h14])
                have HD : Hid (∀ wx, Below w.heap.size w wx → wx.cell? ⟨b, 11, none⟩ = some (.bool true) ∧ wx.cell? ⟨b, 10, none⟩ = some (.bool true) ∧ wx.cell? ⟨b, 13, none⟩ = some (.bool true) ∧ wx.cell? ⟨b, 12, none⟩ = some (.bool true) ∧ wx.cell? ⟨b, 14, none⟩ = some (.bool false)) := Lib.hid (fun wx hb => ⟨by rw [HC.out wx hb 11 (by omega), h11], by rw [HC.out wx hb 10 (by omega), h10], by rw [HC.out wx hb 13 (by omega), h13], by rw [HC.out wx hb 12 (by omega), h12], by rw [HC.out wx hb 14 (by omega), h14]⟩)
                clear h11 h10 h13 h12 h14
                go_enter Tryd.func58, Tryd.ntmps58
                go_wp2_with (first
                  | (have _k := HB1; go_at_call 70; refine (sharedBy_11 _ (HK.out.keep HB1.out)).mono ?_; rintro e w2 ⟨rfl, hb2⟩; have HB2 := Lib.hid (HB1.out.trans (hb2.mono HB1.out.size)); clear hb2; have hd := HD.out _ HB2.out; have lb : b < w2.heap.size := Nat.lt_of_lt_of_le hl HB2.out.size; obtain ⟨a11, a10, a13, a12, a14⟩ := hd)
                  | (go_at_call 70; refine (sharedBy_12 _ HK.out).mono ?_; rintro e w1 ⟨rfl, hb1⟩; have HB1 := Lib.hid hb1; clear hb1)
                  | (go_at_call 59; refine (keyed_any b f _ HK.out HS.out).mono ?_; rintro e w1 ⟨rfl, rfl⟩; rw [HY.out]))
                go_ret
                exact ⟨by rw [HV.out]; rfl, HB2.out⟩
              | true =>
                cases h5 : f 5 with
                | false =>
                  have HV : Hid (bbs f 1 = 6) := Lib.hid (by rw [HR.out]; simp [h11, h10, h13, h12, h14, h5])
                  have HD : Hid (∀ wx, Below w.heap.size w wx → wx.cell? ⟨b, 11, none⟩ = some (.bool true) ∧ wx.cell? ⟨b, 10, none⟩ = some (.bool true) ∧ wx.cell? ⟨b, 13, none⟩ = some (.bool true) ∧ wx.cell? ⟨b, 12, none⟩ = some (.bool true) ∧ wx.cell? ⟨b, 14, none⟩ = some (.bool true) ∧ wx.cell? ⟨b, 5, none⟩ = some (.bool false)) := Lib.hid (fun wx hb => ⟨by rw [HC.out wx hb 11 (by omega), h11], by rw [HC.out wx hb 10 (by omega), h10], by rw [HC.out wx hb 13 (by omega), h13], by rw [HC.out wx hb 12 (by omega), h12], by rw [HC.out wx hb 14 (by omega), h14], by rw [HC.out wx hb 5 (by omega), h5]⟩)
                  clear h11 h10 h13 h12 h14 h5
                  go_enter Tryd.func58, Tryd.ntmps58
                  go_wp2_with (first
                    | (have _k := HB1; go_at_call 70; refine (sharedBy_11 _ (HK.out.keep HB1.out)).mono ?_; rintro e w2 ⟨rfl, hb2⟩; have HB2 := Lib.hid (HB1.out.trans (hb2.mono HB1.out.size)); clear hb2; have hd := HD.out _ HB2.out; have lb : b < w2.heap.size := Nat.lt_of_lt_of_le hl HB2.out.size; obtain ⟨a11, a10, a13, a12, a14, a5⟩ := hd)
                    | (go_at_call 70; refine (sharedBy_12 _ HK.out).mono ?_; rintro e w1 ⟨rfl, hb1⟩; have HB1 := Lib.hid hb1; clear hb1)
                    | (go_at_call 59; refine (keyed_any b f _ HK.out HS.out).mono ?_; rintro e w1 ⟨rfl, rfl⟩; rw [HY.out]))
                  go_ret
                  exact ⟨by rw [HV.out]; rfl, HB2.out⟩
                | true =>
                  have HV : Hid (bbs f 1 = 0) := Lib.hid (by rw [HR.out]; simp [h11, h10, h13, h12, h14, h5])
                  have HD : Hid (∀ wx, Below w.heap.size w wx → wx.cell? ⟨b, 11, none⟩ = some (.bool true) ∧ wx.cell? ⟨b, 10, none⟩ = some (.bool true) ∧ wx.cell? ⟨b, 13, none⟩ = some (.bool true) ∧ wx.cell? ⟨b, 12, none⟩ = some (.bool true) ∧ wx.cell? ⟨b, 14, none⟩ = some (.bool true) ∧ wx.cell? ⟨b, 5, none⟩ = some (.bool true)) := Lib.hid (fun wx hb => ⟨by rw [HC.out wx hb 11 (by omega), h11], by rw [HC.out wx hb 10 (by omega), h10], by rw [HC.out wx hb 13 (by omega), h13], by rw [HC.out wx hb 12 (by omega), h12], by rw [HC.out wx hb 14 (by omega), h14], by rw [HC.out wx hb 5 (by omega), h5]⟩)
                  clear h11 h10 h13 h12 h14 h5
                  go_enter Tryd.func58, Tryd.ntmps58
                  go_wp2_with (first
                    | (have _k := HB1; go_at_call 70; refine (sharedBy_11 _ (HK.out.keep HB1.out)).mono ?_; rintro e w2 ⟨rfl, hb2⟩; have HB2 := Lib.hid (HB1.out.trans (hb2.mono HB1.out.size)); clear hb2; have hd := HD.out _ HB2.out; have lb : b < w2.heap.size := Nat.lt_of_lt_of_le hl HB2.out.size; obtain ⟨a11, a10, a13, a12, a14, a5⟩ := hd)
                    | (go_at_call 70; refine (sharedBy_12 _ HK.out).mono ?_; rintro e w1 ⟨rfl, hb1⟩; have HB1 := Lib.hid hb1; clear hb1)
                    | (go_at_call 59; refine (keyed_any b f _ HK.out HS.out).mono ?_; rintro e w1 ⟨rfl, rfl⟩; rw [HY.out]))
                  go_ret
                  exact ⟨by rw [HV.out]; rfl, HB2.out⟩

set_option maxRecDepth 100000 in
set_option maxHeartbeats 8000000 in
theorem brokenAt_any (b : Nat) (f : Cs) (r t : Int) (hr : r = 0 ∨ r = 1) (ht : isTok t = true) (w : World) (hk : Ky w) (hs : StV w b f) : Calls Tryd.prog 57 #[.pointer (some ⟨b, 0, none⟩), .int .i64 r, .int .i64 t] w fun e w' => e = .returned (.int .i64 (bat f r t)) ∧ Below w.heap.size w w' := by
  have hl := lt_of_heap hs
  have HBB := Lib.hid (bbs_any b f r hr w hk hs)
  have HOW := Lib.hid (fun t h3 h6 => owners_any b f t h3 h6 w hk hs)
  have HK := Lib.hid hk; clear hk
  have HS := Lib.hid hs; clear hs
  have ht := tok_cases ht
  rcases hr with rfl | rfl <;> rcases ht with rfl | rfl | rfl | rfl | rfl | rfl | rfl
  · have a := HS.out.at 2 (by omega)
    have HB : Hid (Below w.heap.size w w) := Lib.hid (Below.refl _ _)
    cases hc : f 2 with
    | true =>
      rw [hc] at a
      have HV : Hid (bat f 0 1 = 2) := Lib.hid (by simp [bat, sdI, hc])
      clear hc
      go_enter Tryd.func57, Tryd.ntmps57
      go_wp2_with (go_at_call 55; refine (isKey_any _ _).mono ?_; rintro e w1 ⟨rfl, rfl⟩)
      go_ret
      exact ⟨by rw [HV.out]; rfl, Below.refl _ _⟩
    | false =>
      rw [hc] at a
      have HV : Hid (bat f 0 1 = 0) := Lib.hid (by simp [bat, sdI, hc])
      clear hc
      go_enter Tryd.func57, Tryd.ntmps57
      go_wp2_with (first
        | (go_at_call 55; refine (isKey_any _ _).mono ?_; rintro e w1 ⟨rfl, rfl⟩)
        | (go_at_call 68; refine (isShared_any _ (by decide) (by decide) _ (HK.out.keep HB.out)).mono ?_; rintro e w1 ⟨rfl, rfl⟩; rw [show shB 1 = false from rfl]))
      go_ret
      exact ⟨by rw [HV.out]; rfl, Below.refl _ _⟩
  · have a := HS.out.at 3 (by omega)
    have HB : Hid (Below w.heap.size w w) := Lib.hid (Below.refl _ _)
    cases hc : f 3 with
    | true =>
      rw [hc] at a
      have HV : Hid (bat f 0 2 = 2) := Lib.hid (by simp [bat, sdI, hc])
      clear hc
      go_enter Tryd.func57, Tryd.ntmps57
      go_wp2_with (go_at_call 55; refine (isKey_any _ _).mono ?_; rintro e w1 ⟨rfl, rfl⟩)
      go_ret
      exact ⟨by rw [HV.out]; rfl, Below.refl _ _⟩
    | false =>
      rw [hc] at a
      have HV : Hid (bat f 0 2 = bbs f 0) := Lib.hid (by simp [bat, sdI, hc])
      clear hc
      go_enter Tryd.func57, Tryd.ntmps57
      go_wp2_with (first
        | (go_at_call 55; refine (isKey_any _ _).mono ?_; rintro e w1 ⟨rfl, rfl⟩)
        | (go_at_call 58; refine HBB.out.mono ?_; rintro e w1 ⟨rfl, hb1⟩; have HB1 := Lib.hid hb1; clear hb1))
      go_ret
      exact ⟨by rw [HV.out]; rfl, HB1.out⟩
  · have HB : Hid (Below w.heap.size w w) := Lib.hid (Below.refl _ _)
    cases ho : ow2 f 3 with
    | false =>
      have HO := Lib.hid ho
      have HV : Hid (bat f 0 3 = 3) := Lib.hid (by simp [bat, ho])
      clear ho
      go_enter Tryd.func57, Tryd.ntmps57
      go_wp2_with (first
        | (go_at_call 55; refine (isKey_any _ _).mono ?_; rintro e w1 ⟨rfl, rfl⟩)
        | (go_at_call 68; refine (isShared_any _ (by decide) (by decide) _ (HK.out.keep HB.out)).mono ?_; rintro e w1 ⟨rfl, rfl⟩; rw [show shB 3 = true from rfl])
        | (go_at_call 69; refine (HOW.out _ (by decide) (by decide)).mono ?_; rintro e w1 ⟨rfl, hb1⟩; rw [HO.out]; have HB1 := Lib.hid hb1; clear hb1))
      go_ret
      exact ⟨by rw [HV.out]; rfl, HB1.out⟩
    | true =>
      have HO := Lib.hid ho
      cases hm : f 10 with
      | false =>
        have HV : Hid (bat f 0 3 = 0) := Lib.hid (by simp [bat, HO.out, hm])
        have HD : Hid (∀ wx, Below w.heap.size w wx → wx.cell? ⟨b, 10, none⟩ = some (.bool false)) := Lib.hid (fun wx hb => by rw [(HS.out.keep hb).at 10 (by omega), hm])
        clear ho hm
        go_enter Tryd.func57, Tryd.ntmps57
        go_wp2_with (first
          | (go_at_call 55; refine (isKey_any _ _).mono ?_; rintro e w1 ⟨rfl, rfl⟩)
          | (have _k := HB1; go_at_call 68; refine (isShared_any _ (by decide) (by decide) _ (HK.out.keep HB1.out)).mono ?_; rintro e w1 ⟨rfl, rfl⟩; rw [show shB 3 = true from rfl])
          | (go_at_call 68; refine (isShared_any _ (by decide) (by decide) _ (HK.out.keep HB.out)).mono ?_; rintro e w1 ⟨rfl, rfl⟩; rw [show shB 3 = true from rfl])
          | (go_at_call 69; refine (HOW.out _ (by decide) (by decide)).mono ?_; rintro e w1 ⟨rfl, hb1⟩; rw [HO.out]; have HB1 := Lib.hid hb1; clear hb1; have hd := HD.out _ HB1.out; have lb : b < w1.heap.size := Nat.lt_of_lt_of_le hl HB1.out.size))
        go_ret
        exact ⟨by rw [HV.out]; rfl, HB1.out⟩
      | true =>
        have HV : Hid (bat f 0 3 = 4) := Lib.hid (by simp [bat, HO.out, hm])
        have HD : Hid (∀ wx, Below w.heap.size w wx → wx.cell? ⟨b, 10, none⟩ = some (.bool true)) := Lib.hid (fun wx hb => by rw [(HS.out.keep hb).at 10 (by omega), hm])
        clear ho hm
        go_enter Tryd.func57, Tryd.ntmps57
        go_wp2_with (first
          | (go_at_call 55; refine (isKey_any _ _).mono ?_; rintro e w1 ⟨rfl, rfl⟩)
          | (have _k := HB1; go_at_call 68; refine (isShared_any _ (by decide) (by decide) _ (HK.out.keep HB1.out)).mono ?_; rintro e w1 ⟨rfl, rfl⟩; rw [show shB 3 = true from rfl])
          | (go_at_call 68; refine (isShared_any _ (by decide) (by decide) _ (HK.out.keep HB.out)).mono ?_; rintro e w1 ⟨rfl, rfl⟩; rw [show shB 3 = true from rfl])
          | (go_at_call 69; refine (HOW.out _ (by decide) (by decide)).mono ?_; rintro e w1 ⟨rfl, hb1⟩; rw [HO.out]; have HB1 := Lib.hid hb1; clear hb1; have hd := HD.out _ HB1.out; have lb : b < w1.heap.size := Nat.lt_of_lt_of_le hl HB1.out.size))
        go_ret
        exact ⟨by rw [HV.out]; rfl, HB1.out⟩
  · have HB : Hid (Below w.heap.size w w) := Lib.hid (Below.refl _ _)
    cases ho : ow2 f 4 with
    | false =>
      have HO := Lib.hid ho
      have HV : Hid (bat f 0 4 = 3) := Lib.hid (by simp [bat, ho])
      clear ho
      go_enter Tryd.func57, Tryd.ntmps57
      go_wp2_with (first
        | (go_at_call 55; refine (isKey_any _ _).mono ?_; rintro e w1 ⟨rfl, rfl⟩)
        | (go_at_call 68; refine (isShared_any _ (by decide) (by decide) _ (HK.out.keep HB.out)).mono ?_; rintro e w1 ⟨rfl, rfl⟩; rw [show shB 4 = true from rfl])
        | (go_at_call 69; refine (HOW.out _ (by decide) (by decide)).mono ?_; rintro e w1 ⟨rfl, hb1⟩; rw [HO.out]; have HB1 := Lib.hid hb1; clear hb1))
      go_ret
      exact ⟨by rw [HV.out]; rfl, HB1.out⟩
    | true =>
      have HO := Lib.hid ho
      cases hm : f 11 with
      | false =>
        have HV : Hid (bat f 0 4 = 0) := Lib.hid (by simp [bat, HO.out, hm])
        have HD : Hid (∀ wx, Below w.heap.size w wx → wx.cell? ⟨b, 11, none⟩ = some (.bool false)) := Lib.hid (fun wx hb => by rw [(HS.out.keep hb).at 11 (by omega), hm])
        clear ho hm
        go_enter Tryd.func57, Tryd.ntmps57
        go_wp2_with (first
          | (go_at_call 55; refine (isKey_any _ _).mono ?_; rintro e w1 ⟨rfl, rfl⟩)
          | (have _k := HB1; go_at_call 68; refine (isShared_any _ (by decide) (by decide) _ (HK.out.keep HB1.out)).mono ?_; rintro e w1 ⟨rfl, rfl⟩; rw [show shB 4 = true from rfl])
          | (go_at_call 68; refine (isShared_any _ (by decide) (by decide) _ (HK.out.keep HB.out)).mono ?_; rintro e w1 ⟨rfl, rfl⟩; rw [show shB 4 = true from rfl])
          | (go_at_call 69; refine (HOW.out _ (by decide) (by decide)).mono ?_; rintro e w1 ⟨rfl, hb1⟩; rw [HO.out]; have HB1 := Lib.hid hb1; clear hb1; have hd := HD.out _ HB1.out; have lb : b < w1.heap.size := Nat.lt_of_lt_of_le hl HB1.out.size))
        go_ret
        exact ⟨by rw [HV.out]; rfl, HB1.out⟩
      | true =>
        have HV : Hid (bat f 0 4 = 4) := Lib.hid (by simp [bat, HO.out, hm])
        have HD : Hid (∀ wx, Below w.heap.size w wx → wx.cell? ⟨b, 11, none⟩ = some (.bool true)) := Lib.hid (fun wx hb => by rw [(HS.out.keep hb).at 11 (by omega), hm])
        clear ho hm
        go_enter Tryd.func57, Tryd.ntmps57
        go_wp2_with (first
          | (go_at_call 55; refine (isKey_any _ _).mono ?_; rintro e w1 ⟨rfl, rfl⟩)
          | (have _k := HB1; go_at_call 68; refine (isShared_any _ (by decide) (by decide) _ (HK.out.keep HB1.out)).mono ?_; rintro e w1 ⟨rfl, rfl⟩; rw [show shB 4 = true from rfl])
          | (go_at_call 68; refine (isShared_any _ (by decide) (by decide) _ (HK.out.keep HB.out)).mono ?_; rintro e w1 ⟨rfl, rfl⟩; rw [show shB 4 = true from rfl])
          | (go_at_call 69; refine (HOW.out _ (by decide) (by decide)).mono ?_; rintro e w1 ⟨rfl, hb1⟩; rw [HO.out]; have HB1 := Lib.hid hb1; clear hb1; have hd := HD.out _ HB1.out; have lb : b < w1.heap.size := Nat.lt_of_lt_of_le hl HB1.out.size))
        go_ret
        exact ⟨by rw [HV.out]; rfl, HB1.out⟩
  · have HB : Hid (Below w.heap.size w w) := Lib.hid (Below.refl _ _)
    cases ho : ow2 f 5 with
    | false =>
      have HO := Lib.hid ho
      have HV : Hid (bat f 0 5 = 3) := Lib.hid (by simp [bat, ho])
      clear ho
      go_enter Tryd.func57, Tryd.ntmps57
      go_wp2_with (first
        | (go_at_call 55; refine (isKey_any _ _).mono ?_; rintro e w1 ⟨rfl, rfl⟩)
        | (go_at_call 68; refine (isShared_any _ (by decide) (by decide) _ (HK.out.keep HB.out)).mono ?_; rintro e w1 ⟨rfl, rfl⟩; rw [show shB 5 = true from rfl])
        | (go_at_call 69; refine (HOW.out _ (by decide) (by decide)).mono ?_; rintro e w1 ⟨rfl, hb1⟩; rw [HO.out]; have HB1 := Lib.hid hb1; clear hb1))
      go_ret
      exact ⟨by rw [HV.out]; rfl, HB1.out⟩
    | true =>
      have HO := Lib.hid ho
      cases hm : f 12 with
      | false =>
        have HV : Hid (bat f 0 5 = 0) := Lib.hid (by simp [bat, HO.out, hm])
        have HD : Hid (∀ wx, Below w.heap.size w wx → wx.cell? ⟨b, 12, none⟩ = some (.bool false)) := Lib.hid (fun wx hb => by rw [(HS.out.keep hb).at 12 (by omega), hm])
        clear ho hm
        go_enter Tryd.func57, Tryd.ntmps57
        go_wp2_with (first
          | (go_at_call 55; refine (isKey_any _ _).mono ?_; rintro e w1 ⟨rfl, rfl⟩)
          | (have _k := HB1; go_at_call 68; refine (isShared_any _ (by decide) (by decide) _ (HK.out.keep HB1.out)).mono ?_; rintro e w1 ⟨rfl, rfl⟩; rw [show shB 5 = true from rfl])
          | (go_at_call 68; refine (isShared_any _ (by decide) (by decide) _ (HK.out.keep HB.out)).mono ?_; rintro e w1 ⟨rfl, rfl⟩; rw [show shB 5 = true from rfl])
          | (go_at_call 69; refine (HOW.out _ (by decide) (by decide)).mono ?_; rintro e w1 ⟨rfl, hb1⟩; rw [HO.out]; have HB1 := Lib.hid hb1; clear hb1; have hd := HD.out _ HB1.out; have lb : b < w1.heap.size := Nat.lt_of_lt_of_le hl HB1.out.size))
        go_ret
        exact ⟨by rw [HV.out]; rfl, HB1.out⟩
      | true =>
        have HV : Hid (bat f 0 5 = 4) := Lib.hid (by simp [bat, HO.out, hm])
        have HD : Hid (∀ wx, Below w.heap.size w wx → wx.cell? ⟨b, 12, none⟩ = some (.bool true)) := Lib.hid (fun wx hb => by rw [(HS.out.keep hb).at 12 (by omega), hm])
        clear ho hm
        go_enter Tryd.func57, Tryd.ntmps57
        go_wp2_with (first
          | (go_at_call 55; refine (isKey_any _ _).mono ?_; rintro e w1 ⟨rfl, rfl⟩)
          | (have _k := HB1; go_at_call 68; refine (isShared_any _ (by decide) (by decide) _ (HK.out.keep HB1.out)).mono ?_; rintro e w1 ⟨rfl, rfl⟩; rw [show shB 5 = true from rfl])
          | (go_at_call 68; refine (isShared_any _ (by decide) (by decide) _ (HK.out.keep HB.out)).mono ?_; rintro e w1 ⟨rfl, rfl⟩; rw [show shB 5 = true from rfl])
          | (go_at_call 69; refine (HOW.out _ (by decide) (by decide)).mono ?_; rintro e w1 ⟨rfl, hb1⟩; rw [HO.out]; have HB1 := Lib.hid hb1; clear hb1; have hd := HD.out _ HB1.out; have lb : b < w1.heap.size := Nat.lt_of_lt_of_le hl HB1.out.size))
        go_ret
        exact ⟨by rw [HV.out]; rfl, HB1.out⟩
  · have HB : Hid (Below w.heap.size w w) := Lib.hid (Below.refl _ _)
    cases ho : ow2 f 6 with
    | false =>
      have HO := Lib.hid ho
      have HV : Hid (bat f 0 6 = 3) := Lib.hid (by simp [bat, ho])
      clear ho
      go_enter Tryd.func57, Tryd.ntmps57
      go_wp2_with (first
        | (go_at_call 55; refine (isKey_any _ _).mono ?_; rintro e w1 ⟨rfl, rfl⟩)
        | (go_at_call 68; refine (isShared_any _ (by decide) (by decide) _ (HK.out.keep HB.out)).mono ?_; rintro e w1 ⟨rfl, rfl⟩; rw [show shB 6 = true from rfl])
        | (go_at_call 69; refine (HOW.out _ (by decide) (by decide)).mono ?_; rintro e w1 ⟨rfl, hb1⟩; rw [HO.out]; have HB1 := Lib.hid hb1; clear hb1))
      go_ret
      exact ⟨by rw [HV.out]; rfl, HB1.out⟩
    | true =>
      have HO := Lib.hid ho
      cases hm : f 13 with
      | false =>
        have HV : Hid (bat f 0 6 = 0) := Lib.hid (by simp [bat, HO.out, hm])
        have HD : Hid (∀ wx, Below w.heap.size w wx → wx.cell? ⟨b, 13, none⟩ = some (.bool false)) := Lib.hid (fun wx hb => by rw [(HS.out.keep hb).at 13 (by omega), hm])
        clear ho hm
        go_enter Tryd.func57, Tryd.ntmps57
        go_wp2_with (first
          | (go_at_call 55; refine (isKey_any _ _).mono ?_; rintro e w1 ⟨rfl, rfl⟩)
          | (have _k := HB1; go_at_call 68; refine (isShared_any _ (by decide) (by decide) _ (HK.out.keep HB1.out)).mono ?_; rintro e w1 ⟨rfl, rfl⟩; rw [show shB 6 = true from rfl])
          | (go_at_call 68; refine (isShared_any _ (by decide) (by decide) _ (HK.out.keep HB.out)).mono ?_; rintro e w1 ⟨rfl, rfl⟩; rw [show shB 6 = true from rfl])
          | (go_at_call 69; refine (HOW.out _ (by decide) (by decide)).mono ?_; rintro e w1 ⟨rfl, hb1⟩; rw [HO.out]; have HB1 := Lib.hid hb1; clear hb1; have hd := HD.out _ HB1.out; have lb : b < w1.heap.size := Nat.lt_of_lt_of_le hl HB1.out.size))
        go_ret
        exact ⟨by rw [HV.out]; rfl, HB1.out⟩
      | true =>
        have HV : Hid (bat f 0 6 = 4) := Lib.hid (by simp [bat, HO.out, hm])
        have HD : Hid (∀ wx, Below w.heap.size w wx → wx.cell? ⟨b, 13, none⟩ = some (.bool true)) := Lib.hid (fun wx hb => by rw [(HS.out.keep hb).at 13 (by omega), hm])
        clear ho hm
        go_enter Tryd.func57, Tryd.ntmps57
        go_wp2_with (first
          | (go_at_call 55; refine (isKey_any _ _).mono ?_; rintro e w1 ⟨rfl, rfl⟩)
          | (have _k := HB1; go_at_call 68; refine (isShared_any _ (by decide) (by decide) _ (HK.out.keep HB1.out)).mono ?_; rintro e w1 ⟨rfl, rfl⟩; rw [show shB 6 = true from rfl])
          | (go_at_call 68; refine (isShared_any _ (by decide) (by decide) _ (HK.out.keep HB.out)).mono ?_; rintro e w1 ⟨rfl, rfl⟩; rw [show shB 6 = true from rfl])
          | (go_at_call 69; refine (HOW.out _ (by decide) (by decide)).mono ?_; rintro e w1 ⟨rfl, hb1⟩; rw [HO.out]; have HB1 := Lib.hid hb1; clear hb1; have hd := HD.out _ HB1.out; have lb : b < w1.heap.size := Nat.lt_of_lt_of_le hl HB1.out.size))
        go_ret
        exact ⟨by rw [HV.out]; rfl, HB1.out⟩
  · have HB : Hid (Below w.heap.size w w) := Lib.hid (Below.refl _ _)
    have HV : Hid (bat f 0 7 = 0) := Lib.hid (by simp [bat])
    go_enter Tryd.func57, Tryd.ntmps57
    go_wp2_with (first
      | (go_at_call 55; refine (isKey_any _ _).mono ?_; rintro e w1 ⟨rfl, rfl⟩)
      | (go_at_call 68; refine (isShared_any _ (by decide) (by decide) _ (HK.out.keep HB.out)).mono ?_; rintro e w1 ⟨rfl, rfl⟩; rw [show shB 7 = false from rfl]))
    go_ret
    exact ⟨by rw [HV.out]; rfl, Below.refl _ _⟩
  · have a := HS.out.at 5 (by omega)
    have HB : Hid (Below w.heap.size w w) := Lib.hid (Below.refl _ _)
    cases hc : f 5 with
    | true =>
      rw [hc] at a
      have HV : Hid (bat f 1 1 = 2) := Lib.hid (by simp [bat, sdI, hc])
      clear hc
      go_enter Tryd.func57, Tryd.ntmps57
      go_wp2_with (go_at_call 55; refine (isKey_any _ _).mono ?_; rintro e w1 ⟨rfl, rfl⟩)
      go_ret
      exact ⟨by rw [HV.out]; rfl, Below.refl _ _⟩
    | false =>
      rw [hc] at a
      have HV : Hid (bat f 1 1 = 0) := Lib.hid (by simp [bat, sdI, hc])
      clear hc
      go_enter Tryd.func57, Tryd.ntmps57
      go_wp2_with (first
        | (go_at_call 55; refine (isKey_any _ _).mono ?_; rintro e w1 ⟨rfl, rfl⟩)
        | (go_at_call 68; refine (isShared_any _ (by decide) (by decide) _ (HK.out.keep HB.out)).mono ?_; rintro e w1 ⟨rfl, rfl⟩; rw [show shB 1 = false from rfl]))
      go_ret
      exact ⟨by rw [HV.out]; rfl, Below.refl _ _⟩
  · have a := HS.out.at 6 (by omega)
    have HB : Hid (Below w.heap.size w w) := Lib.hid (Below.refl _ _)
    cases hc : f 6 with
    | true =>
      rw [hc] at a
      have HV : Hid (bat f 1 2 = 2) := Lib.hid (by simp [bat, sdI, hc])
      clear hc
      go_enter Tryd.func57, Tryd.ntmps57
      go_wp2_with (go_at_call 55; refine (isKey_any _ _).mono ?_; rintro e w1 ⟨rfl, rfl⟩)
      go_ret
      exact ⟨by rw [HV.out]; rfl, Below.refl _ _⟩
    | false =>
      rw [hc] at a
      have HV : Hid (bat f 1 2 = bbs f 1) := Lib.hid (by simp [bat, sdI, hc])
      clear hc
      go_enter Tryd.func57, Tryd.ntmps57
      go_wp2_with (first
        | (go_at_call 55; refine (isKey_any _ _).mono ?_; rintro e w1 ⟨rfl, rfl⟩)
        | (go_at_call 58; refine HBB.out.mono ?_; rintro e w1 ⟨rfl, hb1⟩; have HB1 := Lib.hid hb1; clear hb1))
      go_ret
      exact ⟨by rw [HV.out]; rfl, HB1.out⟩
  · have HB : Hid (Below w.heap.size w w) := Lib.hid (Below.refl _ _)
    cases ho : ow2 f 3 with
    | false =>
      have HO := Lib.hid ho
      have HV : Hid (bat f 1 3 = 3) := Lib.hid (by simp [bat, ho])
      clear ho
      go_enter Tryd.func57, Tryd.ntmps57
      go_wp2_with (first
        | (go_at_call 55; refine (isKey_any _ _).mono ?_; rintro e w1 ⟨rfl, rfl⟩)
        | (go_at_call 68; refine (isShared_any _ (by decide) (by decide) _ (HK.out.keep HB.out)).mono ?_; rintro e w1 ⟨rfl, rfl⟩; rw [show shB 3 = true from rfl])
        | (go_at_call 69; refine (HOW.out _ (by decide) (by decide)).mono ?_; rintro e w1 ⟨rfl, hb1⟩; rw [HO.out]; have HB1 := Lib.hid hb1; clear hb1))
      go_ret
      exact ⟨by rw [HV.out]; rfl, HB1.out⟩
    | true =>
      have HO := Lib.hid ho
      cases hm : f 10 with
      | false =>
        have HV : Hid (bat f 1 3 = 0) := Lib.hid (by simp [bat, HO.out, hm])
        have HD : Hid (∀ wx, Below w.heap.size w wx → wx.cell? ⟨b, 10, none⟩ = some (.bool false)) := Lib.hid (fun wx hb => by rw [(HS.out.keep hb).at 10 (by omega), hm])
        clear ho hm
        go_enter Tryd.func57, Tryd.ntmps57
        go_wp2_with (first
          | (go_at_call 55; refine (isKey_any _ _).mono ?_; rintro e w1 ⟨rfl, rfl⟩)
          | (have _k := HB1; go_at_call 68; refine (isShared_any _ (by decide) (by decide) _ (HK.out.keep HB1.out)).mono ?_; rintro e w1 ⟨rfl, rfl⟩; rw [show shB 3 = true from rfl])
          | (go_at_call 68; refine (isShared_any _ (by decide) (by decide) _ (HK.out.keep HB.out)).mono ?_; rintro e w1 ⟨rfl, rfl⟩; rw [show shB 3 = true from rfl])
          | (go_at_call 69; refine (HOW.out _ (by decide) (by decide)).mono ?_; rintro e w1 ⟨rfl, hb1⟩; rw [HO.out]; have HB1 := Lib.hid hb1; clear hb1; have hd := HD.out _ HB1.out; have lb : b < w1.heap.size := Nat.lt_of_lt_of_le hl HB1.out.size))
        go_ret
        exact ⟨by rw [HV.out]; rfl, HB1.out⟩
      | true =>
        have HV : Hid (bat f 1 3 = 4) := Lib.hid (by simp [bat, HO.out, hm])
        have HD : Hid (∀ wx, Below w.heap.size w wx → wx.cell? ⟨b, 10, none⟩ = some (.bool true)) := Lib.hid (fun wx hb => by rw [(HS.out.keep hb).at 10 (by omega), hm])
        clear ho hm
        go_enter Tryd.func57, Tryd.ntmps57
        go_wp2_with (first
          | (go_at_call 55; refine (isKey_any _ _).mono ?_; rintro e w1 ⟨rfl, rfl⟩)
          | (have _k := HB1; go_at_call 68; refine (isShared_any _ (by decide) (by decide) _ (HK.out.keep HB1.out)).mono ?_; rintro e w1 ⟨rfl, rfl⟩; rw [show shB 3 = true from rfl])
          | (go_at_call 68; refine (isShared_any _ (by decide) (by decide) _ (HK.out.keep HB.out)).mono ?_; rintro e w1 ⟨rfl, rfl⟩; rw [show shB 3 = true from rfl])
          | (go_at_call 69; refine (HOW.out _ (by decide) (by decide)).mono ?_; rintro e w1 ⟨rfl, hb1⟩; rw [HO.out]; have HB1 := Lib.hid hb1; clear hb1; have hd := HD.out _ HB1.out; have lb : b < w1.heap.size := Nat.lt_of_lt_of_le hl HB1.out.size))
        go_ret
        exact ⟨by rw [HV.out]; rfl, HB1.out⟩
  · have HB : Hid (Below w.heap.size w w) := Lib.hid (Below.refl _ _)
    cases ho : ow2 f 4 with
    | false =>
      have HO := Lib.hid ho
      have HV : Hid (bat f 1 4 = 3) := Lib.hid (by simp [bat, ho])
      clear ho
      go_enter Tryd.func57, Tryd.ntmps57
      go_wp2_with (first
        | (go_at_call 55; refine (isKey_any _ _).mono ?_; rintro e w1 ⟨rfl, rfl⟩)
        | (go_at_call 68; refine (isShared_any _ (by decide) (by decide) _ (HK.out.keep HB.out)).mono ?_; rintro e w1 ⟨rfl, rfl⟩; rw [show shB 4 = true from rfl])
        | (go_at_call 69; refine (HOW.out _ (by decide) (by decide)).mono ?_; rintro e w1 ⟨rfl, hb1⟩; rw [HO.out]; have HB1 := Lib.hid hb1; clear hb1))
      go_ret
      exact ⟨by rw [HV.out]; rfl, HB1.out⟩
    | true =>
      have HO := Lib.hid ho
      cases hm : f 11 with
      | false =>
        have HV : Hid (bat f 1 4 = 0) := Lib.hid (by simp [bat, HO.out, hm])
        have HD : Hid (∀ wx, Below w.heap.size w wx → wx.cell? ⟨b, 11, none⟩ = some (.bool false)) := Lib.hid (fun wx hb => by rw [(HS.out.keep hb).at 11 (by omega), hm])
        clear ho hm
        go_enter Tryd.func57, Tryd.ntmps57
        go_wp2_with (first
          | (go_at_call 55; refine (isKey_any _ _).mono ?_; rintro e w1 ⟨rfl, rfl⟩)
          | (have _k := HB1; go_at_call 68; refine (isShared_any _ (by decide) (by decide) _ (HK.out.keep HB1.out)).mono ?_; rintro e w1 ⟨rfl, rfl⟩; rw [show shB 4 = true from rfl])
          | (go_at_call 68; refine (isShared_any _ (by decide) (by decide) _ (HK.out.keep HB.out)).mono ?_; rintro e w1 ⟨rfl, rfl⟩; rw [show shB 4 = true from rfl])
          | (go_at_call 69; refine (HOW.out _ (by decide) (by decide)).mono ?_; rintro e w1 ⟨rfl, hb1⟩; rw [HO.out]; have HB1 := Lib.hid hb1; clear hb1; have hd := HD.out _ HB1.out; have lb : b < w1.heap.size := Nat.lt_of_lt_of_le hl HB1.out.size))
        go_ret
        exact ⟨by rw [HV.out]; rfl, HB1.out⟩
      | true =>
        have HV : Hid (bat f 1 4 = 4) := Lib.hid (by simp [bat, HO.out, hm])
        have HD : Hid (∀ wx, Below w.heap.size w wx → wx.cell? ⟨b, 11, none⟩ = some (.bool true)) := Lib.hid (fun wx hb => by rw [(HS.out.keep hb).at 11 (by omega), hm])
        clear ho hm
        go_enter Tryd.func57, Tryd.ntmps57
        go_wp2_with (first
          | (go_at_call 55; refine (isKey_any _ _).mono ?_; rintro e w1 ⟨rfl, rfl⟩)
          | (have _k := HB1; go_at_call 68; refine (isShared_any _ (by decide) (by decide) _ (HK.out.keep HB1.out)).mono ?_; rintro e w1 ⟨rfl, rfl⟩; rw [show shB 4 = true from rfl])
          | (go_at_call 68; refine (isShared_any _ (by decide) (by decide) _ (HK.out.keep HB.out)).mono ?_; rintro e w1 ⟨rfl, rfl⟩; rw [show shB 4 = true from rfl])
          | (go_at_call 69; refine (HOW.out _ (by decide) (by decide)).mono ?_; rintro e w1 ⟨rfl, hb1⟩; rw [HO.out]; have HB1 := Lib.hid hb1; clear hb1; have hd := HD.out _ HB1.out; have lb : b < w1.heap.size := Nat.lt_of_lt_of_le hl HB1.out.size))
        go_ret
        exact ⟨by rw [HV.out]; rfl, HB1.out⟩
  · have HB : Hid (Below w.heap.size w w) := Lib.hid (Below.refl _ _)
    cases ho : ow2 f 5 with
    | false =>
      have HO := Lib.hid ho
      have HV : Hid (bat f 1 5 = 3) := Lib.hid (by simp [bat, ho])
      clear ho
      go_enter Tryd.func57, Tryd.ntmps57
      go_wp2_with (first
        | (go_at_call 55; refine (isKey_any _ _).mono ?_; rintro e w1 ⟨rfl, rfl⟩)
        | (go_at_call 68; refine (isShared_any _ (by decide) (by decide) _ (HK.out.keep HB.out)).mono ?_; rintro e w1 ⟨rfl, rfl⟩; rw [show shB 5 = true from rfl])
        | (go_at_call 69; refine (HOW.out _ (by decide) (by decide)).mono ?_; rintro e w1 ⟨rfl, hb1⟩; rw [HO.out]; have HB1 := Lib.hid hb1; clear hb1))
      go_ret
      exact ⟨by rw [HV.out]; rfl, HB1.out⟩
    | true =>
      have HO := Lib.hid ho
      cases hm : f 12 with
      | false =>
        have HV : Hid (bat f 1 5 = 0) := Lib.hid (by simp [bat, HO.out, hm])
        have HD : Hid (∀ wx, Below w.heap.size w wx → wx.cell? ⟨b, 12, none⟩ = some (.bool false)) := Lib.hid (fun wx hb => by rw [(HS.out.keep hb).at 12 (by omega), hm])
        clear ho hm
        go_enter Tryd.func57, Tryd.ntmps57
        go_wp2_with (first
          | (go_at_call 55; refine (isKey_any _ _).mono ?_; rintro e w1 ⟨rfl, rfl⟩)
          | (have _k := HB1; go_at_call 68; refine (isShared_any _ (by decide) (by decide) _ (HK.out.keep HB1.out)).mono ?_; rintro e w1 ⟨rfl, rfl⟩; rw [show shB 5 = true from rfl])
          | (go_at_call 68; refine (isShared_any _ (by decide) (by decide) _ (HK.out.keep HB.out)).mono ?_; rintro e w1 ⟨rfl, rfl⟩; rw [show shB 5 = true from rfl])
          | (go_at_call 69; refine (HOW.out _ (by decide) (by decide)).mono ?_; rintro e w1 ⟨rfl, hb1⟩; rw [HO.out]; have HB1 := Lib.hid hb1; clear hb1; have hd := HD.out _ HB1.out; have lb : b < w1.heap.size := Nat.lt_of_lt_of_le hl HB1.out.size))
        go_ret
        exact ⟨by rw [HV.out]; rfl, HB1.out⟩
      | true =>
        have HV : Hid (bat f 1 5 = 4) := Lib.hid (by simp [bat, HO.out, hm])
        have HD : Hid (∀ wx, Below w.heap.size w wx → wx.cell? ⟨b, 12, none⟩ = some (.bool true)) := Lib.hid (fun wx hb => by rw [(HS.out.keep hb).at 12 (by omega), hm])
        clear ho hm
        go_enter Tryd.func57, Tryd.ntmps57
        go_wp2_with (first
          | (go_at_call 55; refine (isKey_any _ _).mono ?_; rintro e w1 ⟨rfl, rfl⟩)
          | (have _k := HB1; go_at_call 68; refine (isShared_any _ (by decide) (by decide) _ (HK.out.keep HB1.out)).mono ?_; rintro e w1 ⟨rfl, rfl⟩; rw [show shB 5 = true from rfl])
          | (go_at_call 68; refine (isShared_any _ (by decide) (by decide) _ (HK.out.keep HB.out)).mono ?_; rintro e w1 ⟨rfl, rfl⟩; rw [show shB 5 = true from rfl])
          | (go_at_call 69; refine (HOW.out _ (by decide) (by decide)).mono ?_; rintro e w1 ⟨rfl, hb1⟩; rw [HO.out]; have HB1 := Lib.hid hb1; clear hb1; have hd := HD.out _ HB1.out; have lb : b < w1.heap.size := Nat.lt_of_lt_of_le hl HB1.out.size))
        go_ret
        exact ⟨by rw [HV.out]; rfl, HB1.out⟩
  · have HB : Hid (Below w.heap.size w w) := Lib.hid (Below.refl _ _)
    cases ho : ow2 f 6 with
    | false =>
      have HO := Lib.hid ho
      have HV : Hid (bat f 1 6 = 3) := Lib.hid (by simp [bat, ho])
      clear ho
      go_enter Tryd.func57, Tryd.ntmps57
      go_wp2_with (first
        | (go_at_call 55; refine (isKey_any _ _).mono ?_; rintro e w1 ⟨rfl, rfl⟩)
        | (go_at_call 68; refine (isShared_any _ (by decide) (by decide) _ (HK.out.keep HB.out)).mono ?_; rintro e w1 ⟨rfl, rfl⟩; rw [show shB 6 = true from rfl])
        | (go_at_call 69; refine (HOW.out _ (by decide) (by decide)).mono ?_; rintro e w1 ⟨rfl, hb1⟩; rw [HO.out]; have HB1 := Lib.hid hb1; clear hb1))
      go_ret
      exact ⟨by rw [HV.out]; rfl, HB1.out⟩
    | true =>
      have HO := Lib.hid ho
      cases hm : f 13 with
      | false =>
        have HV : Hid (bat f 1 6 = 0) := Lib.hid (by simp [bat, HO.out, hm])
        have HD : Hid (∀ wx, Below w.heap.size w wx → wx.cell? ⟨b, 13, none⟩ = some (.bool false)) := Lib.hid (fun wx hb => by rw [(HS.out.keep hb).at 13 (by omega), hm])
        clear ho hm
        go_enter Tryd.func57, Tryd.ntmps57
        go_wp2_with (first
          | (go_at_call 55; refine (isKey_any _ _).mono ?_; rintro e w1 ⟨rfl, rfl⟩)
          | (have _k := HB1; go_at_call 68; refine (isShared_any _ (by decide) (by decide) _ (HK.out.keep HB1.out)).mono ?_; rintro e w1 ⟨rfl, rfl⟩; rw [show shB 6 = true from rfl])
          | (go_at_call 68; refine (isShared_any _ (by decide) (by decide) _ (HK.out.keep HB.out)).mono ?_; rintro e w1 ⟨rfl, rfl⟩; rw [show shB 6 = true from rfl])
          | (go_at_call 69; refine (HOW.out _ (by decide) (by decide)).mono ?_; rintro e w1 ⟨rfl, hb1⟩; rw [HO.out]; have HB1 := Lib.hid hb1; clear hb1; have hd := HD.out _ HB1.out; have lb : b < w1.heap.size := Nat.lt_of_lt_of_le hl HB1.out.size))
        go_ret
        exact ⟨by rw [HV.out]; rfl, HB1.out⟩
      | true =>
        have HV : Hid (bat f 1 6 = 4) := Lib.hid (by simp [bat, HO.out, hm])
        have HD : Hid (∀ wx, Below w.heap.size w wx → wx.cell? ⟨b, 13, none⟩ = some (.bool true)) := Lib.hid (fun wx hb => by rw [(HS.out.keep hb).at 13 (by omega), hm])
        clear ho hm
        go_enter Tryd.func57, Tryd.ntmps57
        go_wp2_with (first
          | (go_at_call 55; refine (isKey_any _ _).mono ?_; rintro e w1 ⟨rfl, rfl⟩)
          | (have _k := HB1; go_at_call 68; refine (isShared_any _ (by decide) (by decide) _ (HK.out.keep HB1.out)).mono ?_; rintro e w1 ⟨rfl, rfl⟩; rw [show shB 6 = true from rfl])
          | (go_at_call 68; refine (isShared_any _ (by decide) (by decide) _ (HK.out.keep HB.out)).mono ?_; rintro e w1 ⟨rfl, rfl⟩; rw [show shB 6 = true from rfl])
          | (go_at_call 69; refine (HOW.out _ (by decide) (by decide)).mono ?_; rintro e w1 ⟨rfl, hb1⟩; rw [HO.out]; have HB1 := Lib.hid hb1; clear hb1; have hd := HD.out _ HB1.out; have lb : b < w1.heap.size := Nat.lt_of_lt_of_le hl HB1.out.size))
        go_ret
        exact ⟨by rw [HV.out]; rfl, HB1.out⟩
  · have HB : Hid (Below w.heap.size w w) := Lib.hid (Below.refl _ _)
    have HV : Hid (bat f 1 7 = 0) := Lib.hid (by simp [bat])
    go_enter Tryd.func57, Tryd.ntmps57
    go_wp2_with (first
      | (go_at_call 55; refine (isKey_any _ _).mono ?_; rintro e w1 ⟨rfl, rfl⟩)
      | (go_at_call 68; refine (isShared_any _ (by decide) (by decide) _ (HK.out.keep HB.out)).mono ?_; rintro e w1 ⟨rfl, rfl⟩; rw [show shB 7 = false from rfl]))
    go_ret
    exact ⟨by rw [HV.out]; rfl, Below.refl _ _⟩
end Go.Proofs.YtahbbojhdkillaaDoor
