/- Layer 7: walks of keyed, sharedBy, owners. -/
import Derived.Test.YtahbbojhdkillaaDoorCb
namespace Go.Proofs.YtahbbojhdkillaaDoor
open Go.RowKit Go.Shelf

set_option maxRecDepth 100000 in
set_option maxHeartbeats 4000000 in
theorem keyed_any (b : Nat) (f : Cs) (w : World) (hk : Ky w) (hs : StV w b f) : Calls Tryd.prog 59 #[.pointer (some ⟨b, 0, none⟩)] w fun e w' => e = .returned (.bool (kyd f)) ∧ w = w' := by
  have hl := lt_of_heap hs
  have HS := Lib.hid hs; clear hs
  have HK := Lib.hid hk; clear hk
  go_enter Tryd.func59, Tryd.ntmps59
  go_wp2_with fail
  go_loopg [3, 4] 8 (fun q _ u4 wr => ∃ k : Nat, k + q = 8 ∧ u4 = .int .i64 k ∧ wr = w ∧ Aside (∀ j, 3 ≤ j → j < k → f (7 + j) = false))
  case atStart => exact ⟨0, by omega, rfl, rfl, fun j _ h => by omega⟩
  case round =>
    obtain ⟨k, hkq, rfl, rfl, hn⟩ := hrel
    have HN := Lib.hid hn.out; clear hn
    have hk8 : k = 0 ∨ k = 1 ∨ k = 2 ∨ k = 3 ∨ k = 4 ∨ k = 5 ∨ k = 6 ∨ k = 7 ∨ k = 8 := by omega
    have HQ := Lib.hid hkq
    clear hkq
    rcases hk8 with rfl | rfl | rfl | rfl | rfl | rfl | rfl | rfl | rfl
    · have a := HS.out.at 7 (by omega)
      cases hm : f 7 with
      | false =>
        have HM := Lib.hid hm
        rw [hm] at a
        clear hm
        go_wp2_with fail
        go_roundg 7
        case measure => have := HQ.out; omega
        case rel => exact ⟨1, by omega, by go_num, rfl, (show Aside _ from fun j h3 hj => by
          omega)⟩
      | true =>
        rw [hm] at a
        clear hm
        go_wp2_with (go_at_call 68; refine (isShared_any _ (by decide) (by decide) _ HK.out).mono ?_; rintro e w1 ⟨rfl, rfl⟩; rw [show shB 0 = false from rfl])
        go_roundg 7
        case measure => have := HQ.out; omega
        case rel => exact ⟨1, by omega, by go_num, rfl, (show Aside _ from fun j h3 hj => by omega)⟩
    · have a := HS.out.at 8 (by omega)
      cases hm : f 8 with
      | false =>
        have HM := Lib.hid hm
        rw [hm] at a
        clear hm
        go_wp2_with fail
        go_roundg 6
        case measure => have := HQ.out; omega
        case rel => exact ⟨2, by omega, by go_num, rfl, (show Aside _ from fun j h3 hj => by
          omega)⟩
      | true =>
        rw [hm] at a
        clear hm
        go_wp2_with (go_at_call 68; refine (isShared_any _ (by decide) (by decide) _ HK.out).mono ?_; rintro e w1 ⟨rfl, rfl⟩; rw [show shB 1 = false from rfl])
        go_roundg 6
        case measure => have := HQ.out; omega
        case rel => exact ⟨2, by omega, by go_num, rfl, (show Aside _ from fun j h3 hj => by omega)⟩
    · have a := HS.out.at 9 (by omega)
      cases hm : f 9 with
      | false =>
        have HM := Lib.hid hm
        rw [hm] at a
        clear hm
        go_wp2_with fail
        go_roundg 5
        case measure => have := HQ.out; omega
        case rel => exact ⟨3, by omega, by go_num, rfl, (show Aside _ from fun j h3 hj => by
          omega)⟩
      | true =>
        rw [hm] at a
        clear hm
        go_wp2_with (go_at_call 68; refine (isShared_any _ (by decide) (by decide) _ HK.out).mono ?_; rintro e w1 ⟨rfl, rfl⟩; rw [show shB 2 = false from rfl])
        go_roundg 5
        case measure => have := HQ.out; omega
        case rel => exact ⟨3, by omega, by go_num, rfl, (show Aside _ from fun j h3 hj => by omega)⟩
    · have a := HS.out.at 10 (by omega)
      cases hm : f 10 with
      | false =>
        have HM := Lib.hid hm
        rw [hm] at a
        clear hm
        go_wp2_with fail
        go_roundg 4
        case measure => have := HQ.out; omega
        case rel => exact ⟨4, by omega, by go_num, rfl, (show Aside _ from fun j h3 hj => by
          by_cases e : j = 3; (subst e; exact HM.out); exact HN.out j h3 (by omega))⟩
      | true =>
        have HT : Hid (kyd f = true) := Lib.hid (by simp [kyd, hm])
        rw [hm] at a
        clear hm
        go_wp2_with (go_at_call 68; refine (isShared_any _ (by decide) (by decide) _ HK.out).mono ?_; rintro e w1 ⟨rfl, rfl⟩; rw [show shB 3 = true from rfl])
        go_ret
        exact ⟨by rw [HT.out]; rfl, rfl⟩
    · have a := HS.out.at 11 (by omega)
      cases hm : f 11 with
      | false =>
        have HM := Lib.hid hm
        rw [hm] at a
        clear hm
        go_wp2_with fail
        go_roundg 3
        case measure => have := HQ.out; omega
        case rel => exact ⟨5, by omega, by go_num, rfl, (show Aside _ from fun j h3 hj => by
          by_cases e : j = 4; (subst e; exact HM.out); exact HN.out j h3 (by omega))⟩
      | true =>
        have HT : Hid (kyd f = true) := Lib.hid (by simp [kyd, hm])
        rw [hm] at a
        clear hm
        go_wp2_with (go_at_call 68; refine (isShared_any _ (by decide) (by decide) _ HK.out).mono ?_; rintro e w1 ⟨rfl, rfl⟩; rw [show shB 4 = true from rfl])
        go_ret
        exact ⟨by rw [HT.out]; rfl, rfl⟩
    · have a := HS.out.at 12 (by omega)
      cases hm : f 12 with
      | false =>
        have HM := Lib.hid hm
        rw [hm] at a
        clear hm
        go_wp2_with fail
        go_roundg 2
        case measure => have := HQ.out; omega
        case rel => exact ⟨6, by omega, by go_num, rfl, (show Aside _ from fun j h3 hj => by
          by_cases e : j = 5; (subst e; exact HM.out); exact HN.out j h3 (by omega))⟩
      | true =>
        have HT : Hid (kyd f = true) := Lib.hid (by simp [kyd, hm])
        rw [hm] at a
        clear hm
        go_wp2_with (go_at_call 68; refine (isShared_any _ (by decide) (by decide) _ HK.out).mono ?_; rintro e w1 ⟨rfl, rfl⟩; rw [show shB 5 = true from rfl])
        go_ret
        exact ⟨by rw [HT.out]; rfl, rfl⟩
    · have a := HS.out.at 13 (by omega)
      cases hm : f 13 with
      | false =>
        have HM := Lib.hid hm
        rw [hm] at a
        clear hm
        go_wp2_with fail
        go_roundg 1
        case measure => have := HQ.out; omega
        case rel => exact ⟨7, by omega, by go_num, rfl, (show Aside _ from fun j h3 hj => by
          by_cases e : j = 6; (subst e; exact HM.out); exact HN.out j h3 (by omega))⟩
      | true =>
        have HT : Hid (kyd f = true) := Lib.hid (by simp [kyd, hm])
        rw [hm] at a
        clear hm
        go_wp2_with (go_at_call 68; refine (isShared_any _ (by decide) (by decide) _ HK.out).mono ?_; rintro e w1 ⟨rfl, rfl⟩; rw [show shB 6 = true from rfl])
        go_ret
        exact ⟨by rw [HT.out]; rfl, rfl⟩
    · have a := HS.out.at 14 (by omega)
      cases hm : f 14 with
      | false =>
        have HM := Lib.hid hm
        rw [hm] at a
        clear hm
        go_wp2_with fail
        go_roundg 0
        case measure => have := HQ.out; omega
        case rel => exact ⟨8, by omega, by go_num, rfl, (show Aside _ from fun j h3 hj => by
          by_cases e : j = 7; (subst e; exact HM.out); exact HN.out j h3 (by omega))⟩
      | true =>
        have HT : Hid (kyd f = true) := Lib.hid (by simp [kyd, hm])
        rw [hm] at a
        clear hm
        go_wp2_with (go_at_call 68; refine (isShared_any _ (by decide) (by decide) _ HK.out).mono ?_; rintro e w1 ⟨rfl, rfl⟩; rw [show shB 7 = false from rfl])
        go_ret
        exact ⟨by rw [HT.out]; rfl, rfl⟩
    · have a := HS.out.at 0 (by omega)
      have a8 := HS.out.at 8 (by omega)
      have HT : Hid (kyd f = (f 0 && f 8)) := Lib.hid (by
        have h3 := HN.out 3 (by omega) (by omega)
        have h4 := HN.out 4 (by omega) (by omega)
        have h5 := HN.out 5 (by omega) (by omega)
        have h6 := HN.out 6 (by omega) (by omega)
        have h7 := HN.out 7 (by omega) (by omega)
        simp only [Nat.reduceAdd] at h3 h4 h5 h6 h7
        simp [kyd, h3, h4, h5, h6, h7])
      generalize f 0 = u at *
      generalize f 8 = v at *
      cases u
      all_goals cases v
      all_goals
        go_wp2_with fail
        go_ret
        exact ⟨by rw [HT.out]; rfl, rfl⟩

def kyV : Value := .agg #[.int .i64 0, .int .i64 0, .int .i64 0, .int .i64 0, .int .i64 0, .int .i64 0, .int .i64 1, .int .i64 1, .int .i64 1, .int .i64 2, .int .i64 2, .int .i64 1, .int .i64 2, .int .i64 2, .int .i64 0, .int .i64 0]
theorem ky_idx : ∀ (k : Nat), k < 8 → ∀ w, (Instr.index 125 kyV (.int .i64 k)).run Tryd.prog w = .ok (.agg #[.int .i64 (kyL.getD (2 * k) 0), .int .i64 (kyL.getD (2 * k + 1) 0)]) w
  | 0, _, _ => by kernel_rfl
  | 1, _, _ => by kernel_rfl
  | 2, _, _ => by kernel_rfl
  | 3, _, _ => by kernel_rfl
  | 4, _, _ => by kernel_rfl
  | 5, _, _ => by kernel_rfl
  | 6, _, _ => by kernel_rfl
  | 7, _, _ => by kernel_rfl
  | k + 8, h, _ => absurd h (by omega)
theorem ky_load {w : World} (hE : Ky w) : (loadVar 125 ⟨4, 0, none⟩).run Tryd.prog w = .ok kyV w := by
  have hl := run_loadCells (P := Tryd.prog) w ⟨4, 0, none⟩ 16 (fun j => .int .i64 (kyL.getD j 0)) (fun j hj => by
    have hadd : (⟨4, 0, none⟩ : Addr).add j = ⟨4, j, none⟩ := by unfold Addr.add; split <;> simp_all
    rw [hadd]; exact hE j hj)
  have hagg := Tryd.isAgg125 w
  have hsz := Tryd.sizeOf125 w
  unfold loadVar
  simp only [Sem.run_bind, hagg, Result.andThen_ok, if_true, hsz, hl]
  rfl
theorem wpList_load_ky {ops : Array Oper} {rest : List Oper} {o : Oper} {a : Act} {w : World} {Q : Exit → Act → World → Prop} (hgd : o.guard = none) (x : Operand) (ho : o.op = .load 125 x)
    (hx : a.eval x = .pointer (some ⟨4, 0, none⟩)) (hE : Ky w)
    (h : wpList Tryd.prog ops Q rest (a.put o.dst kyV) w) : wpList Tryd.prog ops Q (o :: rest) a w :=
  wpList_plain hgd fun K hK => by
    unfold Oper.wp execOp
    simp only [ho, hx, Instr.loadAt, Instr.sureAddr, Sem.run_bind, Sem.run_pure, Result.andThen_ok, ky_load hE]
    exact hK _ _ h

set_option maxRecDepth 100000 in
set_option maxHeartbeats 4000000 in
theorem sharedBy_02 (w : World) (hk : Ky w) : Calls Tryd.prog 70 #[.int .i64 0, .int .i64 2, .int .i64 1] w fun e w' => e = .returned (.int .i64 5) ∧ Below w.heap.size w w' := by
  have HK := Lib.hid hk; clear hk
  have q := eq2
  have i0 : ∀ w, (Instr.index 125 kyV (.int .i64 0)).run Tryd.prog w = .ok (.agg #[.int .i64 0, .int .i64 0]) w := ky_idx 0 (by omega)
  have i1 : ∀ w, (Instr.index 125 kyV (.int .i64 1)).run Tryd.prog w = .ok (.agg #[.int .i64 0, .int .i64 0]) w := ky_idx 1 (by omega)
  have i2 : ∀ w, (Instr.index 125 kyV (.int .i64 2)).run Tryd.prog w = .ok (.agg #[.int .i64 0, .int .i64 0]) w := ky_idx 2 (by omega)
  have i3 : ∀ w, (Instr.index 125 kyV (.int .i64 3)).run Tryd.prog w = .ok (.agg #[.int .i64 1, .int .i64 1]) w := ky_idx 3 (by omega)
  have i4 : ∀ w, (Instr.index 125 kyV (.int .i64 4)).run Tryd.prog w = .ok (.agg #[.int .i64 1, .int .i64 2]) w := ky_idx 4 (by omega)
  have i5 : ∀ w, (Instr.index 125 kyV (.int .i64 5)).run Tryd.prog w = .ok (.agg #[.int .i64 2, .int .i64 1]) w := ky_idx 5 (by omega)
  go_enter Tryd.func70, Tryd.ntmps70
  go_wp2_with (refine wpList_load_ky rfl _ rfl rfl (HK.out.keep ((Below.refl _ _).alloc (Nat.le_refl _) _)) ?_)
  refine wp_loop_rounds 9 ?_
  rw [rounds_succ]
  go_wp2_with fail
  rw [rounds_succ]
  go_wp2_with fail
  rw [rounds_succ]
  go_wp2_with fail
  rw [rounds_succ]
  go_wp2_with fail
  rw [rounds_succ]
  go_wp2_with fail
  rw [rounds_succ]
  go_wp2_with fail
  go_ret
  refine ⟨rfl, ?_⟩
  repeat (first | exact (Below.refl _ _).alloc (Nat.le_refl _) _ | refine Below.alloc ?_ (by simp; try omega) _)

set_option maxRecDepth 100000 in
set_option maxHeartbeats 4000000 in
theorem sharedBy_01 (w : World) (hk : Ky w) : Calls Tryd.prog 70 #[.int .i64 0, .int .i64 1, .int .i64 2] w fun e w' => e = .returned (.int .i64 4) ∧ Below w.heap.size w w' := by
  have HK := Lib.hid hk; clear hk
  have q := eq2
  have i0 : ∀ w, (Instr.index 125 kyV (.int .i64 0)).run Tryd.prog w = .ok (.agg #[.int .i64 0, .int .i64 0]) w := ky_idx 0 (by omega)
  have i1 : ∀ w, (Instr.index 125 kyV (.int .i64 1)).run Tryd.prog w = .ok (.agg #[.int .i64 0, .int .i64 0]) w := ky_idx 1 (by omega)
  have i2 : ∀ w, (Instr.index 125 kyV (.int .i64 2)).run Tryd.prog w = .ok (.agg #[.int .i64 0, .int .i64 0]) w := ky_idx 2 (by omega)
  have i3 : ∀ w, (Instr.index 125 kyV (.int .i64 3)).run Tryd.prog w = .ok (.agg #[.int .i64 1, .int .i64 1]) w := ky_idx 3 (by omega)
  have i4 : ∀ w, (Instr.index 125 kyV (.int .i64 4)).run Tryd.prog w = .ok (.agg #[.int .i64 1, .int .i64 2]) w := ky_idx 4 (by omega)
  go_enter Tryd.func70, Tryd.ntmps70
  go_wp2_with (refine wpList_load_ky rfl _ rfl rfl (HK.out.keep ((Below.refl _ _).alloc (Nat.le_refl _) _)) ?_)
  refine wp_loop_rounds 9 ?_
  rw [rounds_succ]
  go_wp2_with fail
  rw [rounds_succ]
  go_wp2_with fail
  rw [rounds_succ]
  go_wp2_with fail
  rw [rounds_succ]
  go_wp2_with fail
  rw [rounds_succ]
  go_wp2_with fail
  go_ret
  refine ⟨rfl, ?_⟩
  repeat (first | exact (Below.refl _ _).alloc (Nat.le_refl _) _ | refine Below.alloc ?_ (by simp; try omega) _)

set_option maxRecDepth 100000 in
set_option maxHeartbeats 4000000 in
theorem sharedBy_12 (w : World) (hk : Ky w) : Calls Tryd.prog 70 #[.int .i64 1, .int .i64 2, .int .i64 1] w fun e w' => e = .returned (.int .i64 4) ∧ Below w.heap.size w w' := by
  have HK := Lib.hid hk; clear hk
  have q := eq2
  have i0 : ∀ w, (Instr.index 125 kyV (.int .i64 0)).run Tryd.prog w = .ok (.agg #[.int .i64 0, .int .i64 0]) w := ky_idx 0 (by omega)
  have i1 : ∀ w, (Instr.index 125 kyV (.int .i64 1)).run Tryd.prog w = .ok (.agg #[.int .i64 0, .int .i64 0]) w := ky_idx 1 (by omega)
  have i2 : ∀ w, (Instr.index 125 kyV (.int .i64 2)).run Tryd.prog w = .ok (.agg #[.int .i64 0, .int .i64 0]) w := ky_idx 2 (by omega)
  have i3 : ∀ w, (Instr.index 125 kyV (.int .i64 3)).run Tryd.prog w = .ok (.agg #[.int .i64 1, .int .i64 1]) w := ky_idx 3 (by omega)
  have i4 : ∀ w, (Instr.index 125 kyV (.int .i64 4)).run Tryd.prog w = .ok (.agg #[.int .i64 1, .int .i64 2]) w := ky_idx 4 (by omega)
  go_enter Tryd.func70, Tryd.ntmps70
  go_wp2_with (refine wpList_load_ky rfl _ rfl rfl (HK.out.keep ((Below.refl _ _).alloc (Nat.le_refl _) _)) ?_)
  refine wp_loop_rounds 9 ?_
  rw [rounds_succ]
  go_wp2_with fail
  rw [rounds_succ]
  go_wp2_with fail
  rw [rounds_succ]
  go_wp2_with fail
  rw [rounds_succ]
  go_wp2_with fail
  rw [rounds_succ]
  go_wp2_with fail
  go_ret
  refine ⟨rfl, ?_⟩
  repeat (first | exact (Below.refl _ _).alloc (Nat.le_refl _) _ | refine Below.alloc ?_ (by simp; try omega) _)

set_option maxRecDepth 100000 in
set_option maxHeartbeats 4000000 in
theorem sharedBy_11 (w : World) (hk : Ky w) : Calls Tryd.prog 70 #[.int .i64 1, .int .i64 1, .int .i64 2] w fun e w' => e = .returned (.int .i64 5) ∧ Below w.heap.size w w' := by
  have HK := Lib.hid hk; clear hk
  have q := eq2
  have i0 : ∀ w, (Instr.index 125 kyV (.int .i64 0)).run Tryd.prog w = .ok (.agg #[.int .i64 0, .int .i64 0]) w := ky_idx 0 (by omega)
  have i1 : ∀ w, (Instr.index 125 kyV (.int .i64 1)).run Tryd.prog w = .ok (.agg #[.int .i64 0, .int .i64 0]) w := ky_idx 1 (by omega)
  have i2 : ∀ w, (Instr.index 125 kyV (.int .i64 2)).run Tryd.prog w = .ok (.agg #[.int .i64 0, .int .i64 0]) w := ky_idx 2 (by omega)
  have i3 : ∀ w, (Instr.index 125 kyV (.int .i64 3)).run Tryd.prog w = .ok (.agg #[.int .i64 1, .int .i64 1]) w := ky_idx 3 (by omega)
  have i4 : ∀ w, (Instr.index 125 kyV (.int .i64 4)).run Tryd.prog w = .ok (.agg #[.int .i64 1, .int .i64 2]) w := ky_idx 4 (by omega)
  have i5 : ∀ w, (Instr.index 125 kyV (.int .i64 5)).run Tryd.prog w = .ok (.agg #[.int .i64 2, .int .i64 1]) w := ky_idx 5 (by omega)
  go_enter Tryd.func70, Tryd.ntmps70
  go_wp2_with (refine wpList_load_ky rfl _ rfl rfl (HK.out.keep ((Below.refl _ _).alloc (Nat.le_refl _) _)) ?_)
  refine wp_loop_rounds 9 ?_
  rw [rounds_succ]
  go_wp2_with fail
  rw [rounds_succ]
  go_wp2_with fail
  rw [rounds_succ]
  go_wp2_with fail
  rw [rounds_succ]
  go_wp2_with fail
  rw [rounds_succ]
  go_wp2_with fail
  rw [rounds_succ]
  go_wp2_with fail
  go_ret
  refine ⟨rfl, ?_⟩
  repeat (first | exact (Below.refl _ _).alloc (Nat.le_refl _) _ | refine Below.alloc ?_ (by simp; try omega) _)

end Go.Proofs.YtahbbojhdkillaaDoor
