/- Layer 9: the walk of Sent. -/
import Derived.Test.YtahbbojhdkillaaDoorGc
namespace Go.Proofs.YtahbbojhdkillaaDoor
open Go.RowKit Go.Shelf

/-- No track. -/
def zTr : Tr := ⟨fun _ => false, 0, 0⟩
set_option maxRecDepth 100000 in
set_option maxHeartbeats 1000000 in
theorem sent_any (t : Tr) (r : Int) (w : World) (hp : Pf w) : Calls Tryd.prog 22 #[trV t, .int .i64 r] w fun e w' => e = .returned (trV (t.sent r)) ∧ Below w.heap.size w w' := by
  have HR := Lib.hid (fun wx => isRole9_any r wx)
  have HP := Lib.hid hp; clear hp
  unfold Tr.sent
  by_cases hr : r = 0 ∨ r = 1
  · have hb : (decide (r = 0) || decide (r = 1)) = true := by simpa using hr
    rw [hb] at HR
    have HA := Lib.hid (fun wx (h : Pf wx) => auth_any t r hr wx h)
    clear hb
    rcases hr with rfl | rfl
    · rw [if_pos rfl]
      have HT := Lib.hid (to_new w t (trA zTr) 54)
      obtain ⟨c0, c1, c2, c3, c4, c5, c6, c7, c8, c9⟩ := TrC.of HT.out.tb
      have lt := lt_of_heap HT.out.res
      generalize auV t.f 0 = va at HA ⊢
      unfold trV trA at *
      go_enter Tryd.func22, Tryd.ntmps22
      go_wp2_with (go_at_call 34; refine (HR.out _).mono ?_; rintro e w1 ⟨rfl, rfl⟩)
      go_at_call 35
      refine (HA.out _ (HP.out.keep HT.out.bel)).mono ?_
      rintro e w2 ⟨rfl, hb2⟩
      have HT2 := Lib.hid (HT.out.keep hb2)
      clear hb2 c0 c1 c2 c3 c4 c5 c6 c7 c8 c9 lt
      obtain ⟨d0, d1, d2, d3, d4, d5, d6, d7, d8, d9⟩ := TrC.of HT2.out.tb
      obtain ⟨q0, q1, q2, q3, q4, q5, q6, q7, q8, q9⟩ := TrC.of (t := zTr) HT2.out.res
      have l1 := lt_of_heap HT2.out.tb
      have l2 := lt_of_heap HT2.out.res
      have z0 : w2.frozen? ⟨w.heap.size, 8, none⟩ = false := frozen_of_row _ _ _ _ _ HT2.out.tb
      have z1 : ∀ j, w2.frozen? ⟨w.heap.size + 1, j, none⟩ = false := fun j => frozen_of_row _ _ _ _ _ HT2.out.res
      go_wp2_with fail
      refine bodyPost_ret (v := .agg #[.bool (t.f 0), .bool (t.f 1), .bool (t.f 2), .bool (t.f 3), .bool (t.f 4), .bool (t.f 5), .bool (t.f 6), .bool (t.f 7), .int .i64 va, .int .i64 t.b]) (by simp [results, Tryd.results22, go_sem, q0, q1, q2, q3, q4, q5, q6, q7, q8, q9]) rfl ?_
      refine ⟨rfl, (((((((((((HT2.out.bel.setCell (Nat.le_refl _) _).setCell (Nat.le_succ _) _).setCell (Nat.le_succ _) _).setCell (Nat.le_succ _) _).setCell (Nat.le_succ _) _).setCell (Nat.le_succ _) _).setCell (Nat.le_succ _) _).setCell (Nat.le_succ _) _).setCell (Nat.le_succ _) _).setCell (Nat.le_succ _) _).setCell (Nat.le_succ _) _)⟩
    · rw [if_neg (by decide), if_pos rfl]
      have HT := Lib.hid (to_new w t (trA zTr) 54)
      obtain ⟨c0, c1, c2, c3, c4, c5, c6, c7, c8, c9⟩ := TrC.of HT.out.tb
      have lt := lt_of_heap HT.out.res
      generalize auV t.f 1 = va at HA ⊢
      unfold trV trA at *
      go_enter Tryd.func22, Tryd.ntmps22
      go_wp2_with (go_at_call 34; refine (HR.out _).mono ?_; rintro e w1 ⟨rfl, rfl⟩)
      go_at_call 35
      refine (HA.out _ (HP.out.keep HT.out.bel)).mono ?_
      rintro e w2 ⟨rfl, hb2⟩
      have HT2 := Lib.hid (HT.out.keep hb2)
      clear hb2 c0 c1 c2 c3 c4 c5 c6 c7 c8 c9 lt
      obtain ⟨d0, d1, d2, d3, d4, d5, d6, d7, d8, d9⟩ := TrC.of HT2.out.tb
      obtain ⟨q0, q1, q2, q3, q4, q5, q6, q7, q8, q9⟩ := TrC.of (t := zTr) HT2.out.res
      have l1 := lt_of_heap HT2.out.tb
      have l2 := lt_of_heap HT2.out.res
      have z0 : w2.frozen? ⟨w.heap.size, 9, none⟩ = false := frozen_of_row _ _ _ _ _ HT2.out.tb
      have z1 : ∀ j, w2.frozen? ⟨w.heap.size + 1, j, none⟩ = false := fun j => frozen_of_row _ _ _ _ _ HT2.out.res
      go_wp2_with fail
      refine bodyPost_ret (v := .agg #[.bool (t.f 0), .bool (t.f 1), .bool (t.f 2), .bool (t.f 3), .bool (t.f 4), .bool (t.f 5), .bool (t.f 6), .bool (t.f 7), .int .i64 t.a, .int .i64 va]) (by simp [results, Tryd.results22, go_sem, q0, q1, q2, q3, q4, q5, q6, q7, q8, q9]) rfl ?_
      refine ⟨rfl, (((((((((((HT2.out.bel.setCell (Nat.le_refl _) _).setCell (Nat.le_succ _) _).setCell (Nat.le_succ _) _).setCell (Nat.le_succ _) _).setCell (Nat.le_succ _) _).setCell (Nat.le_succ _) _).setCell (Nat.le_succ _) _).setCell (Nat.le_succ _) _).setCell (Nat.le_succ _) _).setCell (Nat.le_succ _) _).setCell (Nat.le_succ _) _)⟩
  · have hb : (decide (r = 0) || decide (r = 1)) = false := by simpa using hr
    rw [hb] at HR
    rw [if_neg (fun e => hr (Or.inl e)), if_neg (fun e => hr (Or.inr e))]
    clear hb hr
    unfold trV trA
    go_enter Tryd.func22, Tryd.ntmps22
    go_wp2_with (go_at_call 34; refine (HR.out _).mono ?_; rintro e w1 ⟨rfl, rfl⟩)
    refine bodyPost_ret (v := .agg #[.bool (t.f 0), .bool (t.f 1), .bool (t.f 2), .bool (t.f 3), .bool (t.f 4), .bool (t.f 5), .bool (t.f 6), .bool (t.f 7), .int .i64 t.a, .int .i64 t.b]) (by simp [results, Tryd.results22, go_sem]) rfl ?_
    exact ⟨rfl, ((Below.refl _ _).alloc (Nat.le_refl _) _).alloc (by simp) _⟩
end Go.Proofs.YtahbbojhdkillaaDoor
