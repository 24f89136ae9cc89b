/- Layer 8: the walks of Sends. -/
import Derived.Test.YtjnijppghgemeaaDoorDb
namespace Go.Proofs.YtjnijppghgemeaaDoor
open Go.RowKit Go.Shelf

set_option maxRecDepth 100000 in
set_option maxHeartbeats 4000000 in
theorem sends_any (x : Sl) (p : Pt) (r msg : Int) (w : World) (hp : PatA w x p) : Calls Tryd.prog 19 #[patV x p, .int .i64 r, .int .i64 msg] w fun e w' => e = .returned (.bool (snB p r msg)) ∧ Below w.heap.size w w' := by
  have HIM := Lib.hid hp.im
  have HW : Hid (Below w.heap.size w (w.alloc (.cells #[.string ⟨p.nm.toArray⟩, .slice x.s0 p.p0.length x.c0, .slice x.s1 p.p1.length x.c1, .slice x.s2 p.ms.length x.c2] 26))) := Lib.hid ((Below.refl _ _).alloc (Nat.le_refl _) _)
  clear hp
  unfold patV
  by_cases h0 : msg < 0
  · have HV : Hid (snB p r msg = false) := Lib.hid (by unfold snB; rw [decide_eq_false (by omega)]; rfl)
    go_enter Tryd.func19, Tryd.ntmps19
    go_wp2_with fail
    all_goals go_ret
    all_goals exact ⟨by rw [HV.out]; rfl, HW.out⟩
  · obtain ⟨i, rfl⟩ : ∃ i : Nat, msg = i := ⟨msg.toNat, by omega⟩
    clear h0
    by_cases h1 : (i : Int) < p.ms.length
    · obtain ⟨s0, c0, s1, c1, s2, c2⟩ := x
      simp only at HIM HW ⊢
      obtain ⟨g, o, rfl, hia⟩ := (HIM.out.keep HW.out) (by omega)
      obtain ⟨q0, sx, cx, q1, qi⟩ := hia i (by omega)
      clear hia qi
      obtain ⟨fr, hf⟩ : ∃ fr, fr = (p.ms.getD i default).fr := ⟨_, rfl⟩
      rw [← hf] at q0
      have HV : Hid (snB p r i = decide (fr = r)) := Lib.hid (by unfold snB; rw [hf, decide_eq_true (by omega), decide_eq_true h1]; simp)
      clear hf
      by_cases h2 : fr = r
      · have h2b : (fr == r) = true := by simpa using h2
        have HD : Hid (decide (fr = r) = true) := Lib.hid (by simpa using h2)
        clear h2
        go_enter Tryd.func19, Tryd.ntmps19
        go_wp2_with fail
        all_goals go_ret
        all_goals exact ⟨by rw [HV.out, HD.out]; rfl, HW.out⟩
      · have h2b : (fr == r) = false := by simpa using h2
        have HD : Hid (decide (fr = r) = false) := Lib.hid (by simpa using h2)
        clear h2
        go_enter Tryd.func19, Tryd.ntmps19
        go_wp2_with fail
        all_goals go_ret
        all_goals exact ⟨by rw [HV.out, HD.out]; rfl, HW.out⟩
    · have HV : Hid (snB p r i = false) := Lib.hid (by unfold snB; rw [decide_eq_false h1]; simp)
      go_enter Tryd.func19, Tryd.ntmps19
      go_wp2_with fail
      all_goals go_ret
      all_goals exact ⟨by rw [HV.out]; rfl, HW.out⟩
end Go.Proofs.YtjnijppghgemeaaDoor
