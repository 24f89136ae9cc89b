/- Walks: which nodes may be, as the program decides it. -/
import Derived.Test.YtemjhhjalnlmlaaDoorAr
namespace Go.Proofs.YtemjhhjalnlmlaaDoor
open Go.RowKit Go.Maps

def onlyB (m a b c : Int) : Bool := (decide (0 < m) || decide (a = 0)) && ((decide (1 < m) || decide (b = 0)) && (decide (2 < m) || decide (c = 0)))

set_option maxHeartbeats 2000000 in
theorem only_any (k n a b c m : Int) (hm : m = 0 ∨ m = 1 ∨ m = 2 ∨ m = 3) (w : World) :
    Calls Tryd.prog 42 #[.agg #[.int .i64 k, .int .u64 n, .int .i64 a, .int .i64 b, .int .i64 c], .int .i64 m] w fun e w' => e = .returned (.bool (onlyB m a b c)) ∧ w.alloc (.cells #[.int .i64 k, .int .u64 n, .int .i64 a, .int .i64 b, .int .i64 c] 33) = w' := by
  have ha : (a == 0) = true ∨ (a == 0) = false := by cases a == 0 <;> simp
  have hb : (b == 0) = true ∨ (b == 0) = false := by cases b == 0 <;> simp
  have hc : (c == 0) = true ∨ (c == 0) = false := by cases c == 0 <;> simp
  have ea : decide (a = 0) = (a == 0) := by rw [Bool.eq_iff_iff]; simp
  have eb : decide (b = 0) = (b == 0) := by rw [Bool.eq_iff_iff]; simp
  have ec : decide (c = 0) = (c == 0) := by rw [Bool.eq_iff_iff]; simp
  unfold onlyB
  rw [ea, eb, ec]
  clear ea eb ec
  rcases hm with rfl | rfl | rfl | rfl
  · rcases ha with ha | ha
    · rcases hb with hb | hb
      · rcases hc with hc | hc
        all_goals
          rw [ha, hb, hc]
          go_enter Tryd.func42, Tryd.ntmps42
          go_wp2
          go_ret
          exact ⟨rfl, rfl⟩
      · rw [ha, hb]
        clear hc
        go_enter Tryd.func42, Tryd.ntmps42
        go_wp2
        go_ret
        exact ⟨rfl, rfl⟩
    · rw [ha]
      clear hb hc
      go_enter Tryd.func42, Tryd.ntmps42
      go_wp2
      go_ret
      exact ⟨rfl, rfl⟩
  · clear ha
    rcases hb with hb | hb
    · rcases hc with hc | hc
      all_goals
        rw [hb, hc]
        go_enter Tryd.func42, Tryd.ntmps42
        go_wp2
        go_ret
        exact ⟨rfl, rfl⟩
    · rw [hb]
      clear hc
      go_enter Tryd.func42, Tryd.ntmps42
      go_wp2
      go_ret
      exact ⟨rfl, rfl⟩
  · clear ha hb
    rcases hc with hc | hc
    all_goals
      rw [hc]
      go_enter Tryd.func42, Tryd.ntmps42
      go_wp2
      go_ret
      exact ⟨rfl, rfl⟩
  · clear ha hb hc
    go_enter Tryd.func42, Tryd.ntmps42
    go_wp2
    go_ret
    exact ⟨rfl, rfl⟩
end Go.Proofs.YtemjhhjalnlmlaaDoor
