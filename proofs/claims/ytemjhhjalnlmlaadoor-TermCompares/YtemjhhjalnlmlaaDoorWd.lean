/- Walks: the reference's small functions: whether a ref is held, a node's part, how many parts a kind has. -/
import Derived.Test.YtemjhhjalnlmlaaDoorWc
namespace Go.Proofs.YtemjhhjalnlmlaaDoor
open Go.RowKit

set_option maxHeartbeats 400000 in
theorem refHas_any (lim : Int) (s : Option Addr) (n cap : Nat) (r : Int) (w : World) :
    Calls Tryd.prog 21 #[.agg #[.int .i64 lim, .slice s n cap], .int .i64 r] w fun e w' => e = .returned (.bool (hasB n r)) ∧ w.alloc (.cells #[.int .i64 lim, .slice s n cap] 27) = w' := by
  unfold hasB
  by_cases h0 : 0 ≤ r
  · by_cases h1 : r < n
    · have e : (decide (0 ≤ r) && decide (r < n)) = true := by simp [h0, h1]
      rw [e]
      go_enter Tryd.func21, Tryd.ntmps21
      go_wp2
      go_ret
      exact ⟨rfl, rfl⟩
    · have e : (decide (0 ≤ r) && decide (r < n)) = false := by simp [h1]
      rw [e]
      go_enter Tryd.func21, Tryd.ntmps21
      go_wp2
      go_ret
      exact ⟨rfl, rfl⟩
  · have e : (decide (0 ≤ r) && decide (r < n)) = false := by simp [h0]
    rw [e]
    go_enter Tryd.func21, Tryd.ntmps21
    go_wp2
    go_ret
    exact ⟨rfl, rfl⟩

def partZ (k : Int) (a b c : Int) : Int := if k = 0 then a else if k = 1 then b else c

set_option maxHeartbeats 400000 in
theorem part_any (k n a b c i : Int) (w : World) :
    Calls Tryd.prog 35 #[.agg #[.int .i64 k, .int .u64 n, .int .i64 a, .int .i64 b, .int .i64 c], .int .i64 i] w fun e w' => e = .returned (.int .i64 (partZ i a b c)) ∧ w.alloc (.cells #[.int .i64 k, .int .u64 n, .int .i64 a, .int .i64 b, .int .i64 c] 36) = w' := by
  unfold partZ
  by_cases h0 : i = 0
  · subst h0
    go_enter Tryd.func35, Tryd.ntmps35
    go_wp2
    go_ret
    exact ⟨rfl, rfl⟩
  · rw [if_neg h0]
    have g0 : (i == 0) = false := by simpa using h0
    by_cases h1 : i = 1
    · subst h1
      go_enter Tryd.func35, Tryd.ntmps35
      go_wp2
      go_ret
      exact ⟨rfl, rfl⟩
    · rw [if_neg h1]
      have g1 : (i == 1) = false := by simpa using h1
      clear h0 h1
      go_enter Tryd.func35, Tryd.ntmps35
      go_wp2
      go_ret
      exact ⟨rfl, rfl⟩

theorem kind_cases (k : Int) : (k = 0 ∨ k = 1 ∨ k = 2 ∨ k = 3 ∨ k = 4 ∨ k = 5 ∨ k = 6 ∨ k = 7 ∨ k = 8 ∨ k = 9) ∨ (k < 0 ∨ 9 < k) := by omega
theorem many_out {k : Int} (h : k < 0 ∨ 9 < k) : many k = -1 := by
  unfold many
  rw [if_neg (by omega), if_neg (by omega), if_neg (by omega), if_neg (by omega)]

set_option maxHeartbeats 1000000 in
theorem many_any (k : Int) (w : World) : Calls Tryd.prog 44 #[.int .i64 k] w fun e w' => e = .returned (.int .i64 (many k)) ∧ w = w' := by
  rcases kind_cases k with h | h
  · rcases h with rfl | rfl | rfl | rfl | rfl | rfl | rfl | rfl | rfl | rfl <;>
      (go_enter Tryd.func44, Tryd.ntmps44
       go_wp2
       go_ret
       exact ⟨rfl, rfl⟩)
  · rw [many_out h]
    have g0 : (k == 0) = false := by simp; omega
    have g1 : (k == 1) = false := by simp; omega
    have g2 : (k == 2) = false := by simp; omega
    have g3 : (k == 3) = false := by simp; omega
    have g4 : (k == 4) = false := by simp; omega
    have g5 : (k == 5) = false := by simp; omega
    have g6 : (k == 6) = false := by simp; omega
    have g7 : (k == 7) = false := by simp; omega
    have g8 : (k == 8) = false := by simp; omega
    have g9 : (k == 9) = false := by simp; omega
    clear h
    go_enter Tryd.func44, Tryd.ntmps44
    go_wp2
    go_ret
    exact ⟨rfl, rfl⟩
end Go.Proofs.YtemjhhjalnlmlaaDoor
