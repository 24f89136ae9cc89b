/- The walk of KnowCans: which terms can be made of what is known is the document's. -/
import Derived.Test.YtemigefkkjgehaaDoorZe
import Derived.Test.YtemigefkkjgehaaDoorZb1
namespace Go.Proofs.YtemigefkkjgehaaDoor
open Go.RowKit Go.Maps

set_option maxRecDepth 100000 in
set_option maxHeartbeats 1000000 in
theorem few_any (s sr : Option Addr) (n m c cr : Nat) (w : World) : Calls Tryd.prog 12 #[.slice s n c, .slice sr m cr] w fun e w' => e = .returned (.bool (decide (n ≤ 30) && decide (m ≤ 30))) ∧ w = w' := by
  by_cases h1 : (n : Int) ≤ 30
  · by_cases h2 : (m : Int) ≤ 30
    · go_enter Tryd.func12, Tryd.ntmps12
      go_wp2_with fail
      go_ret
      exact ⟨by rw [show decide (n ≤ 30) = true by simp; omega, show decide (m ≤ 30) = true by simp; omega]; rfl, rfl⟩
    · have h2' : (30 : Int) < m := by omega
      go_enter Tryd.func12, Tryd.ntmps12
      go_wp2_with fail
      go_ret
      exact ⟨by rw [show decide (m ≤ 30) = false by simp; omega]; simp, rfl⟩
  · have h1' : (30 : Int) < n := by omega
    go_enter Tryd.func12, Tryd.ntmps12
    go_wp2_with fail
    go_ret
    exact ⟨by rw [show decide (n ≤ 30) = false by simp; omega]; simp, rfl⟩
theorem few_no {n m : Nat} (h : 30 < n ∨ 30 < m) : (decide (n ≤ 30) && decide (m ≤ 30)) = false := by
  rcases h with h | h
  · rw [show decide (n ≤ 30) = false by simp; omega]; rfl
  · rw [show decide (m ≤ 30) = false by simp; omega, Bool.and_false]
theorem few_yes {n m : Nat} (h1 : n ≤ 30) (h2 : m ≤ 30) : (decide (n ≤ 30) && decide (m ≤ 30)) = true := by simp [h1, h2]
end Go.Proofs.YtemigefkkjgehaaDoor
