/- Layer 8: the walks of Enough. -/
import Derived.Test.YtjnijppghgemeaaDoorDb
namespace Go.Proofs.YtjnijppghgemeaaDoor
open Go.RowKit Go.Shelf

theorem en_no {a b : Kq} (h : (a.s = true ∧ b.s = false) ∨ (a.e = true ∧ b.e = false) ∨ (a.rs = true ∧ b.rs = false) ∨ (a.re = true ∧ b.re = false) ∨ ¬ b.n = a.n) : enB a b = false := by
  cases e : enB a b with
  | false => rfl
  | true =>
    simp only [enB, Bool.and_eq_true, Bool.or_eq_true, Bool.not_eq_true', decide_eq_true_eq] at e
    rcases h with h | h | h | h | h <;> simp_all
set_option maxRecDepth 100000 in
set_option maxHeartbeats 8000000 in
theorem enough_any (a b : Kq) (w : World) : Calls Tryd.prog 17 #[kqV a, kqV b] w fun e w' => e = .returned (.bool (enB a b)) ∧ Below w.heap.size w w' := by
  unfold kqV
  go_enter Tryd.func17, Tryd.ntmps17
  go_wp2_with fail
  all_goals
    go_ret
    refine ⟨?_, (((Below.refl _ _).alloc (Nat.le_refl _) _).alloc (by simp) _).alloc (by simp; omega) _⟩
    congr 2
    try rename_i hne
    first
      | (simp_all [enB]; done)
      | (have hnn : ¬ a.n = b.n := fun e => hne e.symm
         simp_all [enB])
end Go.Proofs.YtjnijppghgemeaaDoor
