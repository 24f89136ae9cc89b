/- Layer 9: tracks in memory; walks of the small functions. -/
import Derived.Test.YtahbbojhdkillaaDoorCl
import Derived.Test.YtahbbojhdkillaaDoorGa
namespace Go.Proofs.YtahbbojhdkillaaDoor
open Go.RowKit Go.Shelf

/-- What is read of package variables. -/
structure Pf (w : World) : Prop where
  p0 : w.cell? ⟨1, 0, none⟩ = some (.int .i64 5)
  p1 : w.cell? ⟨1, 1, none⟩ = some (.int .i64 4)
theorem Pf.keep {w w' : World} (h : Pf w) (hb : Below w.heap.size w w') : Pf w' := by
  have k : ∀ (a : Addr) v, w.cell? a = some v → w'.cell? a = some v := fun a v hv => by
    rw [hb.cell (p := a) (World.block_lt_of_cell? _ _ hv)]; exact hv
  exact ⟨k _ _ h.p0, k _ _ h.p1⟩
/-- A track's value, and its cells. -/
def trA (t : Tr) : Array Value := #[.bool (t.f 0), .bool (t.f 1), .bool (t.f 2), .bool (t.f 3), .bool (t.f 4), .bool (t.f 5), .bool (t.f 6), .bool (t.f 7), .int .i64 t.a, .int .i64 t.b]
def trV (t : Tr) : Value := .agg (trA t)
def lvV (l : Int × Int) : Value := .agg #[.int .i64 l.1, .int .i64 l.2]

set_option maxRecDepth 100000 in
set_option maxHeartbeats 1000000 in
theorem isRole9_any (t : Int) (w : World) : Calls Tryd.prog 34 #[.int .i64 t] w fun e w' => e = .returned (.bool (decide (t = 0) || decide (t = 1))) ∧ w = w' := by
  go_enter Tryd.func34, Tryd.ntmps34
  go_wp2
  all_goals go_ret
  all_goals refine ⟨?_, rfl⟩
  all_goals simp_all
  all_goals (rw [Bool.eq_iff_iff]; simp_all)

set_option maxRecDepth 100000 in
set_option maxHeartbeats 1000000 in
theorem possible_any (t : Int) (w : World) : Calls Tryd.prog 47 #[.int .i64 t] w fun e w' => e = .returned (.int .i64 (psV t)) ∧ w = w' := by
  go_enter Tryd.func47, Tryd.ntmps47
  go_wp2_with fail
  all_goals go_ret
  all_goals refine ⟨?_, rfl⟩
  all_goals
    show Ending.returned (.int .i64 _) = _
    unfold psV
    congr 2 <;> omega

set_option maxRecDepth 100000 in
set_option maxHeartbeats 1000000 in
theorem reach_any (a b c d : Int) (w : World) : Calls Tryd.prog 23 #[lvV (a, b), lvV (c, d)] w fun e w' => e = .returned (.bool (decide (c ≤ a) && decide (d ≤ b))) ∧ Below w.heap.size w w' := by
  unfold lvV
  go_enter Tryd.func23, Tryd.ntmps23
  go_wp2_with fail
  all_goals go_ret
  all_goals refine ⟨?_, ((Below.refl _ _).alloc (Nat.le_refl _) _).alloc (by simp) _⟩
  all_goals simp_all
  all_goals omega
end Go.Proofs.YtahbbojhdkillaaDoor
