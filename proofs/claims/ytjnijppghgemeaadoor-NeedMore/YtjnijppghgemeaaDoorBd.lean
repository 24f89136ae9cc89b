/- Layer 6: the walk of canBePre. -/
import Derived.Test.YtjnijppghgemeaaDoorBc
namespace Go.Proofs.YtjnijppghgemeaaDoor
open Go.RowKit Go.Shelf

/-- A row of one or two ints that was just laid. -/
theorem ints_new1 (w : World) (a : Int) : IntsV (w.alloc (.cells #[.int .i64 a] 3)) (some ⟨w.heap.size, 0, none⟩) [a] := fun _ => ⟨_, _, rfl, fun i hi => by
  match i, hi with
  | 0, _ => rw [cell_of_row _ _ _ _ _ _ (heap_alloc_new w _)]; rfl⟩
theorem ints_new2 (w : World) (a b : Int) : IntsV (w.alloc (.cells #[.int .i64 a, .int .i64 b] 3)) (some ⟨w.heap.size, 0, none⟩) [a, b] := fun _ => ⟨_, _, rfl, fun i hi => by
  match i, hi with
  | 0, _ => rw [cell_of_row _ _ _ _ _ _ (heap_alloc_new w _)]; rfl
  | 1, _ => rw [cell_of_row _ _ _ _ _ _ (heap_alloc_new w _)]; rfl⟩
def preB (l : List Int) : Bool := decide (l = [1]) || decide (l = [2]) || decide (l = [1, 2])
end Go.Proofs.YtjnijppghgemeaaDoor
