/- Layer 10: stores into a box, for regions. -/
import Derived.Test.YtonpjogaamgceaaDoorJi
namespace Go.Proofs.YtonpjogaamgceaaDoor
open Go.RowKit

theorem set3_at {w : World} {p : Nat} {a0 a1 a2 : Value} {T : TypeId} (h : w.heap[p]? = some (.cells #[a0, a1, a2] T (0, 0))) (u v x : Value) : (((w.setCell ⟨p, 0, none⟩ u).setCell ⟨p, 1, none⟩ v).setCell ⟨p, 2, none⟩ x).heap[p]? = some (.cells #[u, v, x] T (0, 0)) := by
  have hl := lt_of_heap h
  simp only [World.setCell, Array.getElem?_modify, h]
  rfl
theorem set3_far {w : World} {p k : Nat} {o : Obj} (hne : k ≠ p) (h : w.heap[k]? = some o) (u v x : Value) : (((w.setCell ⟨p, 0, none⟩ u).setCell ⟨p, 1, none⟩ v).setCell ⟨p, 2, none⟩ x).heap[k]? = some o := (set3_block w p k u v x hne).trans h
theorem set2_far {w : World} {p k : Nat} {o : Obj} (hne : k ≠ p) (h : w.heap[k]? = some o) (u v : Value) : ((w.setCell ⟨p, 0, none⟩ u).setCell ⟨p, 1, none⟩ v).heap[k]? = some o := (set2_block w p k u v hne).trans h
theorem set2_at {w : World} {p : Nat} {a0 a1 : Value} {T : TypeId} (h : w.heap[p]? = some (.cells #[a0, a1] T (0, 0))) (u v : Value) : ((w.setCell ⟨p, 0, none⟩ u).setCell ⟨p, 1, none⟩ v).heap[p]? = some (.cells #[u, v] T (0, 0)) := set2_box h
end Go.Proofs.YtonpjogaamgceaaDoor
