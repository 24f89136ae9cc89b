/- Layer 6: the walk of Fallback, where it falls back. -/
import Derived.Test.YtjnijppghgemeaaDoorBh
namespace Go.Proofs.YtjnijppghgemeaaDoor
open Go.RowKit Go.Shelf

/-- The rows of what falls back. -/
theorem drop_msgs {w : World} {g o : Nat} {ms : List Ms} (h : ∀ i, i < ms.length → msgAt w g (o + i * 2) (ms.getD i default)) : MsgsV w (some ⟨g, o + 2, none⟩) (ms.drop 1) := fun _ => ⟨g, o + 2, rfl, fun i hi => by
  have := h (i + 1) (by simp at hi; omega)
  have e : (ms.drop 1).getD i default = ms.getD (i + 1) default := by
    simp only [List.getD_eq_getElem?_getD, List.getElem?_drop]; rw [Nat.add_comm]
  rw [e, show o + 2 + i * 2 = o + (i + 1) * 2 by omega]; exact this⟩

end Go.Proofs.YtjnijppghgemeaaDoor
