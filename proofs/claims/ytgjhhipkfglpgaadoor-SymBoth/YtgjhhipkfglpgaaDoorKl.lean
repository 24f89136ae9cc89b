/- Layer 11: calls of a law in memory. -/
import Derived.Test.YtgjhhipkfglpgaaDoorKk
import Derived.Test.YtgjhhipkfglpgaaDoorKh
namespace Go.Proofs.YtgjhhipkfglpgaaDoor
open Go.RowKit

/-- A call of a law. -/
structure Op2 where
  k : Int
  x : Int
def zOp : Op2 := ⟨0, 0⟩
def OpsV (w : World) (s : Option Addr) (l : List Op2) : Prop := 0 < l.length → ∃ g o, s = some ⟨g, o, none⟩ ∧ g < w.heap.size ∧ ∀ i, i < l.length → w.cell? ⟨g, o + i * 2, none⟩ = some (.int .i64 (l.getD i zOp).k) ∧ w.cell? ⟨g, o + i * 2 + 1, none⟩ = some (.int .i64 (l.getD i zOp).x)
/-- Boxes of two types are two. -/
theorem box_ne {w : World} {p q : Nat} {vs us : Array Value} {T U : TypeId} (hp : w.heap[p]? = some (.cells vs T (0, 0))) (hq : w.heap[q]? = some (.cells us U (0, 0))) (h : T ≠ U) : p ≠ q := fun e => by
  subst e
  rw [hp] at hq
  simp only [Option.some.injEq, Obj.cells.injEq] at hq
  exact h hq.2.1
theorem set5_box {w : World} {p : Nat} {a0 a1 a2 a3 a4 : Value} {T : TypeId} (h : w.heap[p]? = some (.cells #[a0, a1, a2, a3, a4] T (0, 0))) (u0 u1 u2 u3 u4 : Value) :
    (((((w.setCell ⟨p, 0, none⟩ u0).setCell ⟨p, 1, none⟩ u1).setCell ⟨p, 2, none⟩ u2).setCell ⟨p, 3, none⟩ u3).setCell ⟨p, 4, none⟩ u4).heap[p]? = some (.cells #[u0, u1, u2, u3, u4] T (0, 0)) := by
  simp only [World.setCell, Array.getElem?_modify, h]; rfl
theorem set5_far {w : World} {p k : Nat} {o : Obj} (hne : k ≠ p) (h : w.heap[k]? = some o) (u0 u1 u2 u3 u4 : Value) :
    (((((w.setCell ⟨p, 0, none⟩ u0).setCell ⟨p, 1, none⟩ u1).setCell ⟨p, 2, none⟩ u2).setCell ⟨p, 3, none⟩ u3).setCell ⟨p, 4, none⟩ u4).heap[k]? = some o := by
  rw [Below.heap_setCell _ _ _ _ hne, Below.heap_setCell _ _ _ _ hne, Below.heap_setCell _ _ _ _ hne, Below.heap_setCell _ _ _ _ hne, Below.heap_setCell _ _ _ _ hne]; exact h
theorem OpsV.at_ {w w' : World} {s : Option Addr} {l : List Op2} (h : OpsV w s l) (hb : Below w.heap.size w w') (h0 : 0 < l.length) : ∃ g o, s = some ⟨g, o, none⟩ ∧ ∀ i, i < l.length → w'.cell? ⟨g, o + i * 2, none⟩ = some (.int .i64 (l.getD i zOp).k) ∧ w'.cell? ⟨g, o + i * 2 + 1, none⟩ = some (.int .i64 (l.getD i zOp).x) := by
  obtain ⟨g, o, e, hg, hi⟩ := h h0
  exact ⟨g, o, e, fun i hil => ⟨(bcell hb g _ hg).trans (hi i hil).1, (bcell hb g _ hg).trans (hi i hil).2⟩⟩
end Go.Proofs.YtgjhhipkfglpgaaDoor
