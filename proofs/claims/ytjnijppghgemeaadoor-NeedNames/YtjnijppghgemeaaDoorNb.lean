/- Layer 5: the walks of slices.Equal, sameMsg, slices.EqualFunc, Same. -/
import Derived.Test.YtjnijppghgemeaaDoorMk
import Derived.Shelf.Slices.Equal
namespace Go.Proofs.YtjnijppghgemeaaDoor
open Go.RowKit Go.Shelf

theorem box2 {w w1 : World} {v0 v1 u0 u1 : Value} {T T' : TypeId} (hb : Below ((w.alloc (.cells #[v0, v1] T)).alloc (.cells #[u0, u1] T')).heap.size ((w.alloc (.cells #[v0, v1] T)).alloc (.cells #[u0, u1] T')) w1) : Below w.heap.size w w1 :=
  (((Below.refl _ _).alloc (Nat.le_refl _) _).alloc (by simp) _).trans (hb.mono (by simp; omega))
def shortM (ms : List Ms) : Prop := ms.length ≤ 65536 ∧ ∀ i, i < ms.length → (ms.getD i default).t.length ≤ 65536
theorem ms_ext {a b : List Ms} (hl : a.length = b.length) (h : ∀ i, i < a.length → a.getD i default = b.getD i default) : a = b := by
  refine List.ext_getElem hl fun i h1 h2 => ?_
  have := h i h1
  rw [List.getD_eq_getElem?_getD, List.getD_eq_getElem?_getD, List.getElem?_eq_getElem h1, List.getElem?_eq_getElem h2] at this
  simpa using this
theorem box4a {w w1 : World} {v0 v1 v2 v3 u0 u1 u2 u3 : Value} {T : TypeId} (hb : Below ((w.alloc (.cells #[v0, v1, v2, v3] T)).alloc (.cells #[u0, u1, u2, u3] T)).heap.size ((w.alloc (.cells #[v0, v1, v2, v3] T)).alloc (.cells #[u0, u1, u2, u3] T)) w1) :
    (w1.cell? ⟨w.heap.size, 0, none⟩ = some v0 ∧ w1.cell? ⟨w.heap.size, 1, none⟩ = some v1 ∧ w1.cell? ⟨w.heap.size, 2, none⟩ = some v2 ∧ w1.cell? ⟨w.heap.size, 3, none⟩ = some v3) ∧
    (w1.cell? ⟨w.heap.size + 1, 0, none⟩ = some u0 ∧ w1.cell? ⟨w.heap.size + 1, 1, none⟩ = some u1 ∧ w1.cell? ⟨w.heap.size + 1, 2, none⟩ = some u2 ∧ w1.cell? ⟨w.heap.size + 1, 3, none⟩ = some u3) ∧ Below w.heap.size w w1 := by
  have h : ∀ b j, b ≤ w.heap.size + 1 → w1.cell? ⟨b, j, none⟩ = ((w.alloc (.cells #[v0, v1, v2, v3] T)).alloc (.cells #[u0, u1, u2, u3] T)).cell? ⟨b, j, none⟩ := fun b j hj => hb.cell (p := ⟨b, j, none⟩) (by simp; omega)
  refine ⟨⟨?_, ?_, ?_, ?_⟩, ⟨?_, ?_, ?_, ?_⟩, (((Below.refl _ _).alloc (Nat.le_refl _) _).alloc (by simp) _).trans (hb.mono (by simp; omega))⟩
  all_goals (rw [h _ _ (by omega)]; go_simp)
theorem keep2 {w w' : World} {a b : Addr} {u v : Value} (hb : Below w.heap.size w w') (h1 : w.cell? a = some u) (h2 : w.cell? b = some v) : w'.cell? a = some u ∧ w'.cell? b = some v :=
  ⟨(hb.cell (p := a) (World.block_lt_of_cell? _ _ h1)).trans h1, (hb.cell (p := b) (World.block_lt_of_cell? _ _ h2)).trans h2⟩
def shortP (p : Pt) : Prop := p.p0.length ≤ 65536 ∧ p.p1.length ≤ 65536 ∧ shortM p.ms
theorem arr_inj {a b : List UInt8} (h : (⟨a.toArray⟩ : ByteArray) = ⟨b.toArray⟩) : a = b := by
  have := congrArg (fun z : ByteArray => z.data.toList) h
  simpa using this

end Go.Proofs.YtjnijppghgemeaaDoor
