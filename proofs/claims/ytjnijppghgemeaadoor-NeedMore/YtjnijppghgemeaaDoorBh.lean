/- Layer 6: the walk of Fallback. -/
import Derived.Test.YtjnijppghgemeaaDoorBg
namespace Go.Proofs.YtjnijppghgemeaaDoor
open Go.RowKit Go.Shelf

def pcell (x : Sl) (p : Pt) : Array Value := #[.string ⟨p.nm.toArray⟩, .slice x.s0 p.p0.length x.c0, .slice x.s1 p.p1.length x.c1, .slice x.s2 p.ms.length x.c2]
/-- A pattern that came in, in its box, and the answer's box behind it. -/
structure Pb (w : World) (x : Sl) (p : Pt) (wr : World) : Prop where
  pb : wr.heap[w.heap.size]? = some (.cells #[.string ⟨p.nm.toArray⟩, .slice x.s0 p.p0.length x.c0, .slice x.s1 p.p1.length x.c1, .slice x.s2 p.ms.length x.c2] 26 (0, 0))
  res : wr.heap[w.heap.size + 1]? = some (.cells #[.string ⟨#[]⟩, .slice none 0 0, .slice none 0 0, .slice none 0 0] 26 (0, 0))
  bel : Below w.heap.size w wr
theorem Pb.keep {w : World} {x : Sl} {p : Pt} {wr wx : World} (h : Pb w x p wr) (hb : Below wr.heap.size wr wx) : Pb w x p wx :=
  ⟨(hb.block _ (lt_of_heap h.pb)).trans h.pb, (hb.block _ (lt_of_heap h.res)).trans h.res, h.bel.trans (hb.mono h.bel.size)⟩
theorem pb_new (w : World) (x : Sl) (p : Pt) : Pb w x p ((w.alloc (.cells #[.string ⟨p.nm.toArray⟩, .slice x.s0 p.p0.length x.c0, .slice x.s1 p.p1.length x.c1, .slice x.s2 p.ms.length x.c2] 26)).alloc (.cells #[.string ⟨#[]⟩, .slice none 0 0, .slice none 0 0, .slice none 0 0] 26)) := by
  refine ⟨?_, ?_, ((Below.refl _ _).alloc (Nat.le_refl _) _).alloc (by simp) _⟩
  · rw [Below.heap_alloc _ _ _ (by simp)]; exact heap_alloc_new w _
  · have := heap_alloc_new (w.alloc (.cells #[.string ⟨p.nm.toArray⟩, .slice x.s0 p.p0.length x.c0, .slice x.s1 p.p1.length x.c1, .slice x.s2 p.ms.length x.c2] 26)) (.cells #[.string ⟨#[]⟩, .slice none 0 0, .slice none 0 0, .slice none 0 0] 26)
    rwa [World.size_alloc] at this

theorem first_len {p : Pt} (hr : right p = true) : (1 ≤ p.ms.length ∧ p.ms.length ≤ 6) ∧ (p.p0.length ≤ 2 ∧ p.p1.length ≤ 2) ∧ ∀ i, i < p.ms.length → 1 ≤ (p.ms.getD i default).t.length ∧ (p.ms.getD i default).t.length ≤ 12 := by
  simp only [right, Bool.and_eq_true, decide_eq_true_eq] at hr
  refine ⟨⟨hr.1.1.1.1.2, hr.1.1.1.2⟩, ⟨preOk_len hr.1.1.2, preOk_len hr.1.2⟩, fun i hi => ?_⟩
  have h := List.all_eq_true.1 hr.2 (p.ms.getD i default) (by rw [List.getD_eq_getElem?_getD, List.getElem?_eq_getElem hi]; simp)
  simp only [msOk, Bool.and_eq_true, decide_eq_true_eq] at h
  exact ⟨h.1.1.2, h.1.2⟩

theorem box2c {w : World} {b : Nat} {v0 v1 : Value} {T : TypeId} (h : w.heap[b]? = some (.cells #[v0, v1] T (0, 0))) : w.cell? ⟨b, 0, none⟩ = some v0 ∧ w.cell? ⟨b, 1, none⟩ = some v1 := ⟨(cell_of_row w _ 0 _ _ _ h).trans rfl, (cell_of_row w _ 1 _ _ _ h).trans rfl⟩
theorem mid_first {w w1 : World} {x : Sl} {p : Pt} (h : Pb w x p w1) (f : Int) (sx : Option Addr) (t : List Int) (cx : Nat) :
    Hid (Pb w x p (w1.alloc (.cells #[.int .i64 f, .slice sx t.length cx] 55)).drew) ∧ Hid ((w1.alloc (.cells #[.int .i64 f, .slice sx t.length cx] 55)).drew.heap[w1.heap.size]? = some (.cells #[.int .i64 f, .slice sx t.length cx] 55 (0, 0))) :=
  ⟨Lib.hid (h.keep ((Below.refl _ _).alloc (Nat.le_refl _) _).drew), Lib.hid (heap_alloc_new w1 _)⟩

end Go.Proofs.YtjnijppghgemeaaDoor
