/- Layer 7: laws with patterns in boxes; what is read of package variables. -/
import Derived.Test.YtahbbojhdkillaaDoorCj
import Derived.Test.YtahbbojhdkillaaDoorBb
import Derived.Test.YtahbbojhdkillaaDoorNf
namespace Go.Proofs.YtahbbojhdkillaaDoor
open Go.RowKit Go.Shelf

/-- A pattern in a law's box. -/
structure Bx (w : World) (b : Nat) (x : Sl) (p : Pt) (wr : World) : Prop where
  bx : wr.heap[b]? = some (.cells #[.string ⟨p.nm.toArray⟩, .slice x.s0 p.p0.length x.c0, .slice x.s1 p.p1.length x.c1, .slice x.s2 p.ms.length x.c2] 29 (0, 0))
  bel : Below w.heap.size w wr
theorem Bx.keep {w : World} {b : Nat} {x : Sl} {p : Pt} {wr wx : World} (h : Bx w b x p wr) (hb : Below wr.heap.size wr wx) : Bx w b x p wx := ⟨(hb.block _ (lt_of_heap h.bx)).trans h.bx, h.bel.trans (hb.mono h.bel.size)⟩
theorem Bx.cells {w : World} {b : Nat} {x : Sl} {p : Pt} {wr : World} (h : Bx w b x p wr) : wr.cell? ⟨b, 0, none⟩ = some (.string ⟨p.nm.toArray⟩) ∧ wr.cell? ⟨b, 1, none⟩ = some (.slice x.s0 p.p0.length x.c0) ∧ wr.cell? ⟨b, 2, none⟩ = some (.slice x.s1 p.p1.length x.c1) ∧ wr.cell? ⟨b, 3, none⟩ = some (.slice x.s2 p.ms.length x.c2) := by
  obtain ⟨h0, h1, h2, h3, -⟩ := box4c h.bx
  exact ⟨h0, h1, h2, h3⟩
theorem bx_new (w : World) (x : Sl) (p : Pt) : Bx w w.heap.size x p (w.alloc (.cells #[.string ⟨p.nm.toArray⟩, .slice x.s0 p.p0.length x.c0, .slice x.s1 p.p1.length x.c1, .slice x.s2 p.ms.length x.c2] 29)) := ⟨heap_alloc_new w _, (Below.refl _ _).alloc (Nat.le_refl _) _⟩
theorem bx_more {w wr : World} (hb : Below w.heap.size w wr) (x : Sl) (p : Pt) : Bx w wr.heap.size x p (wr.alloc (.cells #[.string ⟨p.nm.toArray⟩, .slice x.s0 p.p0.length x.c0, .slice x.s1 p.p1.length x.c1, .slice x.s2 p.ms.length x.c2] 29)) := ⟨heap_alloc_new wr _, hb.alloc hb.size _⟩
theorem wrap_small {x : Int} (h0 : 0 ≤ x) (h1 : x < 1000) : IntKind.i64.wrap x = x := by
  have h : x % (2 ^ IntKind.i64.bits : Int) = x := Int.emod_eq_of_lt h0 (Int.lt_of_lt_of_le h1 (by decide))
  unfold IntKind.wrap
  simp only [h]
  rw [if_neg]
  have : (2 ^ (IntKind.i64.bits - 1) : Int) > 1000 := by decide
  simp only [Bool.and_eq_true, decide_eq_true_eq]
  omega

/-- What is read of package variables. -/
structure Ev (w : World) : Prop where
  eb : Eb w
  ky : Ky w
theorem Ev.keep {w w' : World} (h : Ev w) (hb : Below w.heap.size w w') : Ev w' := ⟨h.eb.keep hb, h.ky.keep hb⟩
theorem natOne : ((1 : Nat) : Int) = 1 := rfl
theorem natZero : ((0 : Nat) : Int) = 0 := rfl
end Go.Proofs.YtahbbojhdkillaaDoor
