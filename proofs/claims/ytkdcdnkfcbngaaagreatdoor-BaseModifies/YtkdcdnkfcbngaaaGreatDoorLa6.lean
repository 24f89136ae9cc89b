/- Layer 6: laws with patterns in boxes. -/
import Derived.Test.YtkdcdnkfcbngaaaGreatDoorBs
import Derived.Test.YtkdcdnkfcbngaaaGreatDoorNf
namespace Go.Proofs.YtkdcdnkfcbngaaaGreatDoor
open Go.RowKit Go.Shelf

/-- A pattern in a law's box. -/
structure Bx (w : World) (b : Nat) (x : Sl) (p : Pt) (wr : World) : Prop where
  bx : wr.heap[b]? = some (.cells #[.string ⟨p.nm.toArray⟩, .slice x.s0 p.p0.length x.c0, .slice x.s1 p.p1.length x.c1, .slice x.s2 p.ms.length x.c2] 26 (0, 0))
  bel : Below w.heap.size w wr
theorem Bx.keep {w : World} {b : Nat} {x : Sl} {p : Pt} {wr wx : World} (h : Bx w b x p wr) (hb : Below wr.heap.size wr wx) : Bx w b x p wx := ⟨(hb.block _ (lt_of_heap h.bx)).trans h.bx, h.bel.trans (hb.mono h.bel.size)⟩
theorem Bx.cells {w : World} {b : Nat} {x : Sl} {p : Pt} {wr : World} (h : Bx w b x p wr) : wr.cell? ⟨b, 0, none⟩ = some (.string ⟨p.nm.toArray⟩) ∧ wr.cell? ⟨b, 1, none⟩ = some (.slice x.s0 p.p0.length x.c0) ∧ wr.cell? ⟨b, 2, none⟩ = some (.slice x.s1 p.p1.length x.c1) ∧ wr.cell? ⟨b, 3, none⟩ = some (.slice x.s2 p.ms.length x.c2) := by
  obtain ⟨h0, h1, h2, h3, -⟩ := box4c h.bx
  exact ⟨h0, h1, h2, h3⟩
theorem bx_new (w : World) (x : Sl) (p : Pt) : Bx w w.heap.size x p (w.alloc (.cells #[.string ⟨p.nm.toArray⟩, .slice x.s0 p.p0.length x.c0, .slice x.s1 p.p1.length x.c1, .slice x.s2 p.ms.length x.c2] 26)) := ⟨heap_alloc_new w _, (Below.refl _ _).alloc (Nat.le_refl _) _⟩
theorem bx_more {w wr : World} (hb : Below w.heap.size w wr) (x : Sl) (p : Pt) : Bx w wr.heap.size x p (wr.alloc (.cells #[.string ⟨p.nm.toArray⟩, .slice x.s0 p.p0.length x.c0, .slice x.s1 p.p1.length x.c1, .slice x.s2 p.ms.length x.c2] 26)) := ⟨heap_alloc_new wr _, hb.alloc hb.size _⟩
theorem few_short {p : Pt} (h : fewB p = true) : shortP p := by
  simp only [fewB, Bool.and_eq_true, decide_eq_true_eq] at h
  refine ⟨by omega, by omega, by omega, fun i hi => ?_⟩
  have := List.all_eq_true.1 h.1.1.1.1 _ (List.getElem_mem hi)
  rw [List.getD_eq_getElem?_getD, List.getElem?_eq_getElem hi]
  simp only [shT, decide_eq_true_eq] at this
  simp only [Option.getD_some]; omega
theorem right_short {p : Pt} (h : right p = true) : shortP p := by
  simp only [right, Bool.and_eq_true, decide_eq_true_eq] at h
  have d := preOk_len h.1.1.2
  have e := preOk_len h.1.2
  refine ⟨by omega, by omega, by omega, fun i hi => ?_⟩
  have := List.all_eq_true.1 h.2 _ (List.getElem_mem hi)
  rw [List.getD_eq_getElem?_getD, List.getElem?_eq_getElem hi]
  simp only [msOk, Bool.and_eq_true, decide_eq_true_eq] at this
  simp only [Option.getD_some]; omega
theorem zero_short : shortP zP := ⟨by simp [zP], by simp [zP], by simp [zP], fun i hi => by simp [zP] at hi⟩
theorem wrap_small {x : Int} (h0 : 0 ≤ x) (h1 : x < 1000) : IntKind.i64.wrap x = x := by
  have h : x % (2 ^ IntKind.i64.bits : Int) = x := Int.emod_eq_of_lt h0 (Int.lt_of_lt_of_le h1 (by decide))
  unfold IntKind.wrap
  simp only [h]
  rw [if_neg]
  have : (2 ^ (IntKind.i64.bits - 1) : Int) > 1000 := by decide
  simp only [Bool.and_eq_true, decide_eq_true_eq]
  omega
end Go.Proofs.YtkdcdnkfcbngaaaGreatDoor
