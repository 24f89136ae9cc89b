/- Layer 6: the walk of copyOf. -/
import Derived.Test.YtjnijppghgemeaaDoorBe
namespace Go.Proofs.YtjnijppghgemeaaDoor
open Go.RowKit Go.Shelf

/-- While a pattern is copied. -/
structure Cp (w : World) (x : Sl) (p : Pt) (k : Nat) (v0 v1 vM : Value) (vs : List Value) (wr : World) : Prop where
  pb : wr.heap[w.heap.size]? = some (.cells #[.string ⟨p.nm.toArray⟩, .slice x.s0 p.p0.length x.c0, .slice x.s1 p.p1.length x.c1, .slice x.s2 p.ms.length x.c2] 26 (0, 0))
  res : wr.heap[w.heap.size + 1]? = some (.cells #[.string ⟨#[]⟩, .slice none 0 0, .slice none 0 0, .slice none 0 0] 26 (0, 0))
  qb : wr.heap[w.heap.size + 1 + 1]? = some (.cells #[.string ⟨p.nm.toArray⟩, v0, v1, vM] 26 (0, 0))
  ow : Ow wr (w.heap.size + 3) v0 v1 vM p.p0 p.p1 (p.ms.take k) vs
  bel : Below w.heap.size w wr
theorem Cp.keep {w : World} {x : Sl} {p : Pt} {k : Nat} {v0 v1 vM : Value} {vs : List Value} {wr wx : World} (h : Cp w x p k v0 v1 vM vs wr) (hb : Below wr.heap.size wr wx) : Cp w x p k v0 v1 vM vs wx :=
  ⟨(hb.block _ (lt_of_heap h.pb)).trans h.pb, (hb.block _ (lt_of_heap h.res)).trans h.res, (hb.block _ (lt_of_heap h.qb)).trans h.qb, h.ow.keep hb, h.bel.trans (hb.mono h.bel.size)⟩
theorem setCell_box43 {w : World} {b : Nat} {u v0 v1 v2 v3 : Value} {t : TypeId} (h : w.heap[b]? = some (.cells #[v0, v1, v2, v3] t (0, 0))) : (w.setCell ⟨b, 3, none⟩ u).heap[b]? = some (.cells #[v0, v1, v2, u] t (0, 0)) := by
  simp only [World.setCell, Array.getElem?_modify, if_true, h]
  rfl
def boxV (nm : List UInt8) (v0 v1 v2 : Value) : Obj := .cells #[.string ⟨nm.toArray⟩, v0, v1, v2] 26
/-- Behind both announced rows. -/
theorem cp_start {w w1 w2 : World} {x : Sl} {p : Pt} {v0 v1 : Value}
    (wA : World) (hA : wA = ((w.alloc (.cells #[.string ⟨p.nm.toArray⟩, .slice x.s0 p.p0.length x.c0, .slice x.s1 p.p1.length x.c1, .slice x.s2 p.ms.length x.c2] 26)).alloc (.cells #[.string ⟨#[]⟩, .slice none 0 0, .slice none 0 0, .slice none 0 0] 26)).alloc (.cells #[.string ⟨p.nm.toArray⟩, .slice none 0 0, .slice none 0 0, .slice none 0 0] 26))
    (h1 : Below wA.heap.size wA w1) (o0 : w1.ownsRow wA.heap.size 3 1 v0 p.p0.length (p.p0.map (Value.int .i64)))
    (h2 : Below (w1.setCell ⟨w.heap.size + 1 + 1, 1, none⟩ v0).heap.size (w1.setCell ⟨w.heap.size + 1 + 1, 1, none⟩ v0) w2) (o1 : w2.ownsRow (w1.setCell ⟨w.heap.size + 1 + 1, 1, none⟩ v0).heap.size 3 1 v1 p.p1.length (p.p1.map (Value.int .i64))) :
    Cp w x p 0 v0 v1 (.slice none 0 0) [] (w2.setCell ⟨w.heap.size + 1 + 1, 2, none⟩ v1) := by
  have sA : wA.heap.size = w.heap.size + 3 := by rw [hA]; simp
  have b0 : wA.heap[w.heap.size]? = some (.cells #[.string ⟨p.nm.toArray⟩, .slice x.s0 p.p0.length x.c0, .slice x.s1 p.p1.length x.c1, .slice x.s2 p.ms.length x.c2] 26 (0, 0)) := by
    rw [hA, Below.heap_alloc _ _ _ (by simp; omega), Below.heap_alloc _ _ _ (by simp)]; exact heap_alloc_new w _
  have b1 : wA.heap[w.heap.size + 1]? = some (.cells #[.string ⟨#[]⟩, .slice none 0 0, .slice none 0 0, .slice none 0 0] 26 (0, 0)) := by
    rw [hA, Below.heap_alloc _ _ _ (by simp)]
    have := heap_alloc_new (w.alloc (.cells #[.string ⟨p.nm.toArray⟩, .slice x.s0 p.p0.length x.c0, .slice x.s1 p.p1.length x.c1, .slice x.s2 p.ms.length x.c2] 26)) (.cells #[.string ⟨#[]⟩, .slice none 0 0, .slice none 0 0, .slice none 0 0] 26)
    rwa [World.size_alloc] at this
  have b2 : wA.heap[w.heap.size + 1 + 1]? = some (.cells #[.string ⟨p.nm.toArray⟩, .slice none 0 0, .slice none 0 0, .slice none 0 0] 26 (0, 0)) := by
    have := heap_alloc_new ((w.alloc (.cells #[.string ⟨p.nm.toArray⟩, .slice x.s0 p.p0.length x.c0, .slice x.s1 p.p1.length x.c1, .slice x.s2 p.ms.length x.c2] 26)).alloc (.cells #[.string ⟨#[]⟩, .slice none 0 0, .slice none 0 0, .slice none 0 0] 26)) (.cells #[.string ⟨p.nm.toArray⟩, .slice none 0 0, .slice none 0 0, .slice none 0 0] 26)
    rw [World.size_alloc, World.size_alloc] at this
    rw [hA]; exact this
  have hwA : Below w.heap.size w wA := by rw [hA]; exact (((Below.refl _ _).alloc (Nat.le_refl _) _).alloc (by simp) _).alloc (by simp; omega) _
  have s1 := h1.size
  have c0 := (h1.block _ (by omega)).trans b0
  have c1 := (h1.block _ (by omega)).trans b1
  have c2 := (h1.block _ (by omega)).trans b2
  have d0 : (w1.setCell ⟨w.heap.size + 1 + 1, 1, none⟩ v0).heap[w.heap.size]? = _ := (Below.heap_setCell _ _ _ _ (by simp; omega)).trans c0
  have d1 : (w1.setCell ⟨w.heap.size + 1 + 1, 1, none⟩ v0).heap[w.heap.size + 1]? = _ := (Below.heap_setCell _ _ _ _ (by simp)).trans c1
  have d2 := setCell_box41 (u := v0) c2
  have q0 := own_setT o0 c2 (by decide) v0 (o := 1)
  have bw1 := (hwA.trans (h1.mono hwA.size)).setCell (p := ⟨w.heap.size + 1 + 1, 1, none⟩) (show w.heap.size ≤ w.heap.size + 1 + 1 by omega) v0
  have s2 := h2.size
  have ls : (w1.setCell ⟨w.heap.size + 1 + 1, 1, none⟩ v0).heap.size = w1.heap.size := by simp
  have f0 := (h2.block _ (by omega)).trans d0
  have f1 := (h2.block _ (by omega)).trans d1
  have f2 := (h2.block _ (by omega)).trans d2
  have r0 := row_below q0 h2
  have t0 := own_setT r0 f2 (by decide) v1 (o := 2)
  have t1 := own_setT o1 f2 (by decide) v1 (o := 2)
  refine ⟨(Below.heap_setCell _ _ _ _ (by simp; omega)).trans f0, (Below.heap_setCell _ _ _ _ (by simp)).trans f1, setCell_box42 f2, ?_, (bw1.trans (h2.mono bw1.size)).setCell (show w.heap.size ≤ w.heap.size + 1 + 1 by omega) _⟩
  refine ⟨own_less t0 (by omega), own_less t1 (by omega), rfl, World.ownsRow_nil _ _ _ _, fun i u hu => by simp at hu, ?_⟩
  refine List.Pairwise.cons (fun a ha => ?_) (List.pairwise_singleton _ _)
  simp at ha
  subst ha
  exact dj_new q0 o1 (Nat.le_refl _)
/-- A message more. -/
theorem Cp.step {w : World} {x : Sl} {p : Pt} {k : Nat} {v0 v1 vM : Value} {vs : List Value} {wr : World} (h : Cp w x p k v0 v1 vM vs wr) (hk : k < p.ms.length) {X Y w4 : World} (hX : Below wr.heap.size wr X) (hXY : Below X.heap.size X Y) {u vM' : Value} {B' : Nat} (hB : X.heap.size ≤ B')
    (hu : Y.ownsRow B' 3 1 u (p.ms.getD k default).t.length ((p.ms.getD k default).t.map (Value.int .i64))) (hg : Y.grownBy w4 vM.ownBlock)
    (hx : w4.ownsRow (w.heap.size + 3) 55 2 vM' (k + 1) (msC (p.ms.take k) vs ++ [.int .i64 (p.ms.getD k default).fr, u])) :
    Cp w x p (k + 1) v0 v1 vM' (vs ++ [u]) (w4.setCell ⟨w.heap.size + 1 + 1, 3, none⟩ vM') := by
  have hY := h.keep (hX.trans (hXY.mono hX.size))
  have hlt := hY.bel.size
  have l2 := lt_of_heap hY.qb
  have hfar : ∀ j, j < w.heap.size + 3 → some j ≠ vM.ownBlock := fun j hj e => by
    have := (hY.ow.om.lt j e.symm).1; omega
  have hl : (p.ms.take k).length = k := by simp; omega
  have bk : ∀ j, j < w.heap.size + 3 → w4.heap[j]? = Y.heap[j]? := fun j hj => hg.block j (by omega) (hfar j hj)
  have g2 := (bk _ (by omega)).trans hY.qb
  have hsX := hX.size
  have hsr := lt_of_heap h.qb
  have ho : Ow w4 (w.heap.size + 3) v0 v1 vM' p.p0 p.p1 (p.ms.take (k + 1)) (vs ++ [u]) := by
    rw [pre_take hk]; exact Ow.step (h.ow.keep hX) hXY hu hB (by omega) hg (by rw [hl]; exact hx)
  refine ⟨(Below.heap_setCell _ _ _ _ (by simp; omega)).trans ((bk _ (by omega)).trans hY.pb), (Below.heap_setCell _ _ _ _ (by simp)).trans ((bk _ (by omega)).trans hY.res), setCell_box43 g2, ho.setT g2 _, ?_⟩
  refine (hY.bel.grown hg hY.bel.size (fun j e => ?_)).setCell (show w.heap.size ≤ w.heap.size + 1 + 1 by omega) _
  have := (hY.ow.om.lt j e).1; omega
end Go.Proofs.YtjnijppghgemeaaDoor
