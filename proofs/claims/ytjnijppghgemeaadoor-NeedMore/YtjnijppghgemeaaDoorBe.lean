/- Layer 6: the walk of copyOf: a pattern whose rows are all its own. -/
import Derived.Test.YtjnijppghgemeaaDoorBd
namespace Go.Proofs.YtjnijppghgemeaaDoor
open Go.RowKit Go.Shelf

/-- Two rows that are not one. -/
def Dj (a b : Value) : Prop := a.ownBlock = none ∨ a.ownBlock ≠ b.ownBlock
/-- A pattern whose rows are its own, each of them another one. -/
structure Ow (w : World) (B : Nat) (v0 v1 vM : Value) (p0 p1 : List Int) (ms : List Ms) (vs : List Value) : Prop where
  o0 : w.ownsRow B 3 1 v0 p0.length (p0.map (Value.int .i64))
  o1 : w.ownsRow B 3 1 v1 p1.length (p1.map (Value.int .i64))
  ln : vs.length = ms.length
  om : w.ownsRow B 55 2 vM ms.length (msC ms vs)
  ot : ∀ i u, vs[i]? = some u → w.ownsRow B 3 1 u (ms.getD i default).t.length ((ms.getD i default).t.map (Value.int .i64))
  dj : (v0 :: v1 :: vs).Pairwise Dj
theorem Ow.keep {w w' : World} {B : Nat} {v0 v1 vM : Value} {p0 p1 : List Int} {ms : List Ms} {vs : List Value} (h : Ow w B v0 v1 vM p0 p1 ms vs) (hb : Below w.heap.size w w') : Ow w' B v0 v1 vM p0 p1 ms vs :=
  ⟨row_below h.o0 hb, row_below h.o1 hb, h.ln, row_below h.om hb, fun i u hu => row_below (h.ot i u hu) hb, h.dj⟩
theorem Ow.mso {w : World} {B : Nat} {v0 v1 vM : Value} {p0 p1 : List Int} {ms : List Ms} {vs : List Value} (h : Ow w B v0 v1 vM p0 p1 ms vs) : MsO w B vM ms := ⟨vs, h.ln, h.om, h.ot⟩
theorem Ow.patA {w : World} {B : Nat} {v0 v1 vM : Value} {nm : List UInt8} {p0 p1 : List Int} {ms : List Ms} {vs : List Value} (h : Ow w B v0 v1 vM p0 p1 ms vs) : ∃ x, Value.agg #[.string ⟨nm.toArray⟩, v0, v1, vM] = patV x ⟨nm, p0, p1, ms⟩ ∧ PatA w x ⟨nm, p0, p1, ms⟩ := by
  obtain ⟨s0, c0, e0, q0⟩ := ints_own h.o0
  obtain ⟨s1, c1, e1, q1⟩ := ints_own h.o1
  obtain ⟨s2, c2, e2, q2, q3⟩ := h.mso.msgs
  exact ⟨⟨s0, c0, s1, c1, s2, c2⟩, by rw [e0, e1, e2]; rfl, ⟨q0, q1, q2, q3⟩⟩
/-- A cell of a block of another type is written. -/
theorem Ow.setT {w : World} {B : Nat} {v0 v1 vM : Value} {p0 p1 : List Int} {ms : List Ms} {vs : List Value} (h : Ow w B v0 v1 vM p0 p1 ms vs) {b o : Nat} {cs : Array Value} {fr : Nat × Nat} (hb : w.heap[b]? = some (.cells cs 26 fr)) (u : Value) : Ow (w.setCell ⟨b, o, none⟩ u) B v0 v1 vM p0 p1 ms vs :=
  ⟨own_setT h.o0 hb (by decide) u, own_setT h.o1 hb (by decide) u, h.ln, own_setT h.om hb (by decide) u, fun i y hy => own_setT (h.ot i y hy) hb (by decide) u, h.dj⟩
theorem Ow.only {w w' : World} {B : Nat} {v0 v1 vM : Value} {p0 p1 : List Int} {ms : List Ms} {vs : List Value} (h : Ow w B v0 v1 vM p0 p1 ms vs) {b : Nat} {cs : Array Value} {fr : Nat × Nat} (hb : w.heap[b]? = some (.cells cs 26 fr)) (hk : ∀ j, j ≠ b → w'.heap[j]? = w.heap[j]?) : Ow w' B v0 v1 vM p0 p1 ms vs :=
  ⟨own_only h.o0 hb (by decide) hk, own_only h.o1 hb (by decide) hk, h.ln, own_only h.om hb (by decide) hk, fun i y hy => own_only (h.ot i y hy) hb (by decide) hk, h.dj⟩
theorem Ow.less {w : World} {B B' : Nat} {v0 v1 vM : Value} {p0 p1 : List Int} {ms : List Ms} {vs : List Value} (h : Ow w B v0 v1 vM p0 p1 ms vs) (hB : B' ≤ B) : Ow w B' v0 v1 vM p0 p1 ms vs :=
  ⟨own_less h.o0 hB, own_less h.o1 hB, h.ln, own_less h.om hB, fun i y hy => own_less (h.ot i y hy) hB, h.dj⟩
/-- A row that came later is another one. -/
theorem dj_new {X : World} {B B' : Nat} {t t' : TypeId} {z z' n n' : Nat} {a u : Value} {xs ys : List Value} {w' : World} (ha : X.ownsRow B t z a n xs) (hu : w'.ownsRow B' t' z' u n' ys) (hB : X.heap.size ≤ B') : Dj a u := by
  cases e : a.ownBlock with
  | none => exact .inl e
  | some k =>
    right
    rw [e]
    intro e'
    have h1 := (ha.lt k e).2
    have h2 := (hu.lt k e'.symm).1
    omega
/-- A message more. -/
theorem Ow.step {X Y w4 : World} {B B' : Nat} {v0 v1 vM vM' u : Value} {p0 p1 : List Int} {ms : List Ms} {vs : List Value} {m : Ms} (h : Ow X B v0 v1 vM p0 p1 ms vs) (hXY : Below X.heap.size X Y) (hu : Y.ownsRow B' 3 1 u m.t.length (m.t.map (Value.int .i64))) (hB : X.heap.size ≤ B') (hBB : B ≤ B')
    (hg : Y.grownBy w4 vM.ownBlock) (hx : w4.ownsRow B 55 2 vM' (ms.length + 1) (msC ms vs ++ [.int .i64 m.fr, u])) : Ow w4 B v0 v1 vM' p0 p1 (ms ++ [m]) (vs ++ [u]) := by
  have hY := h.keep hXY
  have hne : (3 : TypeId) ≠ 55 := by decide
  refine ⟨own_grown hY.o0 hg (own_apart hY.o0 hY.om hne), own_grown hY.o1 hg (own_apart hY.o1 hY.om hne), by simp [h.ln], ?_, fun i y hy => ?_, ?_⟩
  · rw [msC_snoc _ _ _ _ h.ln]; simpa using hx
  · by_cases hi : i < vs.length
    · rw [List.getElem?_append_left hi] at hy
      have h1 := hY.ot i y hy
      have h2 : (ms ++ [m]).getD i default = ms.getD i default := by
        simp only [List.getD_eq_getElem?_getD]; rw [List.getElem?_append_left (by rw [← h.ln]; exact hi)]
      rw [h2]
      exact own_grown h1 hg (own_apart h1 hY.om hne)
    · have hi' : i = vs.length := by
        rcases Nat.lt_or_ge i (vs ++ [u]).length with q | q
        · simp at q; omega
        · rw [List.getElem?_eq_none q] at hy; cases hy
      subst hi'
      rw [List.getElem?_append_right (Nat.le_refl _), Nat.sub_self] at hy
      simp at hy
      subst hy
      have h2 : (ms ++ [m]).getD vs.length default = m := by
        simp only [List.getD_eq_getElem?_getD]; rw [h.ln, List.getElem?_append_right (Nat.le_refl _)]; simp
      rw [h2]
      have hu' := own_less hu hBB
      exact own_grown hu' hg (own_apart hu' hY.om hne)
  · have : v0 :: v1 :: (vs ++ [u]) = (v0 :: v1 :: vs) ++ [u] := rfl
    rw [this, List.pairwise_append]
    refine ⟨h.dj, List.pairwise_singleton _ _, fun a ha b hb => ?_⟩
    simp at hb
    subst hb
    simp at ha
    rcases ha with rfl | rfl | ha
    · exact dj_new h.o0 hu hB
    · exact dj_new h.o1 hu hB
    · obtain ⟨i, hi, e⟩ := List.getElem_of_mem ha
      exact dj_new (h.ot i a (by rw [← e]; exact List.getElem?_eq_getElem hi)) hu hB
end Go.Proofs.YtjnijppghgemeaaDoor
