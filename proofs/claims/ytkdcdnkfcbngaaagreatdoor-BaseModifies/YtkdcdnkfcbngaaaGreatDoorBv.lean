/- Layer 6: the reference's Psk. -/
import Derived.Test.YtkdcdnkfcbngaaaGreatDoorBu
import Derived.Test.YtkdcdnkfcbngaaaGreatDoorNa
import Derived.Test.YtkdcdnkfcbngaaaGreatDoorBm
namespace Go.Proofs.YtkdcdnkfcbngaaaGreatDoor
open Go.RowKit Go.Shelf

/-- Messages of the reference's, in rows of the call's own. -/
def MsR (w : World) (B : Nat) (v : Value) (ms : List Ms) : Prop :=
  ∃ vs : List Value, vs.length = ms.length ∧ w.ownsRow B 56 2 v ms.length (msC ms vs) ∧ ∀ i u, vs[i]? = some u → w.ownsRow B 3 1 u (ms.getD i default).t.length ((ms.getD i default).t.map (Value.int .i64))
theorem MsR.keep {w w' : World} {B : Nat} {v : Value} {ms : List Ms} (h : MsR w B v ms) (hb : Below w.heap.size w w') : MsR w' B v ms := by
  obtain ⟨vs, h1, h2, h3⟩ := h
  exact ⟨vs, h1, row_below h2 hb, fun i u hu => row_below (h3 i u hu) hb⟩
theorem MsR.step {X w4 : World} {B : Nat} {v v' u : Value} {ms : List Ms} {vs : List Value} {m : Ms} (h1 : vs.length = ms.length) (h2 : X.ownsRow B 56 2 v ms.length (msC ms vs)) (h3 : ∀ i u, vs[i]? = some u → X.ownsRow B 3 1 u (ms.getD i default).t.length ((ms.getD i default).t.map (Value.int .i64))) (hu : X.ownsRow B 3 1 u m.t.length (m.t.map (Value.int .i64)))
    (hg : X.grownBy w4 v.ownBlock) (hx : w4.ownsRow B 56 2 v' (ms.length + 1) (msC ms vs ++ [.int .i64 m.fr, u])) : MsR w4 B v' (ms ++ [m]) := by
  have hne : (3 : TypeId) ≠ 56 := by decide
  refine ⟨vs ++ [u], by simp [h1], ?_, fun i y hy => ?_⟩
  · rw [msC_snoc _ _ _ _ h1, List.length_append]; exact hx
  · rcases Nat.lt_or_ge i vs.length with hi | hi
    · rw [List.getElem?_append_left hi] at hy
      have h4 := h3 i y hy
      have e : (ms ++ [m]).getD i default = ms.getD i default := by
        rw [List.getD_eq_getElem?_getD, List.getD_eq_getElem?_getD, List.getElem?_append_left (by omega)]
      rw [e]
      exact own_grown h4 hg (own_apart h4 h2 hne)
    · have hiv : i = vs.length := by
        rcases Nat.lt_or_ge i (vs ++ [u]).length with h5 | h5
        · simp at h5; omega
        · rw [List.getElem?_eq_none h5] at hy; cases hy
      subst hiv
      have e : (ms ++ [m]).getD vs.length default = m := by
        rw [List.getD_eq_getElem?_getD, h1]; simp
      have ey : y = u := by simpa using hy.symm
      rw [e, ey]
      exact own_grown hu hg (own_apart hu h2 hne)
theorem MsR.msgs {w : World} {B : Nat} {v : Value} {ms : List Ms} (h : MsR w B v ms) : ∃ s c, v = .slice s ms.length c ∧ MsgsV w s ms ∧ ms.length ≤ c := by
  obtain ⟨vs, h1, ⟨_, ⟨rfl, h0⟩ | ⟨g, cap, cur, rfl, _, hg, hcap, _, _, htk⟩⟩, h3⟩ := h
  · exact ⟨none, 0, by rw [h0], fun h => by omega, by omega⟩
  · refine ⟨_, _, rfl, fun _ => ⟨g, 0, rfl, fun i hi => ?_⟩, hcap⟩
    obtain ⟨e1, e2⟩ := msC_at ms vs i h1 hi
    have cell : ∀ j, j < ms.length * 2 → w.cell? ⟨g, j, none⟩ = (msC ms vs)[j]? := fun j hj => by
      rw [cell_of_row w g j cur _ _ hg, ← htk, List.getElem?_take, if_pos hj, Array.getElem?_toList]
    obtain ⟨u, hu⟩ : ∃ u, vs[i]? = some u := ⟨vs[i], List.getElem?_eq_getElem (by omega)⟩
    obtain ⟨s, c, rfl, hi'⟩ := ints_own (h3 i u hu)
    refine ⟨?_, s, c, ?_, hi'⟩
    · rw [Nat.zero_add, cell _ (by omega)]; exact e1
    · rw [Nat.zero_add, cell _ (by omega), e2]; exact hu


theorem own_empty (w : World) (t : TypeId) : (w.alloc (.cells #[] t)).ownsRow w.heap.size t 1 (.slice (some ⟨w.heap.size, 0, none⟩) 0 0) 0 [] :=
  ⟨rfl, .inr ⟨w.heap.size, 0, #[], rfl, Nat.le_refl _, heap_alloc_new w _, Nat.le_refl _, Nat.zero_le _, rfl, rfl⟩⟩
theorem own_one (w : World) (t : TypeId) (v : Value) : (w.alloc (.cells #[v] t)).ownsRow w.heap.size t 1 (.slice (some ⟨w.heap.size, 0, none⟩) 1 1) 1 [v] :=
  ⟨rfl, .inr ⟨w.heap.size, 1, #[v], rfl, Nat.le_refl _, heap_alloc_new w _, Nat.le_refl _, by unfold maxLen; omega, rfl, rfl⟩⟩
theorem MsR.keep' {w w' : World} {B : Nat} {v : Value} {ms : List Ms} (h : MsR w B v ms) (hb : Below w.heap.size w w') : MsR w' B v ms := h.keep hb
/-- While the reference puts a psk in. -/
structure Rp (w : World) (v0 v1 v2 v3 : Value) (L : List Ms) (k : Nat) (v : Value) (wr : World) : Prop where
  rb : Rb w v0 v1 v2 v3 wr
  ms : MsR wr (w.heap.size + 2) v (L.take k)
theorem Rp.keep {w : World} {v0 v1 v2 v3 : Value} {L : List Ms} {k : Nat} {v : Value} {wr wx : World} (h : Rp w v0 v1 v2 v3 L k v wr) (hb : Below wr.heap.size wr wx) : Rp w v0 v1 v2 v3 L k v wx := ⟨h.rb.keep hb, h.ms.keep hb⟩
theorem Tryz.infoQ : (Tryz.prog.info? 56).map (fun i => (i.zero, i.size, i.bytes)) = some (some (.agg #[.int .i64 0, .slice none 0 0]), 2, 32) := by kernel_rfl
/-- A message more: its row lies in the call's own memory. -/
theorem Rp.step {w : World} {v0 v1 v2 v3 : Value} {L : List Ms} {k : Nat} {v : Value} {wr X w4 : World} {u v' : Value} {vs : List Value} {m : Ms} (h : Rb w v0 v1 v2 v3 wr) (hk : k < L.length) (hm : m = L.getD k default) (hX : Below wr.heap.size wr X)
    (h1 : vs.length = (L.take k).length) (h2 : X.ownsRow (w.heap.size + 2) 56 2 v (L.take k).length (msC (L.take k) vs)) (h3 : ∀ i u, vs[i]? = some u → X.ownsRow (w.heap.size + 2) 3 1 u ((L.take k).getD i default).t.length (((L.take k).getD i default).t.map (Value.int .i64))) (hu : X.ownsRow (w.heap.size + 2) 3 1 u m.t.length (m.t.map (Value.int .i64)))
    (hg : X.grownBy w4 v.ownBlock) (hx : w4.ownsRow (w.heap.size + 2) 56 2 v' ((L.take k).length + 1) (msC (L.take k) vs ++ [.int .i64 m.fr, u])) : Rp w v0 v1 v2 v3 L (k + 1) v' w4 := by
  have hlo : ∀ j, v.ownBlock = some j → w.heap.size + 2 ≤ j := fun j e => (h2.lt j e).1
  have hk' := h.keep hX
  have hr := lt_of_heap hk'.res
  have b1 := (hg.block _ (lt_of_heap hk'.pb) (fun e => by have := hlo _ e.symm; omega)).trans hk'.pb
  have b2 := (hg.block _ hr (fun e => by have := hlo _ e.symm; omega)).trans hk'.res
  refine ⟨⟨b1, b2, hk'.bel.grown hg hk'.bel.size (fun j e => by have := hlo _ e; omega)⟩, ?_⟩
  rw [pre_take hk, ← hm]
  exact MsR.step h1 h2 h3 hu hg hx

end Go.Proofs.YtkdcdnkfcbngaaaGreatDoor
