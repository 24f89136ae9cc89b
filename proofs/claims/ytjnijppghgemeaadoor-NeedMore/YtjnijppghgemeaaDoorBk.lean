/- Layer 6: a pattern in memory behind a psk more. -/
import Derived.Test.YtjnijppghgemeaaDoorBj
namespace Go.Proofs.YtjnijppghgemeaaDoor
open Go.RowKit Go.Shelf

theorem own_get {w : World} {B : Nat} {v : Value} {ms : List Ms} {vs : List Value} (h : w.ownsRow B 55 2 v ms.length (msC ms vs)) (h0 : 0 < ms.length) : ∃ g c cur, v = .slice (some ⟨g, 0, none⟩) ms.length c ∧ w.heap[g]? = some (.cells cur 55 (0, 0)) ∧ ms.length ≤ c ∧ ∀ j, j < ms.length * 2 → w.cell? ⟨g, j, none⟩ = (msC ms vs)[j]? := by
  obtain ⟨_, ⟨_, e⟩ | ⟨g, cap, cur, hv, _, hg, hcap, _, _, htk⟩⟩ := h
  · omega
  · exact ⟨g, cap, cur, hv, hg, hcap, fun j hj => by rw [cell_of_row w g j cur _ _ hg, ← htk, List.getElem?_take, if_pos hj, Array.getElem?_toList]⟩
theorem pair_ne {v0 v1 : Value} {vs : List Value} (h : (v0 :: v1 :: vs).Pairwise Dj) {i : Nat} {u : Value} {k : Nat} (hu : vs[i]? = some u) (hk : u.ownBlock = some k) : (v0.ownBlock = none ∨ v0.ownBlock ≠ some k) ∧ (v1.ownBlock = none ∨ v1.ownBlock ≠ some k) ∧ ∀ j y, vs[j]? = some y → j ≠ i → (y.ownBlock = none ∨ y.ownBlock ≠ some k) := by
  rw [List.pairwise_cons, List.pairwise_cons] at h
  obtain ⟨h0, h1, h2⟩ := h
  have hmem := List.mem_of_getElem? hu
  refine ⟨by have := h0 u (by simp [hmem]); rwa [Dj, hk] at this, by have := h1 u hmem; rwa [Dj, hk] at this, fun j y hy hne => ?_⟩
  obtain ⟨hi, ei⟩ := List.getElem?_eq_some_iff.1 hu
  obtain ⟨hj, ej⟩ := List.getElem?_eq_some_iff.1 hy
  rw [List.pairwise_iff_getElem] at h2
  rcases Nat.lt_or_gt_of_ne hne with q | q
  · have := h2 j i hj hi q
    rw [ei, ej, Dj, hk] at this; exact this
  · have := h2 i j hi hj q
    rw [ei, ej, Dj, hk] at this
    rcases this with e | e
    · cases e
    · exact .inr (fun e' => e e'.symm)
theorem psk_mem {w4 w5 : World} {B : Nat} {v0 v1 vM u : Value} {nm : List UInt8} {p0 p1 : List Int} {ms : List Ms} {vs : List Value} (h : Ow w4 B v0 v1 vM p0 p1 ms vs) {i : Nat} (hi : i < ms.length) (hu : vs[i]? = some u) {gT gM cM gN cN : Nat} (hk : u.ownBlock = some gT) (hM : vM = .slice (some ⟨gM, 0, none⟩) ms.length cM)
    (hg : w4.grownBy w5 (some gT)) {t' : List Int} (hN : gN = gT ∨ w4.heap.size ≤ gN) (ht : IntsV w5 (some ⟨gN, 0, none⟩) t') :
    w5.cell? ⟨gM, i * 2 + 1, none⟩ = some u ∧ w5.frozen? ⟨gM, i * 2 + 1, none⟩ = false ∧ w5.heap[gM]? = w4.heap[gM]? ∧
    ∃ x, Value.agg #[.string ⟨nm.toArray⟩, v0, v1, vM] = patV x ⟨nm, p0, p1, ms.set i ⟨(ms.getD i default).fr, t'⟩⟩ ∧ PatA (w5.setCell ⟨gM, i * 2 + 1, none⟩ (.slice (some ⟨gN, 0, none⟩) t'.length cN)) x ⟨nm, p0, p1, ms.set i ⟨(ms.getD i default).fr, t'⟩⟩ := by
  have hne : (3 : TypeId) ≠ 55 := by decide
  obtain ⟨n0, n1, nj⟩ := pair_ne h.dj hu hk
  have hmT : some gM ≠ some gT := by
    have h1 := own_apart (h.ot i u hu) h.om hne
    rw [hk, hM] at h1
    rcases h1 with e | e
    · cases e
    · exact fun q => e q.symm
  have lM : gM < w4.heap.size := (h.om.lt gM (by rw [hM]; rfl)).2
  have lT : gT < w4.heap.size := ((h.ot i u hu).lt gT hk).2
  have a0 := own_grown h.o0 hg n0
  have a1 := own_grown h.o1 hg n1
  have aM := own_grown h.om hg (by rw [hM]; exact .inr hmT)
  obtain ⟨g', c', cur, e', hcur, hcap, hcell⟩ := own_get aM (by omega)
  rw [hM] at e'
  cases e'
  have hms5 : ∀ j, j < ms.length * 2 → w5.cell? ⟨gM, j, none⟩ = (msC ms vs)[j]? := hcell
  obtain ⟨_, ei2⟩ := msC_at ms vs i h.ln hi
  have ci := (hms5 (i * 2 + 1) (by omega)).trans (ei2.trans hu)
  refine ⟨ci, frozen_of_row _ _ _ _ _ hcur, hg.block gM lM hmT, ?_⟩
  have b0 := own_setT a0 hcur (fun e => hne e.symm) (.slice (some ⟨gN, 0, none⟩) t'.length cN) (o := i * 2 + 1)
  have b1 := own_setT a1 hcur (fun e => hne e.symm) (.slice (some ⟨gN, 0, none⟩) t'.length cN) (o := i * 2 + 1)
  obtain ⟨s0, c0, e0, q0⟩ := ints_own b0
  obtain ⟨s1, c1, e1, q1⟩ := ints_own b1
  refine ⟨⟨s0, c0, s1, c1, some ⟨gM, 0, none⟩, cM⟩, ?_, q0, q1, ?_, by simpa using hcap⟩
  · rw [e0, e1, hM]; simp [patV]
  · intro _
    refine ⟨gM, 0, rfl, fun k hk' => ?_⟩
    have hk2 : k < ms.length := by simpa using hk'
    obtain ⟨f1, f2⟩ := msC_at ms vs k h.ln hk2
    rw [Nat.zero_add]
    by_cases hik : k = i
    · subst hik
      have e : (ms.set k ⟨(ms.getD k default).fr, t'⟩).getD k default = ⟨(ms.getD k default).fr, t'⟩ := by
        rw [List.getD_eq_getElem?_getD, List.getElem?_set_self hk2]; rfl
      simp only [e]
      refine ⟨?_, some ⟨gN, 0, none⟩, cN, ?_, ?_⟩
      · rw [World.cell?_setCell_other _ _ _ _ (by simp)]
        exact (hms5 (k * 2) (by omega)).trans f1
      · exact World.cell?_setCell_same _ _ _ ci
      · intro ht0
        obtain ⟨gl, ol, eg, hI⟩ := ht ht0
        refine ⟨gl, ol, eg, fun j hj => ?_⟩
        have hgl : gl = gN := by cases eg; rfl
        have : gl ≠ gM := by
          rw [hgl]
          rcases hN with e | e
          · rw [e]; exact fun q => hmT (by rw [q])
          · omega
        rw [World.cell?_setCell_other _ _ _ _ (by intro e; exact this (congrArg Addr.block e).symm)]
        exact hI j hj
    · have e : (ms.set i ⟨(ms.getD i default).fr, t'⟩).getD k default = ms.getD k default := by
        simp only [List.getD_eq_getElem?_getD]; rw [List.getElem?_set_ne (fun q => hik q.symm)]
      rw [e]
      obtain ⟨y, hy⟩ : ∃ y, vs[k]? = some y := ⟨vs[k]'(by rw [h.ln]; exact hk2), List.getElem?_eq_getElem _⟩
      have ay := own_setT (own_grown (h.ot k y hy) hg (nj k y hy hik)) hcur (fun e => hne e.symm) (.slice (some ⟨gN, 0, none⟩) t'.length cN) (o := i * 2 + 1)
      obtain ⟨sy, cy, ey, qy⟩ := ints_own ay
      refine ⟨?_, sy, cy, ?_, qy⟩
      · rw [World.cell?_setCell_other _ _ _ _ (by intro e; simp at e <;> omega)]
        exact (hms5 (k * 2) (by omega)).trans f1
      · rw [World.cell?_setCell_other _ _ _ _ (by intro e; simp at e <;> omega), hms5 (k * 2 + 1) (by omega), f2, hy, ey]
end Go.Proofs.YtjnijppghgemeaaDoor
