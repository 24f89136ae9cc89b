/- The walk of a term's rows: the closure that visits a ref and what it is made of. -/
import Derived.Test.YtmnmjekpndeemaaGreatDoorRb
import Derived.Lib.OwnKind
namespace Go.Proofs.YtmnmjekpndeemaaGreatDoor
open Go.RowKit Go.Maps

def fval (bi ba bv br : Nat) : Value := .func (.func 45) #[] #[.pointer (some ⟨bi, 0, none⟩), .pointer (some ⟨ba, 0, none⟩), .pointer (some ⟨bv, 0, none⟩), .pointer (some ⟨br, 0, none⟩)]
def place (acc : List Int) (x : Int) : Option Int := (px x acc).map fun i => (i : Int)
theorem place_get (acc : List Int) (x : Int) : (place acc x).getD 0 = (pz x acc : Nat) := by unfold place pz; cases px x acc <;> rfl
theorem place_isSome (acc : List Int) (x : Int) : (place acc x).isSome = decide (x ∈ acc) := by unfold place; rw [← px_isSome]; cases px x acc <;> rfl
theorem place_snoc {acc : List Int} {r : Int} (h : r ∉ acc) (x : Int) : (if x = r then some (acc.length : Int) else place acc x) = place (acc ++ [r]) x := by
  unfold place
  split
  · rename_i e; subst e; rw [px_snoc_same h]; rfl
  · rename_i e; rw [px_snoc_other e]

/-- Where the closure's variables lie, and what they hold: the rows so far. -/
structure Vi (w0 w : World) (bi ba bv br mm b : Nat) (L : List Nd) (acc : List Int) (v : Value) : Prop where
  bel : Below w0.heap.size w0 w
  ci : w.heap[bi]? = some (.cells #[.map (some mm)] 63 (0, 0))
  ca : w.heap[ba]? = some (.cells #[.pointer (some ⟨b, 0, none⟩)] 24 (0, 0))
  cv : w.heap[bv]? = some (.cells #[fval bi ba bv br] 91 (0, 0))
  cr : w.heap[br]? = some (.cells #[v] 56 (0, 0))
  own : w.ownsRow w0.heap.size 3 1 v acc.length (acc.map (Value.int .i64))
  mp : MapZ w mm acc.length (place acc)
  gr : w0.heap.size ≤ br
  gm : w0.heap.size ≤ mm
  ok : Acc L acc

/-- What a visit leaves as it was. -/
structure FrV (w w' : World) (br mm : Nat) (v v' : Value) : Prop where
  size : w.heap.size ≤ w'.heap.size
  kept : ∀ k, k < w.heap.size → k ≠ br → k ≠ mm → v.ownBlock ≠ some k → w'.heap[k]? = w.heap[k]?
  at_ : ∀ k, v'.ownBlock = some k → v.ownBlock = some k ∨ w.heap.size ≤ k
theorem FrV.refl (w : World) (br mm : Nat) (v : Value) : FrV w w br mm v v := ⟨Nat.le_refl _, fun _ _ _ _ _ => rfl, fun _ h => .inl h⟩
theorem FrV.trans {w w1 w2 : World} {br mm : Nat} {v v1 v2 : Value} (h : FrV w w1 br mm v v1) (h' : FrV w1 w2 br mm v1 v2) : FrV w w2 br mm v v2 := by
  have hs := h.size
  have hs' := h'.size
  refine ⟨by omega, fun k hk n1 n2 n3 => ?_, fun k hk => ?_⟩
  · rw [h'.kept k (by omega) n1 n2 (fun e => by rcases h.at_ k e with e' | e'; exact n3 e'; omega)]
    exact h.kept k hk n1 n2 n3
  · rcases h'.at_ k hk with e | e
    · exact h.at_ k e
    · exact .inr (by omega)
theorem FrV.below {w w' : World} {br mm : Nat} {v : Value} (h : Below w.heap.size w w') : FrV w w' br mm v v := ⟨h.size, fun k hk _ _ _ => h.block k hk, fun _ h => .inl h⟩

section
variable {w0 w w' : World} {bi ba bv br mm b : Nat} {L : List Nd} {acc : List Int} {v : Value}
theorem Vi.keep (h : Vi w0 w bi ba bv br mm b L acc v) (hb : Below w.heap.size w w') : Vi w0 w' bi ba bv br mm b L acc v := by
  exact ⟨h.bel.trans (hb.mono h.bel.size), (hb.block _ (lt_of_heap h.ci)).trans h.ci, (hb.block _ (lt_of_heap h.ca)).trans h.ca, (hb.block _ (lt_of_heap h.cv)).trans h.cv, (hb.block _ (lt_of_heap h.cr)).trans h.cr, row_below h.own hb, h.mp.keep (hb.block _ h.mp.lt), h.gr, h.gm, h.ok⟩

/-- A new row: the map is told of it, then the list. -/
theorem Vi.push (h : Vi w0 w bi ba bv br mm b L acc v) {r : Int} (hr : r ∉ acc) (ha : Acc L (acc ++ [r])) {w6 : World} (hm : MapZ w6 mm (acc.length + 1) (fun y => if y = r then some (acc.length : Int) else place acc y)) (ht : w.mapTurned w6 mm)
    {o : Obj} {v' : Value} {w7 : World} (hown : w7.ownsRow w0.heap.size 3 1 v' (acc.length + 1) ((acc.map (Value.int .i64)) ++ [.int .i64 r])) (hgr : (w6.alloc o).grownBy w7 v.ownBlock) (hat : ∀ k, v'.ownBlock = some k → v.ownBlock = some k ∨ (w6.alloc o).heap.size ≤ k) :
    Vi w0 (w7.setCell ⟨br, 0, none⟩ v') bi ba bv br mm b L (acc ++ [r]) v' ∧ FrV w (w7.setCell ⟨br, 0, none⟩ v') br mm v v' := by
  have hv := h.cr
  have hown0 := h.own
  obtain ⟨es, c, hobj⟩ := h.mp.obj
  have hg := ht.grown
  have k1 := Lib.ownsRow_kind hown0
  have k2 := Lib.ownsRow_kind hown
  have ne1 : ∀ {k : Nat} {u : Array Value} {t : TypeId} {z : Nat × Nat}, w.heap[k]? = some (.cells u t z) → k ≠ mm := fun hk e => by
    subst e; rw [hk] at hobj; cases hobj
  have up : ∀ {k : Nat} {u : Array Value} {t : TypeId}, t ≠ 3 → w.heap[k]? = some (.cells u t (0, 0)) → w7.heap[k]? = some (.cells u t (0, 0)) := fun {k u t} htne hk => by
    have hlt := lt_of_heap hk
    have e6 : w6.heap[k]? = some (.cells u t (0, 0)) := (hg.block k hlt (by simpa using ne1 hk)).trans hk
    have eX : (w6.alloc o).heap[k]? = some (.cells u t (0, 0)) := by rw [Below.heap_alloc _ _ _ (lt_of_heap e6)]; exact e6
    rw [hgr.block k (lt_of_heap eX) ?_]; exact eX
    intro e
    obtain ⟨c', fz, hc⟩ := k1 k e.symm
    rw [hk] at hc
    simp only [Option.some.injEq, Obj.cells.injEq] at hc
    exact htne hc.2.1
  have hbrv := up (by decide) hv
  have set : ∀ {k : Nat}, k ≠ br → (w7.setCell ⟨br, 0, none⟩ v').heap[k]? = w7.heap[k]? := fun {k} hk => heap_setCell_other _ _ _ _ (by simpa using hk)
  have ne2 : ∀ {k : Nat} {u : Array Value} {t : TypeId}, t ≠ 56 → w.heap[k]? = some (.cells u t (0, 0)) → k ≠ br := fun htne hk e => by
    subst e; rw [hk] at hv
    simp only [Option.some.injEq, Obj.cells.injEq] at hv
    exact htne hv.2.1
  have hbel7 : Below w0.heap.size w0 w7 := by
    have h6 : Below w0.heap.size w0 w6 := h.bel.grown hg h.bel.size (fun k e => by simp at e; have := h.gm; omega)
    exact (h6.alloc h6.size o).grown hgr (by have := h6.size; simp; omega) (fun k e => (hown0.lt k e).1)
  have hm7 : w7.heap[mm]? = w6.heap[mm]? := by
    have hlt : mm < w6.heap.size := hm.lt
    rw [hgr.block mm (by simp; omega) ?_, Below.heap_alloc _ _ _ hlt]
    intro e
    obtain ⟨c', fz, hc⟩ := k1 mm e.symm
    rw [hobj] at hc; cases hc
  have hmbr : mm ≠ br := fun e => ne1 hv e.symm
  have hs6 := hg.size
  have hs7 := hgr.size
  rw [World.size_alloc] at hs7 hat
  refine ⟨⟨?_, ?_, ?_, ?_, one_setCell hbrv, ?_, ?_, h.gr, h.gm, ha⟩, ⟨by simp; omega, ?_, fun k hk => ?_⟩⟩
  · exact hbel7.setCell (by simpa using h.gr) _
  · rw [set (ne2 (by decide) h.ci)]; exact up (by decide) h.ci
  · rw [set (ne2 (by decide) h.ca)]; exact up (by decide) h.ca
  · rw [set (ne2 (by decide) h.cv)]; exact up (by decide) h.cv
  · have e2 := ownsRow_setCell_other hown (a := ⟨br, 0, none⟩) (fun e => by
      obtain ⟨c', fz, hc⟩ := k2 br e
      rw [hbrv] at hc
      simp at hc) v'
    simpa using e2
  · refine MapZ.keep ?_ ((set hmbr).trans hm7)
    obtain ⟨D, hD, hR⟩ := hm
    exact ⟨D, by simpa using hD, hR.congr (place_snoc hr)⟩
  · intro k hk n1 n2 n3
    rw [set n1, hgr.block k (by simp; omega) (Ne.symm n3), Below.heap_alloc _ _ _ (by omega)]
    exact hg.block k hk (by simpa using n2)
  · rcases hat k hk with e | e
    · exact .inl e
    · exact .inr (by omega)
end

def VPost (w0 w : World) (bi ba bv br mm b : Nat) (L : List Nd) (acc : List Int) (v : Value) (e : Ending) (w' : World) : Prop :=
  e = .returned (.tuple #[]) ∧ ∃ v', Vi w0 w' bi ba bv br mm b L acc v' ∧ FrV w w' br mm v v'
end Go.Proofs.YtmnmjekpndeemaaGreatDoor
