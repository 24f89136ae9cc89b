/- Layer 3: rows of bools; what the reference's Can answers, as far as it is. -/
import Derived.Test.YtlckajnbmkkpeaaDoorZa
import Derived.Deep.OwnRows
namespace Go.Proofs.YtlckajnbmkkpeaaDoor
open Go.RowKit Go.Maps

/-- A row of bools that is a block of its own. -/
def BR (w : World) (g : Nat) (l : List Bool) : Prop := w.heap[g]? = some (.cells (l.map Value.bool).toArray 4 (0, 0))
theorem BR.at_ {w : World} {g : Nat} {l : List Bool} (h : BR w g l) : boolsAt w g l := fun i hi => by
  rw [cell_of_row w g i _ _ _ h]
  simp [List.getD, hi]
theorem BR.lt {w : World} {g : Nat} {l : List Bool} (h : BR w g l) : g < w.heap.size := lt_of_heap h
theorem BR.keep {w w' : World} {g : Nat} {l : List Bool} (h : BR w g l) (hk : w'.heap[g]? = w.heap[g]?) : BR w' g l := hk.trans h
theorem BR.froz {w : World} {g i : Nat} {l : List Bool} (h : BR w g l) : w.frozen? ⟨g, i, none⟩ = false := by
  have h' : w.heap[g]? = _ := h
  simp [World.frozen?, h']
theorem BR.set {w : World} {g i : Nat} {l : List Bool} (h : BR w g l) (b : Bool) : BR (w.setCell ⟨g, i, none⟩ (.bool b)) g (l.set i b) := by
  have hlt := h.lt
  unfold BR at h ⊢
  simp [World.setCell, h, Array.getElem?_modify]
theorem rep_getD (l : List Bool) (m i : Nat) : (l ++ List.replicate m false).getD i false = l.getD i false := by
  rw [List.getD_eq_getElem?_getD, List.getD_eq_getElem?_getD]
  rcases Nat.lt_or_ge i l.length with e | e
  · rw [List.getElem?_append_left e]
  · rw [List.getElem?_append_right e, List.getElem?_eq_none e, List.getElem?_replicate]
    split <;> rfl
theorem rpub_rep (L : List Nd) (k l : List Bool) (m : Nat) (x : Int) : rpub L k (l ++ List.replicate m false) x = rpub L k l x := by unfold rpub; rw [rep_getD]
theorem rstep_rep (L : List Nd) (k l : List Bool) (m i : Nat) : rstep L k (l ++ List.replicate m false) i = rstep L k l i := by unfold rstep; simp only [rep_getD, rpub_rep]
/-- The row of answers, as far as it is. -/
def rfull (L : List Nd) (k : List Bool) (i : Nat) : List Bool := rcan L k i ++ List.replicate (L.length - i) false
theorem rfull_zero (L : List Nd) (k : List Bool) : rfull L k 0 = List.replicate L.length false := by simp [rfull, rcan]
theorem rfull_end (L : List Nd) (k : List Bool) : rfull L k L.length = rcan L k L.length := by simp [rfull]
theorem rfull_len {L : List Nd} {k : List Bool} {i : Nat} (h : i ≤ L.length) : (rfull L k i).length = L.length := by simp [rfull, rcan_len]; omega
theorem rfull_succ {L : List Nd} {k : List Bool} {i : Nat} (h : i < L.length) : (rfull L k i).set i (rstep L k (rfull L k i) i) = rfull L k (i + 1) := by
  unfold rfull
  rw [rstep_rep, rcan, List.set_append_right _ _ (by rw [rcan_len]; omega), rcan_len, Nat.sub_self, show L.length - i = (L.length - (i + 1)) + 1 by omega, List.replicate_succ]
  simp
theorem Tryd.infoB : (Tryd.prog.info? 4).map (fun i => (i.zero, i.size, i.bytes)) = some (some (.bool false), 1, 1) := by kernel_rfl
theorem made_bools (n : Nat) : (madeCells #[.bool false] n) = ((List.replicate n false).map Value.bool).toArray := by
  rw [← Array.toArray_toList (xs := madeCells #[.bool false] n), toList_madeCells_one, List.map_replicate]
/-- A row of bools that has room. -/
def Ob (w : World) (g c : Nat) (l : List Bool) : Prop := w.ownsRow 0 4 1 (.slice (some ⟨g, 0, none⟩) l.length c) l.length (l.map Value.bool)
theorem Ob.at_ {w : World} {g c : Nat} {l : List Bool} (h : Ob w g c l) : boolsAt w g l := fun i hi => by
  rw [World.ownsRow.cellAt h i (by omega), List.getElem?_map, List.getElem?_eq_getElem hi, List.getD_eq_getElem?_getD, List.getElem?_eq_getElem hi]; rfl
theorem Ob.lt {w : World} {g c : Nat} {l : List Bool} (h : Ob w g c l) : g < w.heap.size := (World.ownsRow.lt h g rfl).2
theorem Ob.keep {w w' : World} {g c : Nat} {l : List Bool} (h : Ob w g c l) (hk : w'.heap[g]? = w.heap[g]?) : Ob w' g c l := ownsRow_same h (fun k hk' => by
  have hk' : some g = some k := hk'
  obtain rfl := Option.some.inj hk'
  exact hk)
theorem Ob.froz {w : World} {g c : Nat} {l : List Bool} (h : Ob w g c l) (i : Nat) : w.frozen? ⟨g, i, none⟩ = false := World.ownsRow.frozenAt h i
theorem Ob.set {w : World} {g c : Nat} {l : List Bool} (h : Ob w g c l) (i : Nat) (b : Bool) : Ob (w.setCell ⟨g, i, none⟩ (.bool b)) g c (l.set i b) := by
  have := (World.ownsRow.stored h i (.bool b)).1
  unfold Ob
  rw [List.length_set, List.map_set]; exact this
/-- What the reference's Can does. -/
def CanF : Prop := ∀ (L : List Nd) (k : List Bool) (gr capr lim gn ck : Nat) (w : World), WF L → rowAt w gr L → boolsAt w gn k → gn < w.heap.size → k.length = L.length → gr < w.heap.size → L.length ≤ 1000 →
    Calls Tryd.prog 71 #[.agg #[.int .i64 lim, .slice (some ⟨gr, 0, none⟩) L.length capr], .slice (some ⟨gn, 0, none⟩) L.length ck] w fun e w' => ∃ go, e = .returned (.slice (some ⟨go, 0, none⟩) L.length L.length) ∧ w.heap.size ≤ go ∧ BR w' go (rcan L k L.length) ∧ Below w.heap.size w w'
end Go.Proofs.YtlckajnbmkkpeaaDoor
