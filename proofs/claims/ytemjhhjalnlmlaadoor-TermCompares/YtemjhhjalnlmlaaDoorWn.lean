/- Walks: the reference's New and Share; the law's One. -/
import Derived.Test.YtemjhhjalnlmlaaDoorWm
namespace Go.Proofs.YtemjhhjalnlmlaaDoor
open Go.RowKit Go.Maps

/-- The reference's arena as a value, its row in memory, all made since w. -/
structure Rf (w wi : World) (g : Nat) (L : List Nd) : Prop where
  row : rowAt wi g L
  lt : g < wi.heap.size
  ge : w.heap.size ≤ g

def RefNew (x : Int) (w : World) (e : Ending) (w' : World) : Prop :=
  ∃ g, e = .returned (.agg #[.int .i64 (limZ x), .slice (some ⟨g, 0, none⟩) 1 1]) ∧ Rf w w' g [zN] ∧ Below w.heap.size w w'

theorem refNew_close {x l : Int} {w w' : World} {g : Nat} (hl : ((limZ x : Nat) : Int) = l) (hrow : w'.heap[g]? = some (.cells #[.int .i64 0, .int .u64 0, .int .i64 0, .int .i64 0, .int .i64 0] 36 (0, 0))) (hg : w.heap.size ≤ g) (hB : Below w.heap.size w w') :
    RefNew x w (.returned (.agg #[.int .i64 l, .slice (some ⟨g, 0, none⟩) 1 1])) w' := by
  subst hl
  refine ⟨g, rfl, ⟨?_, lt_of_heap hrow, hg⟩, hB⟩
  intro i hi
  obtain rfl : i = 0 := by simp at hi; exact hi
  refine ⟨?_, ?_, ?_, ?_, ?_⟩ <;> (rw [cell_of_row w' g _ _ _ _ hrow]; rfl)

set_option maxHeartbeats 1000000 in
theorem refNew_any (x : Int) (w : World) : Calls Tryd.prog 27 #[.int .i64 x] w (RefNew x w) := by
  by_cases h1 : x < 1
  · go_enter Tryd.func27, Tryd.ntmps27
    go_wp2
    refine bodyPost_ret (v := .agg #[.int .i64 1, .slice (some ⟨w.heap.size + 1, 0, none⟩) 1 1]) (by simp [results, Tryd.results27, go_sem]) rfl ?_
    exact refNew_close (by rw [limZ_cast]; omega) (by simpa using heap_alloc_new (w.alloc _) _) (by omega) ((((Below.refl _ _).alloc (Nat.le_refl _) _)).alloc (by simp) _)
  · have h2 : decide (x < 1) = false := by simpa using h1
    by_cases h3 : 65536 < x
    · go_enter Tryd.func27, Tryd.ntmps27
      go_wp2
      refine bodyPost_ret (v := .agg #[.int .i64 65536, .slice (some ⟨w.heap.size + 1, 0, none⟩) 1 1]) (by simp [results, Tryd.results27, go_sem]) rfl ?_
      exact refNew_close (by rw [limZ_cast]; omega) (by simpa using heap_alloc_new (w.alloc _) _) (by omega) ((((Below.refl _ _).alloc (Nat.le_refl _) _)).alloc (by simp) _)
    · have h4 : decide (65536 < x) = false := by simpa using h3
      go_enter Tryd.func27, Tryd.ntmps27
      go_wp2
      refine bodyPost_ret (v := .agg #[.int .i64 x, .slice (some ⟨w.heap.size + 1, 0, none⟩) 1 1]) (by simp [results, Tryd.results27, go_sem]) rfl ?_
      exact refNew_close (by rw [limZ_cast]; omega) (by simpa using heap_alloc_new (w.alloc _) _) (by omega) ((((Below.refl _ _).alloc (Nat.le_refl _) _)).alloc (by simp) _)

set_option maxHeartbeats 400000 in
theorem one_any (k n a b c : Int) (w : World) :
    Calls Tryd.prog 15 #[.agg #[.int .i64 k, .int .u64 n, .int .i64 a, .int .i64 b, .int .i64 c]] w fun e w' => e = .returned (.agg #[.int .i64 k, .int .u64 n, .int .i64 a, .int .i64 b, .int .i64 c]) ∧
      (w.alloc (.cells #[.int .i64 k, .int .u64 n, .int .i64 a, .int .i64 b, .int .i64 c] 33)).alloc (.cells #[.int .i64 k, .int .u64 n, .int .i64 a, .int .i64 b, .int .i64 c] 36) = w' := by
  go_enter Tryd.func15, Tryd.ntmps15
  go_wp2
  exact bodyPost_ret (v := .agg #[.int .i64 k, .int .u64 n, .int .i64 a, .int .i64 b, .int .i64 c]) (by simp [results, Tryd.results15, go_sem]) rfl ⟨rfl, rfl⟩

def RefSh (lim : Nat) (L : List Nd) (x y : Int) (w : World) (e : Ending) (w' : World) : Prop :=
  ∃ g' cap', e = .returned (.tuple #[.agg #[.int .i64 lim, .slice (some ⟨g', 0, none⟩) (shL lim L x y).length cap'], .int .i64 (shR lim L x y), .int .i64 (shE lim L x y)]) ∧ rowAt w' g' (shL lim L x y) ∧ g' < w'.heap.size ∧ Below w.heap.size w w'

theorem refSh_close {lim g' cap' : Nat} {L : List Nd} {x y : Int} {d : Nd} {w w' : World} {p : Nat} (hbo : both L x y = true) (hd : shN L x y = d) (hrow : rowAt w' g' (mkL lim L d)) (hlt : g' < w'.heap.size) (hgp : g' ≠ p) (hB : Below w.heap.size w w') (hp : w.heap.size ≤ p) (u v : Value) :
    RefSh lim L x y w (.returned (.tuple #[.agg #[.int .i64 lim, .slice (some ⟨g', 0, none⟩) (mkL lim L d).length cap'], .int .i64 (mkR lim L d), .int .i64 (mkE lim L d)])) ((w'.setCell ⟨p, 0, none⟩ u).setCell ⟨p, 1, none⟩ v) := by
  subst hd
  unfold RefSh shL shR shE
  rw [if_pos hbo, if_pos hbo, if_pos hbo]
  exact ⟨g', cap', rfl, hrow.keep (set2_block _ _ _ _ _ hgp), by rw [set2_size]; exact hlt, set2_below hB hp _ _⟩
end Go.Proofs.YtemjhhjalnlmlaaDoor
