/- Layer 9: the reference's names. -/
import Derived.Test.YtahbbojhdkillaaDoorCl
namespace Go.Proofs.YtahbbojhdkillaaDoor
open Go.RowKit Go.Shelf

def nmVs (k : Nat) : List Value := (List.range k).map fun j => Value.string (tb (2 * j))
theorem nmVs_succ (k : Nat) : nmVs (k + 1) = nmVs k ++ [.string (tb (2 * k))] := by unfold nmVs; rw [List.range_succ, List.map_append]; rfl
theorem nmVs_at {k j : Nat} (h : j < k) : (nmVs k)[j]? = some (.string (tb (2 * j))) := by unfold nmVs; simp [h]
set_option maxRecDepth 100000 in
theorem nmVs_lit : (nmVs 15).toArray = #[.string ⟨#[78]⟩, .string ⟨#[75]⟩, .string ⟨#[88]⟩, .string ⟨#[78, 78]⟩, .string ⟨#[78, 75]⟩, .string ⟨#[78, 88]⟩, .string ⟨#[88, 78]⟩, .string ⟨#[88, 75]⟩, .string ⟨#[88, 88]⟩, .string ⟨#[75, 78]⟩, .string ⟨#[75, 75]⟩, .string ⟨#[75, 88]⟩, .string ⟨#[73, 78]⟩, .string ⟨#[73, 75]⟩, .string ⟨#[73, 88]⟩] := by rfl
/-- A row of the names. -/
def namesO : Obj := .cells (nmVs 15).toArray 9 (0, 0)
theorem names_at {w : World} {g k : Nat} (h : w.heap[g]? = some namesO) (hk : k < 15) : w.cell? ⟨g, k, none⟩ = some (.string (tb (2 * k))) := by
  rw [cell_of_row w g k _ _ _ h, List.getElem?_toArray]; exact nmVs_at hk
set_option maxRecDepth 100000 in
set_option maxHeartbeats 1000000 in
theorem refNames_any (w : World) : Calls Tryd.prog 10 #[] w fun e w' => e = .returned (.slice (some ⟨w.heap.size, 0, none⟩) 15 15) ∧ w'.heap[w.heap.size]? = some namesO ∧ Below w.heap.size w w' := by
  go_enter Tryd.func10, Tryd.ntmps10
  go_wp2
  go_ret
  refine ⟨rfl, ?_, (Below.refl _ _).alloc (Nat.le_refl _) _⟩
  unfold namesO
  rw [nmVs_lit]
  exact heap_alloc_new w _
theorem tb_size {k : Nat} (h : k < 15) : 1 ≤ (tb (2 * k)).size ∧ (tb (2 * k)).size ≤ 20 := by
  unfold tb; rw [arr_size, tb_nm k h]
  refine ⟨?_, (base_lens k h).1⟩
  have := base_right k h
  simp only [right, nameOk, Bool.and_eq_true, decide_eq_true_eq] at this
  exact this.1.1.1.1.1.1.1
theorem tb_data {k : Nat} (h : k < 15) : (tb (2 * k)).data.toList = (basePs.getD k zP).nm := by unfold tb; rw [tb_nm k h]
end Go.Proofs.YtahbbojhdkillaaDoor
