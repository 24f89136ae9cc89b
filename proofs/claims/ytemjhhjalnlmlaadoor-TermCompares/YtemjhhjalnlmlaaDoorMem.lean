/- Rows of nodes in memory: five cells each. -/
import Derived.Test.YtemjhhjalnlmlaaDoorWe
import Derived.Deep.AppendLies
namespace Go.Proofs.YtemjhhjalnlmlaaDoor
open Go.RowKit

def vals (d : Nd) : List Value := [.int .i64 d.k, .int .u64 d.n, .int .i64 d.a, .int .i64 d.b, .int .i64 d.c]
def cells : List Nd → List Value
  | [] => []
  | d :: r => vals d ++ cells r
theorem cells_length : ∀ L : List Nd, (cells L).length = L.length * 5
  | [] => rfl
  | d :: r => by simp only [cells, List.length_append, cells_length r, List.length_cons]; simp [vals]; omega
theorem cells_append : ∀ L M : List Nd, cells (L ++ M) = cells L ++ cells M
  | [], _ => rfl
  | d :: r, M => by simp only [List.cons_append, cells, cells_append r M, List.append_assoc]
theorem cells_one (d : Nd) : cells [d] = vals d := by simp [cells]
theorem cells_oneCell : ∀ (L : List Nd) (u : Value), u ∈ cells L → u.oneCell' = true := by
  intro L
  induction L with
  | nil => intro u h; simp [cells] at h
  | cons d r ih =>
    intro u h
    rw [cells, List.mem_append] at h
    rcases h with h | h
    · simp only [vals, List.mem_cons, List.not_mem_nil, or_false] at h
      rcases h with rfl | rfl | rfl | rfl | rfl <;> rfl
    · exact ih u h
theorem cells_at : ∀ (L : List Nd) (i r : Nat), i < L.length → r < 5 → (cells L)[i * 5 + r]? = (vals (L.getD i zN))[r]? := by
  intro L
  induction L with
  | nil => intro i r h; simp at h
  | cons d t ih =>
    intro i r hi hr
    cases i with
    | zero =>
      simp only [cells, Nat.zero_mul, Nat.zero_add, List.getD_cons_zero]
      rw [List.getElem?_append_left (by simp [vals]; omega)]
    | succ i =>
      simp only [cells, List.getD_cons_succ]
      rw [List.getElem?_append_right (by simp [vals]; omega)]
      rw [← ih i r (by simpa using hi) hr]
      congr 1
      simp [vals]; omega

theorem add_off (g j : Nat) : (⟨g, 0, none⟩ : Addr).add j = ⟨g, j, none⟩ := by unfold Addr.add; split <;> simp_all

theorem rowAt_of {w : World} {g : Nat} {L : List Nd} (h : ∀ j u, (cells L)[j]? = some u → w.cell? ((⟨g, 0, none⟩ : Addr).add j) = some u) : rowAt w g L := by
  intro i hi
  have key : ∀ r u, r < 5 → (vals (L.getD i zN))[r]? = some u → w.cell? ⟨g, i * 5 + r, none⟩ = some u := fun r u hr hu => by
    have := h (i * 5 + r) u (by rw [cells_at L i r hi hr]; exact hu)
    rw [add_off] at this; exact this
  exact ⟨key 0 _ (by omega) rfl, key 1 _ (by omega) rfl, key 2 _ (by omega) rfl, key 3 _ (by omega) rfl, key 4 _ (by omega) rfl⟩

theorem rowAt.news {w : World} {g : Nat} {L : List Nd} (h : rowAt w g L) : ∀ j u, (cells L)[j]? = some u → w.cell? ((⟨g, 0, none⟩ : Addr).add j) = some u := by
  intro j u hu
  have hj : j < (cells L).length := by
    rcases Nat.lt_or_ge j (cells L).length with h1 | h1
    · exact h1
    · rw [List.getElem?_eq_none h1] at hu; cases hu
  rw [cells_length] at hj
  have hi : j / 5 < L.length := by omega
  have hr : j % 5 < 5 := Nat.mod_lt _ (by omega)
  have he : j / 5 * 5 + j % 5 = j := by omega
  have ha := cells_at L (j / 5) (j % 5) hi hr
  rw [he, hu] at ha
  obtain ⟨h0, h1, h2, h3, h4⟩ := h (j / 5) hi
  rw [add_off, ← he]
  generalize j / 5 = i at *
  generalize hq : j % 5 = r at *
  match r, hr with
  | 0, _ => simp [vals] at ha; rw [ha]; exact h0
  | 1, _ => simp [vals] at ha; rw [ha]; exact h1
  | 2, _ => simp [vals] at ha; rw [ha]; exact h2
  | 3, _ => simp [vals] at ha; rw [ha]; exact h3
  | 4, _ => simp [vals] at ha; rw [ha]; exact h4

theorem ownsRow_row {w : World} {base e g n cap : Nat} {L : List Nd} (h : w.ownsRow base e 5 (.slice (some ⟨g, 0, none⟩) n cap) n (cells L)) : rowAt w g L :=
  rowAt_of fun j u hu => h.cells (g := g) rfl j u hu

theorem ownsRow_empty {w : World} {e B : Nat} (h : w.heap[B]? = some (.cells #[] e (0, 0))) : w.ownsRow 0 e 5 (.slice (some ⟨B, 0, none⟩) 0 0) 0 [] :=
  ⟨by simp, .inr ⟨B, 0, #[], rfl, Nat.zero_le _, h, Nat.le_refl _, by simp [maxLen], by simp, by simp⟩⟩

theorem Tryd.info33 : (Tryd.prog.info? 33).map (fun i => (i.zero, i.size, i.bytes)) = some (some (.agg #[.int .i64 0, .int .u64 0, .int .i64 0, .int .i64 0, .int .i64 0]), 5, 40) := by kernel_rfl
theorem Tryd.info36 : (Tryd.prog.info? 36).map (fun i => (i.zero, i.size, i.bytes)) = some (some (.agg #[.int .i64 0, .int .u64 0, .int .i64 0, .int .i64 0, .int .i64 0]), 5, 40) := by kernel_rfl
end Go.Proofs.YtemjhhjalnlmlaaDoor
