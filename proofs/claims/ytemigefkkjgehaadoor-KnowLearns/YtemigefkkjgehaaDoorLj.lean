/- Layer 3, plain: how a row of what is known, in order, is gone through beside the arena. -/
import Derived.Test.YtemigefkkjgehaaDoorPa
namespace Go.Proofs.YtemigefkkjgehaaDoor

/-- The first a of ss are those below k. -/
def AtK (ss : List Int) (k a : Nat) : Prop := a ≤ ss.length ∧ ∀ j : Nat, j < ss.length → (j < a ↔ ss.getD j 0 < k)
theorem getS_lt {ss : List Int} (h : ss.Pairwise (· < ·)) {i j : Nat} (hij : i < j) (hj : j < ss.length) : ss.getD i 0 < ss.getD j 0 := by
  rw [List.getD_eq_getElem?_getD, List.getD_eq_getElem?_getD, List.getElem?_eq_getElem hj, List.getElem?_eq_getElem (show i < ss.length by omega)]
  exact List.pairwise_iff_getElem.1 h i j (by omega) hj hij
theorem getS_mem {ss : List Int} {j : Nat} (hj : j < ss.length) : ss.getD j 0 ∈ ss := by
  rw [List.getD_eq_getElem?_getD, List.getElem?_eq_getElem hj]
  exact List.getElem_mem hj
theorem AtK.start {ss : List Int} (h : ∀ x ∈ ss, 0 ≤ x) : AtK ss 0 0 := ⟨Nat.zero_le _, fun j hj => by
  have := h _ (getS_mem hj)
  constructor
  · intro h; omega
  · intro h; omega⟩
theorem AtK.yes {ss : List Int} (hp : ss.Pairwise (· < ·)) {k a : Nat} (h : AtK ss k a) (hk : (k : Int) ∈ ss) : a < ss.length ∧ ss.getD a 0 = k ∧ AtK ss (k + 1) (a + 1) := by
  obtain ⟨j, hj, e⟩ := List.getElem_of_mem hk
  have e' : ss.getD j 0 = k := by rw [List.getD_eq_getElem?_getD, List.getElem?_eq_getElem hj]; exact e
  have h1 : ¬ j < a := fun hja => by have := (h.2 j hj).1 hja; omega
  have hja : j = a := by
    rcases Nat.lt_trichotomy j a with h2 | h2 | h2
    · exact absurd h2 h1
    · exact h2
    · have h3 := getS_lt hp h2 hj
      have h4 := (h.2 a (by omega)).2 (by omega)
      omega
  subst hja
  refine ⟨hj, e', by omega, fun i hi => ?_⟩
  constructor
  · intro hia
    rcases Nat.lt_or_ge i j with h2 | h2
    · have := (h.2 i hi).1 h2; omega
    · obtain rfl : i = j := by omega
      omega
  · intro hik
    rcases Nat.lt_or_ge j i with h2 | h2
    · have := getS_lt hp h2 hi; omega
    · omega
theorem AtK.no {ss : List Int} {k a : Nat} (h : AtK ss k a) (hk : ¬ (k : Int) ∈ ss) : AtK ss (k + 1) a := ⟨h.1, fun j hj => by
  rw [h.2 j hj]
  have : ss.getD j 0 ≠ k := fun e => hk (e ▸ getS_mem hj)
  omega⟩
theorem AtK.all {ss : List Int} {k a : Nat} (h : AtK ss k a) (hk : ∀ x ∈ ss, x < k) : a = ss.length := by
  rcases Nat.lt_or_ge a ss.length with h1 | h1
  · have := (h.2 a h1).2 (hk _ (getS_mem h1)); omega
  · exact Nat.le_antisymm h.1 h1

theorem ge_pos {ss : List Int} (hp : ss.Pairwise (· < ·)) (h : ∀ x ∈ ss, 0 ≤ x) : ∀ j : Nat, j < ss.length → (j : Int) ≤ ss.getD j 0
  | 0, hj => by have := h _ (getS_mem hj); omega
  | j + 1, hj => by
    have h1 := ge_pos hp h j (by omega)
    have h2 := getS_lt hp (show j < j + 1 by omega) hj
    omega
theorem sset_len {ss : List Int} (hp : ss.Pairwise (· < ·)) {n : Nat} (h : ∀ x ∈ ss, 0 ≤ x ∧ x < n) : ss.length ≤ n := by
  rcases Nat.eq_zero_or_pos ss.length with h0 | h0
  · omega
  · have h1 := ge_pos hp (fun x hx => (h x hx).1) (ss.length - 1) (by omega)
    have h2 := (h _ (getS_mem (show ss.length - 1 < ss.length by omega))).2
    omega

/-- Of the first k of them, how many pass. -/
def thro (p : Int → Bool) (l : List Int) (k : Nat) : Nat := ((l.take k).filter p).length
theorem thro_zero (p : Int → Bool) (l : List Int) : thro p l 0 = 0 := by simp [thro]
theorem thro_all (p : Int → Bool) (l : List Int) : thro p l l.length = (l.filter p).length := by simp [thro]
theorem take_at {l : List Int} {k : Nat} (hk : k < l.length) : l.take (k + 1) = l.take k ++ [l.getD k 0] := by
  rw [List.take_add_one, List.getD_eq_getElem?_getD, List.getElem?_eq_getElem hk]; rfl
theorem thro_no {p : Int → Bool} {l : List Int} {k : Nat} (hk : k < l.length) (h : p (l.getD k 0) = false) : thro p l (k + 1) = thro p l k := by
  unfold thro
  rw [take_at hk, List.filter_append, List.filter_cons_of_neg (by rw [h]; exact Bool.false_ne_true)]
  simp
theorem thro_yes {p : Int → Bool} {l : List Int} {k : Nat} (hk : k < l.length) (h : p (l.getD k 0) = true) : thro p l (k + 1) = thro p l k + 1 ∧ thro p l k < (l.filter p).length ∧ (l.filter p).getD (thro p l k) 0 = l.getD k 0 := by
  have e : l = l.take k ++ l.getD k 0 :: l.drop (k + 1) := by
    conv => lhs; rw [← List.take_append_drop (k + 1) l, take_at hk]
    simp
  have ef : l.filter p = (l.take k).filter p ++ l.getD k 0 :: (l.drop (k + 1)).filter p := by
    conv => lhs; rw [e]
    rw [List.filter_append, List.filter_cons_of_pos h]
  refine ⟨?_, ?_, ?_⟩
  · unfold thro
    rw [take_at hk, List.filter_append, List.filter_cons_of_pos h]
    simp
  · rw [ef]; unfold thro; simp
  · rw [ef]; unfold thro; simp [List.getD_eq_getElem?_getD]
end Go.Proofs.YtemigefkkjgehaaDoor
