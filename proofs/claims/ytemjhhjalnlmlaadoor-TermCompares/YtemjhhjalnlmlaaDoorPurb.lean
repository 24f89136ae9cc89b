/- The plain mathematics of arenas, continued: which nodes may be; making a node; sharing. -/
import Derived.Test.YtemjhhjalnlmlaaDoorPure
namespace Go.Proofs.YtemjhhjalnlmlaaDoor

theorem nd_append {L M : List Nd} {x : Int} (h0 : 0 ≤ x) (h1 : x < L.length) : nd (L ++ M) x = nd L x := by
  unfold nd
  rw [List.getD_eq_getElem?_getD, List.getD_eq_getElem?_getD, List.getElem?_append_left (by omega)]

theorem both_append {L M : List Nd} {x y : Int} (hb : both L x y = true) : both (L ++ M) x y = true := by
  rw [both_iff] at *; simp only [List.length_append]; omega

theorem cmp_append {L M : List Nd} (h : WFp L) (h' : WFp (L ++ M)) (x y : Int) (hb : both L x y = true) : cmp (L ++ M) x y = cmp L x y := by
  revert hb
  refine pair_ind (P := fun x y => both L x y = true → cmp (L ++ M) x y = cmp L x y) ?_ x y
  intro x y ih hb
  have hb' := both_iff.1 hb
  have hbM := both_append (M := M) hb
  by_cases hne : x = y
  · subst hne; rw [cmp_self, cmp_self]
  · have e1 := nd_append (M := M) hb'.1.1 hb'.1.2
    have e2 := nd_append (M := M) hb'.2.1 hb'.2.2
    by_cases ht : top (nd L x) (nd L y) = 0
    · rw [cmp_deep h hne hb ht, cmp_deep h' hne hbM (by rw [e1, e2]; exact ht), e1, e2]
      exact ih _ _ (h.fd_lt hne hb ht) (h.fd_both hne hb ht)
    · rw [cmp_top hne hb ht, cmp_top hne hbM (by rw [e1, e2]; exact ht), e1, e2]

def many (k : Int) : Int := if k = 0 ∨ k = 1 ∨ k = 9 then 0 else if k = 2 then 1 else if k = 3 ∨ k = 4 ∨ k = 5 ∨ k = 6 ∨ k = 8 then 2 else if k = 7 then 3 else -1
def partOk (n : Nat) (m i p : Int) : Bool := if i < m then hasB n p else decide (p = 0)
def numOk (d : Nd) : Bool := if d.k = 6 then decide (1 ≤ d.n ∧ d.n ≤ 4) else if d.k = 1 ∨ d.k = 7 ∨ d.k = 9 then true else decide (d.n = 0)
def lastOk (L : List Nd) (d : Nd) : Bool := if d.k = 3 then decide (cmp L d.a d.b ≤ 0) else if d.k = 4 then decide ((nd L d.b).k ≠ 2) else true
def partsOk (n : Nat) (d : Nd) : Bool := partOk n (many d.k) 0 d.a && (partOk n (many d.k) 1 d.b && partOk n (many d.k) 2 d.c)
/-- May a node be? -/
def right (L : List Nd) (d : Nd) : Bool := decide (0 ≤ many d.k) && (partsOk L.length d && (numOk d && lastOk L d))

theorem right_iff {L : List Nd} {d : Nd} : right L d = true ↔ 0 ≤ many d.k ∧ partsOk L.length d = true ∧ numOk d = true ∧ lastOk L d = true := by
  unfold right; simp [Bool.and_eq_true]

theorem partOk_held {n : Nat} {m i p : Int} (hn : 0 < n) (h : partOk n m i p = true) : 0 ≤ p ∧ p < n := by
  unfold partOk at h
  split at h
  · exact hasB_iff.1 h
  · simp at h; omega
theorem partsOk_held {n : Nat} {d : Nd} (hn : 0 < n) (h : partsOk n d = true) : (0 ≤ d.a ∧ d.a < n) ∧ (0 ≤ d.b ∧ d.b < n) ∧ (0 ≤ d.c ∧ d.c < n) := by
  unfold partsOk at h
  simp only [Bool.and_eq_true] at h
  exact ⟨partOk_held hn h.1, partOk_held hn h.2.1, partOk_held hn h.2.2⟩
theorem partOk_mono {n n' : Nat} {m i p : Int} (hn : n ≤ n') (h : partOk n m i p = true) : partOk n' m i p = true := by
  unfold partOk at *
  split
  · rename_i hi
    rw [if_pos hi, hasB_iff] at h
    rw [hasB_iff]; omega
  · rename_i hi
    rw [if_neg hi] at h; exact h
theorem partsOk_mono {n n' : Nat} {d : Nd} (hn : n ≤ n') (h : partsOk n d = true) : partsOk n' d = true := by
  unfold partsOk at *
  simp only [Bool.and_eq_true] at *
  exact ⟨partOk_mono hn h.1, partOk_mono hn h.2.1, partOk_mono hn h.2.2⟩

theorem right_append {L M : List Nd} (h : WFp L) (h' : WFp (L ++ M)) {d : Nd} (hr : right L d = true) : right (L ++ M) d = true := by
  rw [right_iff] at *
  obtain ⟨h1, h2, h3, h4⟩ := hr
  have hp := partsOk_held h.pos h2
  refine ⟨h1, partsOk_mono (by simp) h2, h3, ?_⟩
  unfold lastOk at *
  rw [cmp_append h h' d.a d.b (both_iff.2 ⟨hp.1, hp.2.1⟩), nd_append hp.2.1.1 hp.2.1.2]
  exact h4

/-- Where a node stands. -/
def ix (d : Nd) : List Nd → Option Nat
  | [] => none
  | x :: r => if x = d then some 0 else (ix d r).map (· + 1)
theorem ix_some {d : Nd} : ∀ {L : List Nd} {i : Nat}, ix d L = some i → i < L.length ∧ L.getD i zN = d ∧ ∀ j, j < i → L.getD j zN ≠ d := by
  intro L
  induction L with
  | nil => intro i h; simp [ix] at h
  | cons x r ih =>
    intro i h
    unfold ix at h
    split at h
    · rename_i e
      simp at h; subst h
      exact ⟨by simp, by simpa using e, fun j hj => by omega⟩
    · rename_i e
      cases hr : ix d r with
      | none => rw [hr] at h; simp at h
      | some i' =>
        rw [hr] at h; simp at h; subst h
        obtain ⟨h1, h2, h3⟩ := ih hr
        refine ⟨by simpa using h1, by simpa using h2, fun j hj => ?_⟩
        cases j with
        | zero => simpa using e
        | succ j => simpa using h3 j (by omega)
theorem ix_none {d : Nd} : ∀ {L : List Nd}, ix d L = none → ∀ j, j < L.length → L.getD j zN ≠ d := by
  intro L
  induction L with
  | nil => intro _ j hj; simp at hj
  | cons x r ih =>
    intro h j hj
    unfold ix at h
    split at h
    · simp at h
    · rename_i e
      cases hr : ix d r with
      | some i' => rw [hr] at h; simp at h
      | none =>
        cases j with
        | zero => simpa using e
        | succ j => simpa using ih hr j (by simpa using hj)
theorem ix_of {d : Nd} {L : List Nd} {i : Nat} (hi : i < L.length) (h : L.getD i zN = d) (hf : ∀ j, j < i → L.getD j zN ≠ d) : ix d L = some i := by
  cases hx : ix d L with
  | none => exact absurd h (ix_none hx i hi)
  | some i' =>
    obtain ⟨h1, h2, h3⟩ := ix_some hx
    rcases Nat.lt_trichotomy i i' with hlt | he | hgt
    · exact absurd h (h3 i hlt)
    · rw [he]
    · exact absurd h2 (hf i' hgt)
theorem ix_no {d : Nd} {L : List Nd} (h : ∀ j, j < L.length → L.getD j zN ≠ d) : ix d L = none := by
  cases hx : ix d L with
  | none => rfl
  | some i => exact absurd (ix_some hx).2.1 (h i (ix_some hx).1)

structure WF (L : List Nd) : Prop extends WFp L where
  ok : ∀ i : Nat, i < L.length → (L.getD i zN).ok
  good : ∀ i : Nat, i < L.length → right L (L.getD i zN) = true

theorem WF.ix_at {L : List Nd} (h : WF L) {i : Nat} (hi : i < L.length) : ix (L.getD i zN) L = some i :=
  ix_of hi rfl fun j hj e => absurd (h.nodup j i (by omega) hi e) (by omega)

theorem getD_snoc_old {L : List Nd} {d : Nd} {i : Nat} (hi : i < L.length) : (L ++ [d]).getD i zN = L.getD i zN := by
  rw [List.getD_eq_getElem?_getD, List.getD_eq_getElem?_getD, List.getElem?_append_left hi]
theorem getD_snoc_new (L : List Nd) (d : Nd) : (L ++ [d]).getD L.length zN = d := by
  rw [List.getD_eq_getElem?_getD, List.getElem?_append_right (Nat.le_refl _)]; simp

theorem inAt_of {p : Int} {n : Nat} (h : 0 ≤ p ∧ p < n) : inAt p n := ⟨h.1, .inl h.2⟩

theorem WFp.snoc {L : List Nd} (h : WFp L) {d : Nd} (hp : partsOk L.length d = true) (hn : ix d L = none) : WFp (L ++ [d]) := by
  have hq := partsOk_held h.pos hp
  refine ⟨by rw [List.getElem?_append_left h.pos]; exact h.head, ?_, ?_⟩
  · intro i j hi hj he
    simp only [List.length_append, List.length_cons, List.length_nil] at hi hj
    by_cases h1 : i < L.length
    · by_cases h2 : j < L.length
      · rw [getD_snoc_old h1, getD_snoc_old h2] at he; exact h.nodup i j h1 h2 he
      · obtain rfl : j = L.length := by omega
        rw [getD_snoc_old h1, getD_snoc_new] at he
        exact absurd he (ix_none hn i h1)
    · obtain rfl : i = L.length := by omega
      by_cases h2 : j < L.length
      · rw [getD_snoc_new, getD_snoc_old h2] at he
        exact absurd he.symm (ix_none hn j h2)
      · omega
  · intro i hi
    simp only [List.length_append, List.length_cons, List.length_nil] at hi
    by_cases h1 : i < L.length
    · rw [getD_snoc_old h1]; exact h.parts i h1
    · obtain rfl : i = L.length := by omega
      rw [getD_snoc_new]
      exact ⟨inAt_of hq.1, inAt_of hq.2.1, inAt_of hq.2.2⟩

theorem WF.snoc {L : List Nd} (h : WF L) {d : Nd} (hok : d.ok) (hr : right L d = true) (hn : ix d L = none) : WF (L ++ [d]) := by
  have hp := h.toWFp.snoc (right_iff.1 hr).2.1 hn
  refine ⟨hp, ?_, ?_⟩
  · intro i hi
    simp only [List.length_append, List.length_cons, List.length_nil] at hi
    by_cases h1 : i < L.length
    · rw [getD_snoc_old h1]; exact h.ok i h1
    · obtain rfl : i = L.length := by omega
      rw [getD_snoc_new]; exact hok
  · intro i hi
    simp only [List.length_append, List.length_cons, List.length_nil] at hi
    by_cases h1 : i < L.length
    · rw [getD_snoc_old h1]; exact right_append h.toWFp hp (h.good i h1)
    · obtain rfl : i = L.length := by omega
      rw [getD_snoc_new]; exact right_append h.toWFp hp hr

theorem WF.one : WF [zN] := by
  refine ⟨⟨rfl, ?_, ?_⟩, ?_, ?_⟩
  · intro i j hi hj _; simp at hi hj; omega
  · intro i hi; simp at hi; subst hi; simp [zN, inAt]
  · intro i hi; simp at hi; subst hi; simp [zN, Nd.ok, i64ok, u64ok]
  · intro i hi; simp at hi; subst hi; simp [zN, right, many, partsOk, partOk, numOk, lastOk]

/-- Making a node: the terms behind it, the ref, the error. -/
def mkL (lim : Nat) (L : List Nd) (d : Nd) : List Nd := if right L d = true then (if (ix d L).isSome = true then L else if lim ≤ L.length then L else L ++ [d]) else L
def mkR (lim : Nat) (L : List Nd) (d : Nd) : Int := if right L d = true then (match ix d L with | some i => (i : Int) | none => if lim ≤ L.length then 0 else (L.length : Int)) else 0
def mkE (lim : Nat) (L : List Nd) (d : Nd) : Int := if right L d = true then (if (ix d L).isSome = true then 0 else if lim ≤ L.length then 3 else 0) else 1

theorem mk_wrong {lim : Nat} {L : List Nd} {d : Nd} (h : right L d = false) : mkL lim L d = L ∧ mkR lim L d = 0 ∧ mkE lim L d = 1 := by simp [mkL, mkR, mkE, h]
theorem mk_old {lim : Nat} {L : List Nd} {d : Nd} {i : Nat} (h : right L d = true) (hi : ix d L = some i) : mkL lim L d = L ∧ mkR lim L d = i ∧ mkE lim L d = 0 := by simp [mkL, mkR, mkE, h, hi]
theorem mk_full {lim : Nat} {L : List Nd} {d : Nd} (h : right L d = true) (hi : ix d L = none) (hl : lim ≤ L.length) : mkL lim L d = L ∧ mkR lim L d = 0 ∧ mkE lim L d = 3 := by simp [mkL, mkR, mkE, h, hi, hl]
theorem mk_new {lim : Nat} {L : List Nd} {d : Nd} (h : right L d = true) (hi : ix d L = none) (hl : L.length < lim) : mkL lim L d = L ++ [d] ∧ mkR lim L d = L.length ∧ mkE lim L d = 0 := by
  have hl' : ¬ lim ≤ L.length := by omega
  simp [mkL, mkR, mkE, h, hi, hl']

theorem mk_wf {lim : Nat} {L : List Nd} {d : Nd} (h : WF L) (hok : d.ok) : WF (mkL lim L d) := by
  cases hr : right L d
  · rw [(mk_wrong hr).1]; exact h
  · cases hi : ix d L with
    | some i => rw [(mk_old hr hi).1]; exact h
    | none =>
      by_cases hl : lim ≤ L.length
      · rw [(mk_full hr hi hl).1]; exact h
      · rw [(mk_new hr hi (by omega)).1]; exact h.snoc hok hr hi
theorem mk_len {lim : Nat} {L : List Nd} {d : Nd} (h : L.length ≤ lim) : L.length ≤ (mkL lim L d).length ∧ (mkL lim L d).length ≤ lim ∧ (mkL lim L d).length ≤ L.length + 1 := by
  unfold mkL
  split
  · split
    · omega
    · split
      · omega
      · simp; omega
  · omega

/-- Sharing: the node that is made. -/
def shN (L : List Nd) (x y : Int) : Nd :=
  if (nd L y).k ≠ 2 then ⟨4, 0, x, y, 0⟩ else if cmp L x (nd L y).a ≤ 0 then ⟨3, 0, x, (nd L y).a, 0⟩ else ⟨3, 0, (nd L y).a, x, 0⟩
def shL (lim : Nat) (L : List Nd) (x y : Int) : List Nd := if both L x y = true then mkL lim L (shN L x y) else L
def shR (lim : Nat) (L : List Nd) (x y : Int) : Int := if both L x y = true then mkR lim L (shN L x y) else 0
def shE (lim : Nat) (L : List Nd) (x y : Int) : Int := if both L x y = true then mkE lim L (shN L x y) else 1

theorem i64ok_of {x : Int} {n : Nat} (h : 0 ≤ x ∧ x < n) (hn : n ≤ 65536) : i64ok x := by unfold i64ok; omega
theorem shN_ok {L : List Nd} (h : WF L) (hn : L.length ≤ 65536) {x y : Int} (hb : both L x y = true) : (shN L x y).ok := by
  have hb' := both_iff.1 hb
  have hx := i64ok_of hb'.1 hn
  have hy := i64ok_of hb'.2 hn
  have hz : i64ok (nd L y).a := (h.ok y.toNat (by omega)).2.2.1
  have h3 : i64ok 3 := by simp [i64ok]
  have h4 : i64ok 4 := by simp [i64ok]
  have h0 : i64ok 0 := by simp [i64ok]
  have u0 : u64ok 0 := by simp [u64ok]
  unfold shN
  split
  · exact ⟨h4, u0, hx, hy, h0⟩
  · split
    · exact ⟨h3, u0, hx, hz, h0⟩
    · exact ⟨h3, u0, hz, hx, h0⟩
end Go.Proofs.YtemjhhjalnlmlaaDoor
