/- The plain mathematics of arenas: nodes, their order, which nodes may be, making and sharing. No program is named here. -/
namespace Go.Proofs.YtemjhhjalnlmlaaDoor

structure Nd where
  k : Int
  n : Int
  a : Int
  b : Int
  c : Int

theorem Nd.ext5 {x y : Nd} (h1 : x.k = y.k) (h2 : x.n = y.n) (h3 : x.a = y.a) (h4 : x.b = y.b) (h5 : x.c = y.c) : x = y := by
  cases x; cases y; simp_all

instance : DecidableEq Nd := fun x y =>
  if h : x.k = y.k ∧ x.n = y.n ∧ x.a = y.a ∧ x.b = y.b ∧ x.c = y.c then isTrue (Nd.ext5 h.1 h.2.1 h.2.2.1 h.2.2.2.1 h.2.2.2.2)
  else isFalse (fun e => h (by subst e; simp))

def zN : Nd := ⟨0, 0, 0, 0, 0⟩
def i64ok (x : Int) : Prop := -9223372036854775808 ≤ x ∧ x ≤ 9223372036854775807
def u64ok (x : Int) : Prop := 0 ≤ x ∧ x ≤ 18446744073709551615
def Nd.ok (d : Nd) : Prop := i64ok d.k ∧ u64ok d.n ∧ i64ok d.a ∧ i64ok d.b ∧ i64ok d.c

def cmpZ (x y : Int) : Int := if x < y then -1 else if y < x then 1 else 0
theorem cmpZ_lt {x y : Int} (h : x < y) : cmpZ x y = -1 := by simp [cmpZ, h]
theorem cmpZ_gt {x y : Int} (h : y < x) : cmpZ x y = 1 := by unfold cmpZ; rw [if_neg (by omega), if_pos h]
theorem cmpZ_eq (x : Int) : cmpZ x x = 0 := by simp [cmpZ]
theorem cmpZ_zero {x y : Int} : cmpZ x y = 0 ↔ x = y := by unfold cmpZ; split <;> (try split) <;> omega
theorem cmpZ_neg (x y : Int) : cmpZ x y = - cmpZ y x := by unfold cmpZ; split <;> split <;> (try split) <;> omega
theorem cmpZ_range (x y : Int) : -1 ≤ cmpZ x y ∧ cmpZ x y ≤ 1 := by unfold cmpZ; split <;> (try split) <;> omega

/-- Is a ref held by an arena of so many terms? -/
def hasB (n : Nat) (r : Int) : Bool := decide (0 ≤ r) && decide (r < n)
theorem hasB_iff {n : Nat} {r : Int} : hasB n r = true ↔ 0 ≤ r ∧ r < n := by simp [hasB]
theorem hasB_not {n : Nat} {r : Int} : hasB n r = false ↔ ¬ (0 ≤ r ∧ r < n) := by rw [← hasB_iff]; simp

def cmpMiss (n : Nat) (x y : Int) : Int := if hasB n x then -1 else if hasB n y then 1 else cmpZ x y

def allB (n : Nat) (xs : List Int) : Bool := xs.all (hasB n)
theorem allB_take_succ {n : Nat} {xs : List Int} {k : Nat} (h : k < xs.length) (h1 : allB n (xs.take k) = true) (h2 : hasB n (xs.getD k 0) = true) : allB n (xs.take (k + 1)) = true := by
  unfold allB at *
  rw [List.take_succ_eq_append_getElem h, List.all_append, h1]
  simpa [List.getElem?_eq_getElem h] using h2
theorem allB_take_not {n : Nat} {xs : List Int} {k : Nat} (h : k < xs.length) (h2 : hasB n (xs.getD k 0) = false) : allB n xs = false := by
  unfold allB
  rw [List.all_eq_false]
  exact ⟨xs[k], List.getElem_mem h, by simpa [List.getElem?_eq_getElem h] using h2⟩

def orZ : List Int → Int
  | [] => 0
  | x :: r => if x = 0 then orZ r else x
theorem orZ_take {xs : List Int} : ∀ {k : Nat}, k < xs.length → (∀ j, j < k → xs.getD j 0 = 0) → xs.getD k 0 ≠ 0 → orZ xs = xs.getD k 0 := by
  induction xs with
  | nil => intro k h; simp at h
  | cons x r ih =>
    intro k hk hz hn
    cases k with
    | zero => simp at hn; simp [orZ, hn]
    | succ k =>
      have h0 : x = 0 := by simpa using hz 0 (by omega)
      simp only [orZ, if_pos h0]
      have := ih (k := k) (by simpa using hk) (fun j hj => by simpa using hz (j + 1) (by omega)) (by simpa using hn)
      simpa using this
theorem orZ_none {xs : List Int} (h : ∀ j, j < xs.length → xs.getD j 0 = 0) : orZ xs = 0 := by
  induction xs with
  | nil => rfl
  | cons x r ih =>
    have h0 : x = 0 := by simpa using h 0 (by simp)
    simp only [orZ, if_pos h0]
    exact ih fun j hj => by simpa using h (j + 1) (by simpa using hj)

/-- The node of a ref. -/
def nd (L : List Nd) (r : Int) : Nd := L.getD r.toNat zN
/-- The first parts in which two nodes differ. -/
def fd1 (m n : Nd) : Int := if m.a = n.a then (if m.b = n.b then m.c else m.b) else m.a
def fd2 (m n : Nd) : Int := if m.a = n.a then (if m.b = n.b then n.c else n.b) else n.a
def top (m n : Nd) : Int := orZ [cmpZ m.k n.k, cmpZ m.n n.n]
def both (L : List Nd) (x y : Int) : Bool := hasB L.length x && hasB L.length y

/-- The order of refs. -/
def cmp (L : List Nd) (x y : Int) : Int :=
  if x = y then 0
  else if both L x y = true then
    if top (nd L x) (nd L y) = 0 then
      if h : (fd1 (nd L x) (nd L y)).toNat + (fd2 (nd L x) (nd L y)).toNat < x.toNat + y.toNat then cmp L (fd1 (nd L x) (nd L y)) (fd2 (nd L x) (nd L y)) else 0
    else top (nd L x) (nd L y)
  else cmpMiss L.length x y
termination_by x.toNat + y.toNat
decreasing_by exact h

theorem cmp_self (L : List Nd) (x : Int) : cmp L x x = 0 := by rw [cmp]; simp
theorem cmp_miss {L : List Nd} {x y : Int} (h : x ≠ y) (hb : both L x y = false) : cmp L x y = cmpMiss L.length x y := by rw [cmp]; simp [h, hb]
theorem cmp_top {L : List Nd} {x y : Int} (h : x ≠ y) (hb : both L x y = true) (ht : top (nd L x) (nd L y) ≠ 0) : cmp L x y = top (nd L x) (nd L y) := by rw [cmp]; simp [h, hb, ht]

/-- What an arena's nodes are. -/
def inAt (p : Int) (i : Nat) : Prop := 0 ≤ p ∧ (p < i ∨ p = 0)
structure WFp (L : List Nd) : Prop where
  head : L[0]? = some zN
  nodup : ∀ i j : Nat, i < L.length → j < L.length → L.getD i zN = L.getD j zN → i = j
  parts : ∀ i : Nat, i < L.length → inAt (L.getD i zN).a i ∧ inAt (L.getD i zN).b i ∧ inAt (L.getD i zN).c i

theorem WFp.pos {L : List Nd} (h : WFp L) : 0 < L.length := by
  rcases Nat.eq_zero_or_pos L.length with h0 | h0
  · have := h.head; rw [List.eq_nil_of_length_eq_zero h0] at this; simp at this
  · exact h0

theorem both_iff {L : List Nd} {x y : Int} : both L x y = true ↔ (0 ≤ x ∧ x < L.length) ∧ (0 ≤ y ∧ y < L.length) := by simp [both, hasB]
theorem both_not {L : List Nd} {x y : Int} : both L x y = false ↔ ¬ ((0 ≤ x ∧ x < L.length) ∧ (0 ≤ y ∧ y < L.length)) := by rw [← both_iff]; simp
theorem both_comm (L : List Nd) (x y : Int) : both L x y = both L y x := by simp [both, Bool.and_comm]

theorem fd_eq {m n : Nd} (hk : top m n = 0) (hf : fd1 m n = fd2 m n) : m = n := by
  unfold top at hk
  simp only [orZ] at hk
  split at hk
  · rename_i h1
    split at hk
    · rename_i h2
      rw [cmpZ_zero] at h1 h2
      unfold fd1 fd2 at hf
      split at hf
      · split at hf
        · exact Nd.ext5 h1 h2 (by assumption) (by assumption) hf
        · contradiction
      · contradiction
    · contradiction
  · contradiction

theorem WFp.nd_parts {L : List Nd} (h : WFp L) {x : Int} (h0 : 0 ≤ x) (h1 : x < L.length) : inAt (nd L x).a x.toNat ∧ inAt (nd L x).b x.toNat ∧ inAt (nd L x).c x.toNat := h.parts x.toNat (by omega)

theorem WFp.nd_inj {L : List Nd} (h : WFp L) {x y : Int} (hb : both L x y = true) (he : nd L x = nd L y) : x = y := by
  rw [both_iff] at hb
  have := h.nodup x.toNat y.toNat (by omega) (by omega) he
  omega

theorem fd1_in {m n : Nd} {i : Nat} (h : inAt m.a i ∧ inAt m.b i ∧ inAt m.c i) : inAt (fd1 m n) i := by unfold fd1; split <;> (try split) <;> simp [h]
theorem fd2_in {m n : Nd} {i : Nat} (h : inAt n.a i ∧ inAt n.b i ∧ inAt n.c i) : inAt (fd2 m n) i := by unfold fd2; split <;> (try split) <;> simp [h]

theorem WFp.fd {L : List Nd} (h : WFp L) {x y : Int} (hne : x ≠ y) (hb : both L x y = true) (ht : top (nd L x) (nd L y) = 0) :
    fd1 (nd L x) (nd L y) ≠ fd2 (nd L x) (nd L y) ∧ inAt (fd1 (nd L x) (nd L y)) x.toNat ∧ inAt (fd2 (nd L x) (nd L y)) y.toNat := by
  have hb' := both_iff.1 hb
  refine ⟨fun e => hne (h.nd_inj hb (fd_eq ht e)), fd1_in (h.nd_parts hb'.1.1 hb'.1.2), fd2_in (h.nd_parts hb'.2.1 hb'.2.2)⟩

theorem WFp.fd_lt {L : List Nd} (h : WFp L) {x y : Int} (hne : x ≠ y) (hb : both L x y = true) (ht : top (nd L x) (nd L y) = 0) :
    (fd1 (nd L x) (nd L y)).toNat + (fd2 (nd L x) (nd L y)).toNat < x.toNat + y.toNat := by
  obtain ⟨h1, h2, h3⟩ := h.fd hne hb ht
  unfold inAt at h2 h3
  have hb' := both_iff.1 hb
  omega

theorem WFp.fd_both {L : List Nd} (h : WFp L) {x y : Int} (hne : x ≠ y) (hb : both L x y = true) (ht : top (nd L x) (nd L y) = 0) :
    both L (fd1 (nd L x) (nd L y)) (fd2 (nd L x) (nd L y)) = true := by
  obtain ⟨h1, h2, h3⟩ := h.fd hne hb ht
  unfold inAt at h2 h3
  have hb' := both_iff.1 hb
  rw [both_iff]
  omega

theorem cmp_deep {L : List Nd} (h : WFp L) {x y : Int} (hne : x ≠ y) (hb : both L x y = true) (ht : top (nd L x) (nd L y) = 0) :
    cmp L x y = cmp L (fd1 (nd L x) (nd L y)) (fd2 (nd L x) (nd L y)) := by
  rw [cmp]
  simp only [hne, hb, ht, if_true, if_false, ite_true]
  rw [dif_pos (h.fd_lt hne hb ht)]

/-- Induction over pairs of refs. -/
theorem pair_ind {P : Int → Int → Prop} (h : ∀ x y, (∀ x' y', x'.toNat + y'.toNat < x.toNat + y.toNat → P x' y') → P x y) (x y : Int) : P x y := by
  have key : ∀ n : Nat, ∀ x y : Int, x.toNat + y.toNat < n → P x y := by
    intro n
    induction n with
    | zero => intro x y hh; omega
    | succ n ih => intro x y hh; exact h x y fun x' y' h' => ih x' y' (by omega)
  exact key (x.toNat + y.toNat + 1) x y (by omega)

theorem cmp_zero {L : List Nd} (h : WFp L) (x y : Int) : cmp L x y = 0 ↔ x = y := by
  refine pair_ind (P := fun x y => cmp L x y = 0 ↔ x = y) ?_ x y
  intro x y ih
  by_cases hne : x = y
  · subst hne; simp [cmp_self]
  · cases hb : both L x y
    · rw [cmp_miss hne hb]
      unfold cmpMiss
      simp only [hne, iff_false]
      split
      · omega
      · split
        · omega
        · rw [cmpZ_zero]; exact hne
    · by_cases ht : top (nd L x) (nd L y) = 0
      · rw [cmp_deep h hne hb ht, ih _ _ (h.fd_lt hne hb ht)]
        simp only [hne, iff_false]
        exact (h.fd hne hb ht).1
      · rw [cmp_top hne hb ht]; simp [ht, hne]

theorem top_neg (m n : Nd) : top m n = - top n m := by
  unfold top; simp only [orZ]
  rw [cmpZ_neg m.k n.k, cmpZ_neg m.n n.n]
  split <;> split <;> (try split) <;> (try split) <;> omega
theorem top_range (m n : Nd) : -1 ≤ top m n ∧ top m n ≤ 1 := by
  unfold top; simp only [orZ]
  have := cmpZ_range m.k n.k
  have := cmpZ_range m.n n.n
  split <;> (try split) <;> omega
theorem fd_swap (m n : Nd) : fd1 m n = fd2 n m := by
  unfold fd1 fd2
  by_cases h : m.a = n.a
  · by_cases h2 : m.b = n.b
    · simp [h, h2]
    · simp [h, h2, Ne.symm h2]
  · simp [h, Ne.symm h]

theorem cmp_range {L : List Nd} (h : WFp L) (x y : Int) : -1 ≤ cmp L x y ∧ cmp L x y ≤ 1 := by
  refine pair_ind (P := fun x y => -1 ≤ cmp L x y ∧ cmp L x y ≤ 1) ?_ x y
  intro x y ih
  by_cases hne : x = y
  · subst hne; rw [cmp_self]; omega
  · cases hb : both L x y
    · rw [cmp_miss hne hb]
      unfold cmpMiss
      have := cmpZ_range x y
      split <;> (try split) <;> omega
    · by_cases ht : top (nd L x) (nd L y) = 0
      · rw [cmp_deep h hne hb ht]; exact ih _ _ (h.fd_lt hne hb ht)
      · rw [cmp_top hne hb ht]; exact top_range _ _

theorem cmp_neg {L : List Nd} (h : WFp L) (x y : Int) : cmp L x y = - cmp L y x := by
  refine pair_ind (P := fun x y => cmp L x y = - cmp L y x) ?_ x y
  intro x y ih
  by_cases hne : x = y
  · subst hne; simp [cmp_self]
  · have hne' : y ≠ x := Ne.symm hne
    cases hb : both L x y
    · have hb2 := hb
      rw [both_comm] at hb2
      rw [cmp_miss hne hb, cmp_miss hne' hb2]
      unfold cmpMiss
      rw [cmpZ_neg x y]
      unfold both at hb
      cases h1 : hasB L.length x <;> cases h2 : hasB L.length y <;> simp_all
    · have hb2 := hb
      rw [both_comm] at hb2
      by_cases ht : top (nd L x) (nd L y) = 0
      · have ht2 : top (nd L y) (nd L x) = 0 := by rw [top_neg]; omega
        rw [cmp_deep h hne hb ht, cmp_deep h hne' hb2 ht2, fd_swap (nd L y), ← fd_swap (nd L x)]
        exact ih _ _ (h.fd_lt hne hb ht)
      · have ht2 : top (nd L y) (nd L x) ≠ 0 := by rw [top_neg]; omega
        rw [cmp_top hne hb ht, cmp_top hne' hb2 ht2]
        exact top_neg _ _

/-- The order, part by part (as the reference reckons it). -/
theorem cmp_lex {L : List Nd} (h : WFp L) {x y : Int} (hb : both L x y = true) :
    cmp L x y = orZ [cmpZ (nd L x).k (nd L y).k, cmpZ (nd L x).n (nd L y).n, cmp L (nd L x).a (nd L y).a, cmp L (nd L x).b (nd L y).b, cmp L (nd L x).c (nd L y).c] := by
  by_cases hne : x = y
  · subst hne; simp [cmp_self, orZ, cmpZ_eq]
  · by_cases ht : top (nd L x) (nd L y) = 0
    · rw [cmp_deep h hne hb ht]
      have h1 : cmpZ (nd L x).k (nd L y).k = 0 := by
        unfold top at ht; simp only [orZ] at ht; split at ht <;> first | assumption | contradiction
      have h2 : cmpZ (nd L x).n (nd L y).n = 0 := by
        unfold top at ht; simp only [orZ, h1, if_true] at ht
        by_cases e : cmpZ (nd L x).n (nd L y).n = 0
        · exact e
        · rw [if_neg e] at ht; exact ht
      simp only [orZ, h1, h2, if_true]
      have za := cmp_zero h (nd L x).a (nd L y).a
      have zb := cmp_zero h (nd L x).b (nd L y).b
      unfold fd1 fd2
      by_cases ea : (nd L x).a = (nd L y).a
      · rw [if_pos ea, if_pos ea, if_pos (za.2 ea)]
        by_cases eb : (nd L x).b = (nd L y).b
        · rw [if_pos eb, if_pos eb, if_pos (zb.2 eb)]
          split <;> simp_all
        · rw [if_neg eb, if_neg eb, if_neg (fun e => eb (zb.1 e))]
      · rw [if_neg ea, if_neg ea, if_neg (fun e => ea (za.1 e))]
    · rw [cmp_top hne hb ht]
      unfold top at ht ⊢
      simp only [orZ] at ht ⊢
      split
      · split
        · simp_all
        · rfl
      · rfl

/-- What a triple of comparisons has that comes of an order. -/
def Tri (u v t : Int) : Prop := (u ≤ 0 → v ≤ 0 → t ≤ 0) ∧ (u ≤ 0 → v ≤ 0 → t = 0 → u = 0 ∧ v = 0) ∧ (u = 0 → v = 0 → t = 0)
theorem tri_cons {u v t u' v' t' : Int} (h : Tri u v t) (h' : Tri u' v' t') : Tri (if u = 0 then u' else u) (if v = 0 then v' else v) (if t = 0 then t' else t) := by
  unfold Tri at *
  split <;> split <;> split <;> omega
theorem tri_Z (x y z : Int) : Tri (cmpZ x y) (cmpZ y z) (cmpZ x z) := by
  unfold Tri cmpZ; split <;> split <;> split <;> (try split) <;> (try split) <;> (try split) <;> omega

theorem sum_lt {p q r x y z : Int} (hp : inAt p x.toNat) (hq : inAt q y.toNat) (hr : inAt r z.toNat) (hx : 0 ≤ x) (hy : 0 ≤ y) (hxy : x ≠ y) : p.toNat + q.toNat + r.toNat < x.toNat + y.toNat + z.toNat := by
  unfold inAt at hp hq hr; omega

theorem cmp_tri {L : List Nd} (h : WFp L) : ∀ N : Nat, ∀ x y z : Int, x.toNat + y.toNat + z.toNat < N → Tri (cmp L x y) (cmp L y z) (cmp L x z) := by
  intro N
  induction N with
  | zero => intro x y z hh; omega
  | succ N ih =>
    intro x y z hN
    by_cases hxy : x = y
    · subst hxy; rw [cmp_self]; unfold Tri; omega
    by_cases hyz : y = z
    · subst hyz; rw [cmp_self]; unfold Tri; omega
    by_cases hxz : x = z
    · subst hxz; rw [cmp_self, cmp_neg h x y]; unfold Tri
      have := cmp_zero h y x
      omega
    by_cases hall : both L x y = true ∧ both L y z = true
    · obtain ⟨hb1, hb2⟩ := hall
      have b1 := both_iff.1 hb1
      have b2 := both_iff.1 hb2
      have hb3 : both L x z = true := both_iff.2 ⟨b1.1, b2.2⟩
      rw [cmp_lex h hb1, cmp_lex h hb2, cmp_lex h hb3]
      have px := h.nd_parts b1.1.1 b1.1.2
      have py := h.nd_parts b1.2.1 b1.2.2
      have pz := h.nd_parts b2.2.1 b2.2.2
      have ta := ih (nd L x).a (nd L y).a (nd L z).a (Nat.lt_of_lt_of_le (sum_lt px.1 py.1 pz.1 b1.1.1 b1.2.1 hxy) (Nat.le_of_lt_succ hN))
      have tb := ih (nd L x).b (nd L y).b (nd L z).b (Nat.lt_of_lt_of_le (sum_lt px.2.1 py.2.1 pz.2.1 b1.1.1 b1.2.1 hxy) (Nat.le_of_lt_succ hN))
      have tc := ih (nd L x).c (nd L y).c (nd L z).c (Nat.lt_of_lt_of_le (sum_lt px.2.2 py.2.2 pz.2.2 b1.1.1 b1.2.1 hxy) (Nat.le_of_lt_succ hN))
      simp only [orZ]
      refine tri_cons (tri_Z _ _ _) ?_
      refine tri_cons (tri_Z _ _ _) ?_
      refine tri_cons ta ?_
      refine tri_cons tb ?_
      refine tri_cons tc ?_
      exact ⟨fun _ _ => Int.le_refl 0, fun _ _ _ => ⟨rfl, rfl⟩, fun _ _ => rfl⟩
    · have z1 : cmp L x y ≠ 0 := fun e => hxy ((cmp_zero h x y).1 e)
      have z2 : cmp L y z ≠ 0 := fun e => hyz ((cmp_zero h y z).1 e)
      have z3 : cmp L x z ≠ 0 := fun e => hxz ((cmp_zero h x z).1 e)
      have c1 : both L x y = false → cmp L x y = cmpMiss L.length x y := cmp_miss hxy
      have c2 : both L y z = false → cmp L y z = cmpMiss L.length y z := cmp_miss hyz
      have c3 : both L x z = false → cmp L x z = cmpMiss L.length x z := cmp_miss hxz
      have tz := tri_Z x y z
      clear ih hN
      unfold both at c1 c2 c3 hall
      unfold cmpMiss at c1 c2 c3
      generalize cmp L x y = u at *
      generalize cmp L y z = v at *
      generalize cmp L x z = t at *
      generalize cmpZ x y = u' at *
      generalize cmpZ y z = v' at *
      generalize cmpZ x z = t' at *
      unfold Tri at tz ⊢
      cases h1 : hasB L.length x
      all_goals cases h2 : hasB L.length y
      all_goals cases h3 : hasB L.length z
      all_goals rw [h1, h2] at c1
      all_goals rw [h2, h3] at c2
      all_goals rw [h1, h3] at c3
      all_goals rw [h1, h2, h3] at hall
      all_goals simp at c1 c2 c3 hall
      all_goals omega

theorem cmp_trans {L : List Nd} (h : WFp L) (x y z : Int) (h1 : cmp L x y ≤ 0) (h2 : cmp L y z ≤ 0) : cmp L x z ≤ 0 := (cmp_tri h _ x y z (Nat.lt_succ_self _)).1 h1 h2
end Go.Proofs.YtemjhhjalnlmlaaDoor
