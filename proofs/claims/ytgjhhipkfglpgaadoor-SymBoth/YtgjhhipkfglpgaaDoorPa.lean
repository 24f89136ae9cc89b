/- The plain mathematics of arenas: nodes, their order, which nodes may be, making and sharing. No program is named here. The plain mathematics of arenas, continued: which nodes may be; making a node; sharing. The plain mathematics of arenas, continued: what is made stands there; sharing again, and the other way round. -/

namespace Go.Proofs.YtgjhhipkfglpgaaDoor

structure Nd where
  k : Int
  n : Int
  a : Int
  b : Int
  c : Int

theorem Nd.ext5 {x y : Nd} (h1 : x.k = y.k) (h2 : x.n = y.n) (h3 : x.a = y.a) (h4 : x.b = y.b) (h5 : x.c = y.c) : x = y := by
  cases x; cases y; simp_all

instance : DecidableEq Nd := fun x y =>
  if h : x.k = y.k ∧ x.n = y.n ∧ x.a = y.a ∧ x.b = y.b ∧ x.c = y.c then isTrue (Nd.ext5 h.1 h.2.1 h.2.2.1 h.2.2.2.1 h.2.2.2.2)
  else isFalse (fun e => h (by subst e; simp))

def zN : Nd := ⟨0, 0, 0, 0, 0⟩
def i64ok (x : Int) : Prop := -9223372036854775808 ≤ x ∧ x ≤ 9223372036854775807
def u64ok (x : Int) : Prop := 0 ≤ x ∧ x ≤ 18446744073709551615
def Nd.ok (d : Nd) : Prop := i64ok d.k ∧ u64ok d.n ∧ i64ok d.a ∧ i64ok d.b ∧ i64ok d.c

def cmpZ (x y : Int) : Int := if x < y then -1 else if y < x then 1 else 0
theorem cmpZ_lt {x y : Int} (h : x < y) : cmpZ x y = -1 := by simp [cmpZ, h]
theorem cmpZ_gt {x y : Int} (h : y < x) : cmpZ x y = 1 := by unfold cmpZ; rw [if_neg (by omega), if_pos h]
theorem cmpZ_eq (x : Int) : cmpZ x x = 0 := by simp [cmpZ]
theorem cmpZ_zero {x y : Int} : cmpZ x y = 0 ↔ x = y := by unfold cmpZ; split <;> (try split) <;> omega
theorem cmpZ_neg (x y : Int) : cmpZ x y = - cmpZ y x := by unfold cmpZ; split <;> split <;> (try split) <;> omega
theorem cmpZ_range (x y : Int) : -1 ≤ cmpZ x y ∧ cmpZ x y ≤ 1 := by unfold cmpZ; split <;> (try split) <;> omega

/-- Is a ref held by an arena of so many terms? -/
def hasB (n : Nat) (r : Int) : Bool := decide (0 ≤ r) && decide (r < n)
theorem hasB_iff {n : Nat} {r : Int} : hasB n r = true ↔ 0 ≤ r ∧ r < n := by simp [hasB]
theorem hasB_not {n : Nat} {r : Int} : hasB n r = false ↔ ¬ (0 ≤ r ∧ r < n) := by rw [← hasB_iff]; simp

def cmpMiss (n : Nat) (x y : Int) : Int := if hasB n x then -1 else if hasB n y then 1 else cmpZ x y

def allB (n : Nat) (xs : List Int) : Bool := xs.all (hasB n)
theorem allB_take_succ {n : Nat} {xs : List Int} {k : Nat} (h : k < xs.length) (h1 : allB n (xs.take k) = true) (h2 : hasB n (xs.getD k 0) = true) : allB n (xs.take (k + 1)) = true := by
  unfold allB at *
  rw [List.take_succ_eq_append_getElem h, List.all_append, h1]
  simpa [List.getElem?_eq_getElem h] using h2
theorem allB_take_not {n : Nat} {xs : List Int} {k : Nat} (h : k < xs.length) (h2 : hasB n (xs.getD k 0) = false) : allB n xs = false := by
  unfold allB
  rw [List.all_eq_false]
  exact ⟨xs[k], List.getElem_mem h, by simpa [List.getElem?_eq_getElem h] using h2⟩

def orZ : List Int → Int
  | [] => 0
  | x :: r => if x = 0 then orZ r else x
theorem orZ_take {xs : List Int} : ∀ {k : Nat}, k < xs.length → (∀ j, j < k → xs.getD j 0 = 0) → xs.getD k 0 ≠ 0 → orZ xs = xs.getD k 0 := by
  induction xs with
  | nil => intro k h; simp at h
  | cons x r ih =>
    intro k hk hz hn
    cases k with
    | zero => simp at hn; simp [orZ, hn]
    | succ k =>
      have h0 : x = 0 := by simpa using hz 0 (by omega)
      simp only [orZ, if_pos h0]
      have := ih (k := k) (by simpa using hk) (fun j hj => by simpa using hz (j + 1) (by omega)) (by simpa using hn)
      simpa using this
theorem orZ_none {xs : List Int} (h : ∀ j, j < xs.length → xs.getD j 0 = 0) : orZ xs = 0 := by
  induction xs with
  | nil => rfl
  | cons x r ih =>
    have h0 : x = 0 := by simpa using h 0 (by simp)
    simp only [orZ, if_pos h0]
    exact ih fun j hj => by simpa using h (j + 1) (by simpa using hj)

/-- The node of a ref. -/
def nd (L : List Nd) (r : Int) : Nd := L.getD r.toNat zN
/-- The first parts in which two nodes differ. -/
def fd1 (m n : Nd) : Int := if m.a = n.a then (if m.b = n.b then m.c else m.b) else m.a
def fd2 (m n : Nd) : Int := if m.a = n.a then (if m.b = n.b then n.c else n.b) else n.a
def top (m n : Nd) : Int := orZ [cmpZ m.k n.k, cmpZ m.n n.n]
def both (L : List Nd) (x y : Int) : Bool := hasB L.length x && hasB L.length y

/-- The order of refs. -/
def cmp (L : List Nd) (x y : Int) : Int :=
  if x = y then 0
  else if both L x y = true then
    if top (nd L x) (nd L y) = 0 then
      if _h : (fd1 (nd L x) (nd L y)).toNat + (fd2 (nd L x) (nd L y)).toNat < x.toNat + y.toNat then cmp L (fd1 (nd L x) (nd L y)) (fd2 (nd L x) (nd L y)) else 0
    else top (nd L x) (nd L y)
  else cmpMiss L.length x y
termination_by x.toNat + y.toNat
decreasing_by exact _h

theorem cmp_self (L : List Nd) (x : Int) : cmp L x x = 0 := by rw [cmp]; simp
theorem cmp_miss {L : List Nd} {x y : Int} (h : x ≠ y) (hb : both L x y = false) : cmp L x y = cmpMiss L.length x y := by rw [cmp]; simp [h, hb]
theorem cmp_top {L : List Nd} {x y : Int} (h : x ≠ y) (hb : both L x y = true) (ht : top (nd L x) (nd L y) ≠ 0) : cmp L x y = top (nd L x) (nd L y) := by rw [cmp]; simp [h, hb, ht]

/-- What an arena's nodes are. -/
def inAt (p : Int) (i : Nat) : Prop := 0 ≤ p ∧ (p < i ∨ p = 0)
structure WFp (L : List Nd) : Prop where
  head : L[0]? = some zN
  nodup : ∀ i j : Nat, i < L.length → j < L.length → L.getD i zN = L.getD j zN → i = j
  parts : ∀ i : Nat, i < L.length → inAt (L.getD i zN).a i ∧ inAt (L.getD i zN).b i ∧ inAt (L.getD i zN).c i

theorem WFp.pos {L : List Nd} (h : WFp L) : 0 < L.length := by
  rcases Nat.eq_zero_or_pos L.length with h0 | h0
  · have := h.head; rw [List.eq_nil_of_length_eq_zero h0] at this; simp at this
  · exact h0

theorem both_iff {L : List Nd} {x y : Int} : both L x y = true ↔ (0 ≤ x ∧ x < L.length) ∧ (0 ≤ y ∧ y < L.length) := by simp [both, hasB]
theorem both_not {L : List Nd} {x y : Int} : both L x y = false ↔ ¬ ((0 ≤ x ∧ x < L.length) ∧ (0 ≤ y ∧ y < L.length)) := by rw [← both_iff]; simp
theorem both_comm (L : List Nd) (x y : Int) : both L x y = both L y x := by simp [both, Bool.and_comm]

theorem fd_eq {m n : Nd} (hk : top m n = 0) (hf : fd1 m n = fd2 m n) : m = n := by
  unfold top at hk
  simp only [orZ] at hk
  split at hk
  · rename_i h1
    split at hk
    · rename_i h2
      rw [cmpZ_zero] at h1 h2
      unfold fd1 fd2 at hf
      split at hf
      · split at hf
        · exact Nd.ext5 h1 h2 (by assumption) (by assumption) hf
        · contradiction
      · contradiction
    · contradiction
  · contradiction

theorem WFp.nd_parts {L : List Nd} (h : WFp L) {x : Int} (h0 : 0 ≤ x) (h1 : x < L.length) : inAt (nd L x).a x.toNat ∧ inAt (nd L x).b x.toNat ∧ inAt (nd L x).c x.toNat := h.parts x.toNat (by omega)

theorem WFp.nd_inj {L : List Nd} (h : WFp L) {x y : Int} (hb : both L x y = true) (he : nd L x = nd L y) : x = y := by
  rw [both_iff] at hb
  have := h.nodup x.toNat y.toNat (by omega) (by omega) he
  omega

theorem fd1_in {m n : Nd} {i : Nat} (h : inAt m.a i ∧ inAt m.b i ∧ inAt m.c i) : inAt (fd1 m n) i := by unfold fd1; split <;> (try split) <;> simp [h]
theorem fd2_in {m n : Nd} {i : Nat} (h : inAt n.a i ∧ inAt n.b i ∧ inAt n.c i) : inAt (fd2 m n) i := by unfold fd2; split <;> (try split) <;> simp [h]

theorem WFp.fd {L : List Nd} (h : WFp L) {x y : Int} (hne : x ≠ y) (hb : both L x y = true) (ht : top (nd L x) (nd L y) = 0) :
    fd1 (nd L x) (nd L y) ≠ fd2 (nd L x) (nd L y) ∧ inAt (fd1 (nd L x) (nd L y)) x.toNat ∧ inAt (fd2 (nd L x) (nd L y)) y.toNat := by
  have hb' := both_iff.1 hb
  refine ⟨fun e => hne (h.nd_inj hb (fd_eq ht e)), fd1_in (h.nd_parts hb'.1.1 hb'.1.2), fd2_in (h.nd_parts hb'.2.1 hb'.2.2)⟩

theorem WFp.fd_lt {L : List Nd} (h : WFp L) {x y : Int} (hne : x ≠ y) (hb : both L x y = true) (ht : top (nd L x) (nd L y) = 0) :
    (fd1 (nd L x) (nd L y)).toNat + (fd2 (nd L x) (nd L y)).toNat < x.toNat + y.toNat := by
  obtain ⟨h1, h2, h3⟩ := h.fd hne hb ht
  unfold inAt at h2 h3
  have hb' := both_iff.1 hb
  omega

theorem WFp.fd_both {L : List Nd} (h : WFp L) {x y : Int} (hne : x ≠ y) (hb : both L x y = true) (ht : top (nd L x) (nd L y) = 0) :
    both L (fd1 (nd L x) (nd L y)) (fd2 (nd L x) (nd L y)) = true := by
  obtain ⟨h1, h2, h3⟩ := h.fd hne hb ht
  unfold inAt at h2 h3
  have hb' := both_iff.1 hb
  rw [both_iff]
  omega

theorem cmp_deep {L : List Nd} (h : WFp L) {x y : Int} (hne : x ≠ y) (hb : both L x y = true) (ht : top (nd L x) (nd L y) = 0) :
    cmp L x y = cmp L (fd1 (nd L x) (nd L y)) (fd2 (nd L x) (nd L y)) := by
  rw [cmp]
  simp only [hne, hb, ht, if_true, if_false]
  rw [dif_pos (h.fd_lt hne hb ht)]

/-- Induction over pairs of refs. -/
theorem pair_ind {P : Int → Int → Prop} (h : ∀ x y, (∀ x' y', x'.toNat + y'.toNat < x.toNat + y.toNat → P x' y') → P x y) (x y : Int) : P x y := by
  have key : ∀ n : Nat, ∀ x y : Int, x.toNat + y.toNat < n → P x y := by
    intro n
    induction n with
    | zero => intro x y hh; omega
    | succ n ih => intro x y hh; exact h x y fun x' y' h' => ih x' y' (by omega)
  exact key (x.toNat + y.toNat + 1) x y (by omega)

theorem cmp_zero {L : List Nd} (h : WFp L) (x y : Int) : cmp L x y = 0 ↔ x = y := by
  refine pair_ind (P := fun x y => cmp L x y = 0 ↔ x = y) ?_ x y
  intro x y ih
  by_cases hne : x = y
  · subst hne; simp [cmp_self]
  · cases hb : both L x y
    · rw [cmp_miss hne hb]
      unfold cmpMiss
      simp only [hne, iff_false]
      split
      · omega
      · split
        · omega
        · rw [cmpZ_zero]; exact hne
    · by_cases ht : top (nd L x) (nd L y) = 0
      · rw [cmp_deep h hne hb ht, ih _ _ (h.fd_lt hne hb ht)]
        simp only [hne, iff_false]
        exact (h.fd hne hb ht).1
      · rw [cmp_top hne hb ht]; simp [ht, hne]

theorem top_neg (m n : Nd) : top m n = - top n m := by
  unfold top; simp only [orZ]
  rw [cmpZ_neg m.k n.k, cmpZ_neg m.n n.n]
  split <;> split <;> (try split) <;> (try split) <;> omega
theorem top_range (m n : Nd) : -1 ≤ top m n ∧ top m n ≤ 1 := by
  unfold top; simp only [orZ]
  have := cmpZ_range m.k n.k
  have := cmpZ_range m.n n.n
  split <;> (try split) <;> omega
theorem fd_swap (m n : Nd) : fd1 m n = fd2 n m := by
  unfold fd1 fd2
  by_cases h : m.a = n.a
  · by_cases h2 : m.b = n.b
    · simp [h, h2]
    · simp [h, h2, Ne.symm h2]
  · simp [h, Ne.symm h]

theorem cmp_range {L : List Nd} (h : WFp L) (x y : Int) : -1 ≤ cmp L x y ∧ cmp L x y ≤ 1 := by
  refine pair_ind (P := fun x y => -1 ≤ cmp L x y ∧ cmp L x y ≤ 1) ?_ x y
  intro x y ih
  by_cases hne : x = y
  · subst hne; rw [cmp_self]; omega
  · cases hb : both L x y
    · rw [cmp_miss hne hb]
      unfold cmpMiss
      have := cmpZ_range x y
      split <;> (try split) <;> omega
    · by_cases ht : top (nd L x) (nd L y) = 0
      · rw [cmp_deep h hne hb ht]; exact ih _ _ (h.fd_lt hne hb ht)
      · rw [cmp_top hne hb ht]; exact top_range _ _

theorem cmp_neg {L : List Nd} (h : WFp L) (x y : Int) : cmp L x y = - cmp L y x := by
  refine pair_ind (P := fun x y => cmp L x y = - cmp L y x) ?_ x y
  intro x y ih
  by_cases hne : x = y
  · subst hne; simp [cmp_self]
  · have hne' : y ≠ x := Ne.symm hne
    cases hb : both L x y
    · have hb2 := hb
      rw [both_comm] at hb2
      rw [cmp_miss hne hb, cmp_miss hne' hb2]
      unfold cmpMiss
      rw [cmpZ_neg x y]
      unfold both at hb
      cases h1 : hasB L.length x <;> cases h2 : hasB L.length y <;> simp_all
    · have hb2 := hb
      rw [both_comm] at hb2
      by_cases ht : top (nd L x) (nd L y) = 0
      · have ht2 : top (nd L y) (nd L x) = 0 := by rw [top_neg]; omega
        rw [cmp_deep h hne hb ht, cmp_deep h hne' hb2 ht2, fd_swap (nd L y), ← fd_swap (nd L x)]
        exact ih _ _ (h.fd_lt hne hb ht)
      · have ht2 : top (nd L y) (nd L x) ≠ 0 := by rw [top_neg]; omega
        rw [cmp_top hne hb ht, cmp_top hne' hb2 ht2]
        exact top_neg _ _

/-- The order, part by part (as the reference reckons it). -/
theorem cmp_lex {L : List Nd} (h : WFp L) {x y : Int} (hb : both L x y = true) :
    cmp L x y = orZ [cmpZ (nd L x).k (nd L y).k, cmpZ (nd L x).n (nd L y).n, cmp L (nd L x).a (nd L y).a, cmp L (nd L x).b (nd L y).b, cmp L (nd L x).c (nd L y).c] := by
  by_cases hne : x = y
  · subst hne; simp [cmp_self, orZ, cmpZ_eq]
  · by_cases ht : top (nd L x) (nd L y) = 0
    · rw [cmp_deep h hne hb ht]
      have h1 : cmpZ (nd L x).k (nd L y).k = 0 := by
        unfold top at ht; simp only [orZ] at ht; split at ht <;> first | assumption | contradiction
      have h2 : cmpZ (nd L x).n (nd L y).n = 0 := by
        unfold top at ht; simp only [orZ, h1, if_true] at ht
        by_cases e : cmpZ (nd L x).n (nd L y).n = 0
        · exact e
        · rw [if_neg e] at ht; exact ht
      simp only [orZ, h1, h2, if_true]
      have za := cmp_zero h (nd L x).a (nd L y).a
      have zb := cmp_zero h (nd L x).b (nd L y).b
      unfold fd1 fd2
      by_cases ea : (nd L x).a = (nd L y).a
      · rw [if_pos ea, if_pos ea, if_pos (za.2 ea)]
        by_cases eb : (nd L x).b = (nd L y).b
        · rw [if_pos eb, if_pos eb, if_pos (zb.2 eb)]
          split <;> simp_all
        · rw [if_neg eb, if_neg eb, if_neg (fun e => eb (zb.1 e))]
      · rw [if_neg ea, if_neg ea, if_neg (fun e => ea (za.1 e))]
    · rw [cmp_top hne hb ht]
      unfold top at ht ⊢
      simp only [orZ] at ht ⊢
      split
      · split
        · simp_all
        · rfl
      · rfl

/-- What a triple of comparisons has that comes of an order. -/
def Tri (u v t : Int) : Prop := (u ≤ 0 → v ≤ 0 → t ≤ 0) ∧ (u ≤ 0 → v ≤ 0 → t = 0 → u = 0 ∧ v = 0) ∧ (u = 0 → v = 0 → t = 0)
theorem tri_cons {u v t u' v' t' : Int} (h : Tri u v t) (h' : Tri u' v' t') : Tri (if u = 0 then u' else u) (if v = 0 then v' else v) (if t = 0 then t' else t) := by
  unfold Tri at *
  split <;> split <;> split <;> omega
theorem tri_Z (x y z : Int) : Tri (cmpZ x y) (cmpZ y z) (cmpZ x z) := by
  unfold Tri cmpZ; split <;> split <;> split <;> (try split) <;> (try split) <;> (try split) <;> omega

theorem sum_lt {p q r x y z : Int} (hp : inAt p x.toNat) (hq : inAt q y.toNat) (hr : inAt r z.toNat) (hx : 0 ≤ x) (hy : 0 ≤ y) (hxy : x ≠ y) : p.toNat + q.toNat + r.toNat < x.toNat + y.toNat + z.toNat := by
  unfold inAt at hp hq hr; omega

theorem cmp_tri {L : List Nd} (h : WFp L) : ∀ N : Nat, ∀ x y z : Int, x.toNat + y.toNat + z.toNat < N → Tri (cmp L x y) (cmp L y z) (cmp L x z) := by
  intro N
  induction N with
  | zero => intro x y z hh; omega
  | succ N ih =>
    intro x y z hN
    by_cases hxy : x = y
    · subst hxy; rw [cmp_self]; unfold Tri; omega
    by_cases hyz : y = z
    · subst hyz; rw [cmp_self]; unfold Tri; omega
    by_cases hxz : x = z
    · subst hxz; rw [cmp_self, cmp_neg h x y]; unfold Tri
      have := cmp_zero h y x
      omega
    by_cases hall : both L x y = true ∧ both L y z = true
    · obtain ⟨hb1, hb2⟩ := hall
      have b1 := both_iff.1 hb1
      have b2 := both_iff.1 hb2
      have hb3 : both L x z = true := both_iff.2 ⟨b1.1, b2.2⟩
      rw [cmp_lex h hb1, cmp_lex h hb2, cmp_lex h hb3]
      have px := h.nd_parts b1.1.1 b1.1.2
      have py := h.nd_parts b1.2.1 b1.2.2
      have pz := h.nd_parts b2.2.1 b2.2.2
      have ta := ih (nd L x).a (nd L y).a (nd L z).a (Nat.lt_of_lt_of_le (sum_lt px.1 py.1 pz.1 b1.1.1 b1.2.1 hxy) (Nat.le_of_lt_succ hN))
      have tb := ih (nd L x).b (nd L y).b (nd L z).b (Nat.lt_of_lt_of_le (sum_lt px.2.1 py.2.1 pz.2.1 b1.1.1 b1.2.1 hxy) (Nat.le_of_lt_succ hN))
      have tc := ih (nd L x).c (nd L y).c (nd L z).c (Nat.lt_of_lt_of_le (sum_lt px.2.2 py.2.2 pz.2.2 b1.1.1 b1.2.1 hxy) (Nat.le_of_lt_succ hN))
      simp only [orZ]
      refine tri_cons (tri_Z _ _ _) ?_
      refine tri_cons (tri_Z _ _ _) ?_
      refine tri_cons ta ?_
      refine tri_cons tb ?_
      refine tri_cons tc ?_
      exact ⟨fun _ _ => Int.le_refl 0, fun _ _ _ => ⟨rfl, rfl⟩, fun _ _ => rfl⟩
    · have z1 : cmp L x y ≠ 0 := fun e => hxy ((cmp_zero h x y).1 e)
      have z2 : cmp L y z ≠ 0 := fun e => hyz ((cmp_zero h y z).1 e)
      have z3 : cmp L x z ≠ 0 := fun e => hxz ((cmp_zero h x z).1 e)
      have c1 : both L x y = false → cmp L x y = cmpMiss L.length x y := cmp_miss hxy
      have c2 : both L y z = false → cmp L y z = cmpMiss L.length y z := cmp_miss hyz
      have c3 : both L x z = false → cmp L x z = cmpMiss L.length x z := cmp_miss hxz
      have tz := tri_Z x y z
      clear ih hN
      unfold both at c1 c2 c3 hall
      unfold cmpMiss at c1 c2 c3
      generalize cmp L x y = u at *
      generalize cmp L y z = v at *
      generalize cmp L x z = t at *
      generalize cmpZ x y = u' at *
      generalize cmpZ y z = v' at *
      generalize cmpZ x z = t' at *
      unfold Tri at tz ⊢
      cases h1 : hasB L.length x
      all_goals cases h2 : hasB L.length y
      all_goals cases h3 : hasB L.length z
      all_goals rw [h1, h2] at c1
      all_goals rw [h2, h3] at c2
      all_goals rw [h1, h3] at c3
      all_goals rw [h1, h2, h3] at hall
      all_goals simp at c1 c2 c3 hall
      all_goals omega

theorem cmp_trans {L : List Nd} (h : WFp L) (x y z : Int) (h1 : cmp L x y ≤ 0) (h2 : cmp L y z ≤ 0) : cmp L x z ≤ 0 := (cmp_tri h _ x y z (Nat.lt_succ_self _)).1 h1 h2
end Go.Proofs.YtgjhhipkfglpgaaDoor

namespace Go.Proofs.YtgjhhipkfglpgaaDoor

theorem nd_append {L M : List Nd} {x : Int} (h0 : 0 ≤ x) (h1 : x < L.length) : nd (L ++ M) x = nd L x := by
  unfold nd
  rw [List.getD_eq_getElem?_getD, List.getD_eq_getElem?_getD, List.getElem?_append_left (by omega)]

theorem both_append {L M : List Nd} {x y : Int} (hb : both L x y = true) : both (L ++ M) x y = true := by
  rw [both_iff] at *; simp only [List.length_append]; omega

theorem cmp_append {L M : List Nd} (h : WFp L) (h' : WFp (L ++ M)) (x y : Int) (hb : both L x y = true) : cmp (L ++ M) x y = cmp L x y := by
  revert hb
  refine pair_ind (P := fun x y => both L x y = true → cmp (L ++ M) x y = cmp L x y) ?_ x y
  intro x y ih hb
  have hb' := both_iff.1 hb
  have hbM := both_append (M := M) hb
  by_cases hne : x = y
  · subst hne; rw [cmp_self, cmp_self]
  · have e1 := nd_append (M := M) hb'.1.1 hb'.1.2
    have e2 := nd_append (M := M) hb'.2.1 hb'.2.2
    by_cases ht : top (nd L x) (nd L y) = 0
    · rw [cmp_deep h hne hb ht, cmp_deep h' hne hbM (by rw [e1, e2]; exact ht), e1, e2]
      exact ih _ _ (h.fd_lt hne hb ht) (h.fd_both hne hb ht)
    · rw [cmp_top hne hb ht, cmp_top hne hbM (by rw [e1, e2]; exact ht), e1, e2]

def many (k : Int) : Int := if k = 0 ∨ k = 1 ∨ k = 9 then 0 else if k = 2 then 1 else if k = 3 ∨ k = 4 ∨ k = 5 ∨ k = 6 ∨ k = 8 then 2 else if k = 7 then 3 else -1
def partOk (n : Nat) (m i p : Int) : Bool := if i < m then hasB n p else decide (p = 0)
def numOk (d : Nd) : Bool := if d.k = 6 then decide (1 ≤ d.n ∧ d.n ≤ 4) else if d.k = 1 ∨ d.k = 7 ∨ d.k = 9 then true else decide (d.n = 0)
def lastOk (L : List Nd) (d : Nd) : Bool := if d.k = 3 then decide (cmp L d.a d.b ≤ 0) else if d.k = 4 then decide ((nd L d.b).k ≠ 2) else true
def partsOk (n : Nat) (d : Nd) : Bool := partOk n (many d.k) 0 d.a && (partOk n (many d.k) 1 d.b && partOk n (many d.k) 2 d.c)
/-- May a node be? -/
def right (L : List Nd) (d : Nd) : Bool := decide (0 ≤ many d.k) && (partsOk L.length d && (numOk d && lastOk L d))

theorem right_iff {L : List Nd} {d : Nd} : right L d = true ↔ 0 ≤ many d.k ∧ partsOk L.length d = true ∧ numOk d = true ∧ lastOk L d = true := by
  unfold right; simp [Bool.and_eq_true]

theorem partOk_held {n : Nat} {m i p : Int} (hn : 0 < n) (h : partOk n m i p = true) : 0 ≤ p ∧ p < n := by
  unfold partOk at h
  split at h
  · exact hasB_iff.1 h
  · simp at h; omega
theorem partsOk_held {n : Nat} {d : Nd} (hn : 0 < n) (h : partsOk n d = true) : (0 ≤ d.a ∧ d.a < n) ∧ (0 ≤ d.b ∧ d.b < n) ∧ (0 ≤ d.c ∧ d.c < n) := by
  unfold partsOk at h
  simp only [Bool.and_eq_true] at h
  exact ⟨partOk_held hn h.1, partOk_held hn h.2.1, partOk_held hn h.2.2⟩
theorem partOk_mono {n n' : Nat} {m i p : Int} (hn : n ≤ n') (h : partOk n m i p = true) : partOk n' m i p = true := by
  unfold partOk at *
  split
  · rename_i hi
    rw [if_pos hi, hasB_iff] at h
    rw [hasB_iff]; omega
  · rename_i hi
    rw [if_neg hi] at h; exact h
theorem partsOk_mono {n n' : Nat} {d : Nd} (hn : n ≤ n') (h : partsOk n d = true) : partsOk n' d = true := by
  unfold partsOk at *
  simp only [Bool.and_eq_true] at *
  exact ⟨partOk_mono hn h.1, partOk_mono hn h.2.1, partOk_mono hn h.2.2⟩

theorem right_append {L M : List Nd} (h : WFp L) (h' : WFp (L ++ M)) {d : Nd} (hr : right L d = true) : right (L ++ M) d = true := by
  rw [right_iff] at *
  obtain ⟨h1, h2, h3, h4⟩ := hr
  have hp := partsOk_held h.pos h2
  refine ⟨h1, partsOk_mono (by simp) h2, h3, ?_⟩
  unfold lastOk at *
  rw [cmp_append h h' d.a d.b (both_iff.2 ⟨hp.1, hp.2.1⟩), nd_append hp.2.1.1 hp.2.1.2]
  exact h4

/-- Where a node stands. -/
def ix (d : Nd) : List Nd → Option Nat
  | [] => none
  | x :: r => if x = d then some 0 else (ix d r).map (· + 1)
theorem ix_some {d : Nd} : ∀ {L : List Nd} {i : Nat}, ix d L = some i → i < L.length ∧ L.getD i zN = d ∧ ∀ j, j < i → L.getD j zN ≠ d := by
  intro L
  induction L with
  | nil => intro i h; simp [ix] at h
  | cons x r ih =>
    intro i h
    unfold ix at h
    split at h
    · rename_i e
      simp at h; subst h
      exact ⟨by simp, by simpa using e, fun j hj => by omega⟩
    · rename_i e
      cases hr : ix d r with
      | none => rw [hr] at h; simp at h
      | some i' =>
        rw [hr] at h; simp at h; subst h
        obtain ⟨h1, h2, h3⟩ := ih hr
        refine ⟨by simpa using h1, by simpa using h2, fun j hj => ?_⟩
        cases j with
        | zero => simpa using e
        | succ j => simpa using h3 j (by omega)
theorem ix_none {d : Nd} : ∀ {L : List Nd}, ix d L = none → ∀ j, j < L.length → L.getD j zN ≠ d := by
  intro L
  induction L with
  | nil => intro _ j hj; simp at hj
  | cons x r ih =>
    intro h j hj
    unfold ix at h
    split at h
    · simp at h
    · rename_i e
      cases hr : ix d r with
      | some i' => rw [hr] at h; simp at h
      | none =>
        cases j with
        | zero => simpa using e
        | succ j => simpa using ih hr j (by simpa using hj)
theorem ix_of {d : Nd} {L : List Nd} {i : Nat} (hi : i < L.length) (h : L.getD i zN = d) (hf : ∀ j, j < i → L.getD j zN ≠ d) : ix d L = some i := by
  cases hx : ix d L with
  | none => exact absurd h (ix_none hx i hi)
  | some i' =>
    obtain ⟨h1, h2, h3⟩ := ix_some hx
    rcases Nat.lt_trichotomy i i' with hlt | he | hgt
    · exact absurd h (h3 i hlt)
    · rw [he]
    · exact absurd h2 (hf i' hgt)
theorem ix_no {d : Nd} {L : List Nd} (h : ∀ j, j < L.length → L.getD j zN ≠ d) : ix d L = none := by
  cases hx : ix d L with
  | none => rfl
  | some i => exact absurd (ix_some hx).2.1 (h i (ix_some hx).1)

structure WF (L : List Nd) : Prop extends WFp L where
  ok : ∀ i : Nat, i < L.length → (L.getD i zN).ok
  good : ∀ i : Nat, i < L.length → right L (L.getD i zN) = true

theorem WF.ix_at {L : List Nd} (h : WF L) {i : Nat} (hi : i < L.length) : ix (L.getD i zN) L = some i :=
  ix_of hi rfl fun j hj e => absurd (h.nodup j i (by omega) hi e) (by omega)

theorem getD_snoc_old {L : List Nd} {d : Nd} {i : Nat} (hi : i < L.length) : (L ++ [d]).getD i zN = L.getD i zN := by
  rw [List.getD_eq_getElem?_getD, List.getD_eq_getElem?_getD, List.getElem?_append_left hi]
theorem getD_snoc_new (L : List Nd) (d : Nd) : (L ++ [d]).getD L.length zN = d := by
  rw [List.getD_eq_getElem?_getD, List.getElem?_append_right (Nat.le_refl _)]; simp

theorem inAt_of {p : Int} {n : Nat} (h : 0 ≤ p ∧ p < n) : inAt p n := ⟨h.1, .inl h.2⟩

theorem WFp.snoc {L : List Nd} (h : WFp L) {d : Nd} (hp : partsOk L.length d = true) (hn : ix d L = none) : WFp (L ++ [d]) := by
  have hq := partsOk_held h.pos hp
  refine ⟨by rw [List.getElem?_append_left h.pos]; exact h.head, ?_, ?_⟩
  · intro i j hi hj he
    simp only [List.length_append, List.length_cons, List.length_nil] at hi hj
    by_cases h1 : i < L.length
    · by_cases h2 : j < L.length
      · rw [getD_snoc_old h1, getD_snoc_old h2] at he; exact h.nodup i j h1 h2 he
      · obtain rfl : j = L.length := by omega
        rw [getD_snoc_old h1, getD_snoc_new] at he
        exact absurd he (ix_none hn i h1)
    · obtain rfl : i = L.length := by omega
      by_cases h2 : j < L.length
      · rw [getD_snoc_new, getD_snoc_old h2] at he
        exact absurd he.symm (ix_none hn j h2)
      · omega
  · intro i hi
    simp only [List.length_append, List.length_cons, List.length_nil] at hi
    by_cases h1 : i < L.length
    · rw [getD_snoc_old h1]; exact h.parts i h1
    · obtain rfl : i = L.length := by omega
      rw [getD_snoc_new]
      exact ⟨inAt_of hq.1, inAt_of hq.2.1, inAt_of hq.2.2⟩

theorem WF.snoc {L : List Nd} (h : WF L) {d : Nd} (hok : d.ok) (hr : right L d = true) (hn : ix d L = none) : WF (L ++ [d]) := by
  have hp := h.toWFp.snoc (right_iff.1 hr).2.1 hn
  refine ⟨hp, ?_, ?_⟩
  · intro i hi
    simp only [List.length_append, List.length_cons, List.length_nil] at hi
    by_cases h1 : i < L.length
    · rw [getD_snoc_old h1]; exact h.ok i h1
    · obtain rfl : i = L.length := by omega
      rw [getD_snoc_new]; exact hok
  · intro i hi
    simp only [List.length_append, List.length_cons, List.length_nil] at hi
    by_cases h1 : i < L.length
    · rw [getD_snoc_old h1]; exact right_append h.toWFp hp (h.good i h1)
    · obtain rfl : i = L.length := by omega
      rw [getD_snoc_new]; exact right_append h.toWFp hp hr

theorem WF.one : WF [zN] := by
  refine ⟨⟨rfl, ?_, ?_⟩, ?_, ?_⟩
  · intro i j hi hj _; simp at hi hj; omega
  · intro i hi; simp at hi; subst hi; simp [zN, inAt]
  · intro i hi; simp at hi; subst hi; simp [zN, Nd.ok, i64ok, u64ok]
  · intro i hi; simp at hi; subst hi; simp [zN, right, many, partsOk, partOk, numOk, lastOk]

/-- Making a node: the terms behind it, the ref, the error. -/
def mkL (lim : Nat) (L : List Nd) (d : Nd) : List Nd := if right L d = true then (if (ix d L).isSome = true then L else if lim ≤ L.length then L else L ++ [d]) else L
def mkR (lim : Nat) (L : List Nd) (d : Nd) : Int := if right L d = true then (match ix d L with | some i => (i : Int) | none => if lim ≤ L.length then 0 else (L.length : Int)) else 0
def mkE (lim : Nat) (L : List Nd) (d : Nd) : Int := if right L d = true then (if (ix d L).isSome = true then 0 else if lim ≤ L.length then 3 else 0) else 1

theorem mk_wrong {lim : Nat} {L : List Nd} {d : Nd} (h : right L d = false) : mkL lim L d = L ∧ mkR lim L d = 0 ∧ mkE lim L d = 1 := by simp [mkL, mkR, mkE, h]
theorem mk_old {lim : Nat} {L : List Nd} {d : Nd} {i : Nat} (h : right L d = true) (hi : ix d L = some i) : mkL lim L d = L ∧ mkR lim L d = i ∧ mkE lim L d = 0 := by simp [mkL, mkR, mkE, h, hi]
theorem mk_full {lim : Nat} {L : List Nd} {d : Nd} (h : right L d = true) (hi : ix d L = none) (hl : lim ≤ L.length) : mkL lim L d = L ∧ mkR lim L d = 0 ∧ mkE lim L d = 3 := by simp [mkL, mkR, mkE, h, hi, hl]
theorem mk_new {lim : Nat} {L : List Nd} {d : Nd} (h : right L d = true) (hi : ix d L = none) (hl : L.length < lim) : mkL lim L d = L ++ [d] ∧ mkR lim L d = L.length ∧ mkE lim L d = 0 := by
  have hl' : ¬ lim ≤ L.length := by omega
  simp [mkL, mkR, mkE, h, hi, hl']

theorem mk_wf {lim : Nat} {L : List Nd} {d : Nd} (h : WF L) (hok : d.ok) : WF (mkL lim L d) := by
  cases hr : right L d
  · rw [(mk_wrong hr).1]; exact h
  · cases hi : ix d L with
    | some i => rw [(mk_old hr hi).1]; exact h
    | none =>
      by_cases hl : lim ≤ L.length
      · rw [(mk_full hr hi hl).1]; exact h
      · rw [(mk_new hr hi (by omega)).1]; exact h.snoc hok hr hi
theorem mk_len {lim : Nat} {L : List Nd} {d : Nd} (h : L.length ≤ lim) : L.length ≤ (mkL lim L d).length ∧ (mkL lim L d).length ≤ lim ∧ (mkL lim L d).length ≤ L.length + 1 := by
  unfold mkL
  split
  · split
    · omega
    · split
      · omega
      · simp; omega
  · omega

/-- Sharing: the node that is made. -/
def shN (L : List Nd) (x y : Int) : Nd :=
  if (nd L y).k ≠ 2 then ⟨4, 0, x, y, 0⟩ else if cmp L x (nd L y).a ≤ 0 then ⟨3, 0, x, (nd L y).a, 0⟩ else ⟨3, 0, (nd L y).a, x, 0⟩
def shL (lim : Nat) (L : List Nd) (x y : Int) : List Nd := if both L x y = true then mkL lim L (shN L x y) else L
def shR (lim : Nat) (L : List Nd) (x y : Int) : Int := if both L x y = true then mkR lim L (shN L x y) else 0
def shE (lim : Nat) (L : List Nd) (x y : Int) : Int := if both L x y = true then mkE lim L (shN L x y) else 1

theorem i64ok_of {x : Int} {n : Nat} (h : 0 ≤ x ∧ x < n) (hn : n ≤ 65536) : i64ok x := by unfold i64ok; omega
theorem shN_ok {L : List Nd} (h : WF L) (hn : L.length ≤ 65536) {x y : Int} (hb : both L x y = true) : (shN L x y).ok := by
  have hb' := both_iff.1 hb
  have hx := i64ok_of hb'.1 hn
  have hy := i64ok_of hb'.2 hn
  have hz : i64ok (nd L y).a := (h.ok y.toNat (by omega)).2.2.1
  have h3 : i64ok 3 := by simp [i64ok]
  have h4 : i64ok 4 := by simp [i64ok]
  have h0 : i64ok 0 := by simp [i64ok]
  have u0 : u64ok 0 := by simp [u64ok]
  unfold shN
  split
  · exact ⟨h4, u0, hx, hy, h0⟩
  · split
    · exact ⟨h3, u0, hx, hz, h0⟩
    · exact ⟨h3, u0, hz, hx, h0⟩
end Go.Proofs.YtgjhhipkfglpgaaDoor

namespace Go.Proofs.YtgjhhipkfglpgaaDoor

theorem ix_append {d : Nd} {L M : List Nd} {i : Nat} (h : ix d L = some i) : ix d (L ++ M) = some i := by
  obtain ⟨h1, h2, h3⟩ := ix_some h
  have g : ∀ j, j < L.length → (L ++ M).getD j zN = L.getD j zN := fun j hj => by
    rw [List.getD_eq_getElem?_getD, List.getD_eq_getElem?_getD, List.getElem?_append_left hj]
  exact ix_of (by simp; omega) (by rw [g i h1]; exact h2) (fun j hj => by rw [g j (by omega)]; exact h3 j hj)

/-- What is made without an error stands in the arena. -/
theorem mk_at {lim : Nat} {L : List Nd} {d : Nd} (h : WF L) (hok : d.ok) (he : mkE lim L d = 0) :
    right L d = true ∧ ∃ i : Nat, mkR lim L d = i ∧ i < (mkL lim L d).length ∧ (mkL lim L d).getD i zN = d ∧ ix d (mkL lim L d) = some i ∧ right (mkL lim L d) d = true ∧ (∃ M, mkL lim L d = L ++ M) := by
  cases hr : right L d
  · rw [(mk_wrong hr).2.2] at he; exact absurd he (by decide)
  · refine ⟨rfl, ?_⟩
    cases hi : ix d L with
    | some i =>
      rw [(mk_old hr hi).1, (mk_old hr hi).2.1]
      exact ⟨i, rfl, (ix_some hi).1, (ix_some hi).2.1, hi, hr, [], by simp⟩
    | none =>
      by_cases hl : lim ≤ L.length
      · rw [(mk_full hr hi hl).2.2] at he; exact absurd he (by decide)
      · have hm := mk_new hr hi (show L.length < lim by omega)
        have hwf := h.snoc hok hr hi
        rw [hm.1, hm.2.1]
        refine ⟨L.length, rfl, by simp, getD_snoc_new L d, ?_, right_append h.toWFp hwf.toWFp hr, [d], rfl⟩
        have := hwf.ix_at (i := L.length) (by simp)
        rw [getD_snoc_new] at this
        exact this
theorem mk_err {lim : Nat} {L : List Nd} {d : Nd} (h : WF L) (he : mkE lim L d ≠ 0) : mkL lim L d = L ∧ ix d L = none := by
  cases hr : right L d
  · refine ⟨(mk_wrong hr).1, ix_no fun j hj e => ?_⟩
    have := h.good j hj
    rw [e, hr] at this; cases this
  · cases hi : ix d L with
    | some i => rw [(mk_old hr hi).2.2] at he; exact absurd rfl he
    | none =>
      by_cases hl : lim ≤ L.length
      · exact ⟨(mk_full hr hi hl).1, rfl⟩
      · rw [(mk_new hr hi (by omega)).2.2] at he; exact absurd rfl he
theorem mk_had {lim : Nat} {L : List Nd} {d : Nd} (h : WF L) {i : Nat} (hi : ix d L = some i) : mkL lim L d = L ∧ mkR lim L d = i ∧ mkE lim L d = 0 := by
  have hr : right L d = true := by
    have := h.good i (ix_some hi).1
    rw [(ix_some hi).2.1] at this; exact this
  exact mk_old hr hi
theorem mk_room {lim : Nat} {L : List Nd} {d : Nd} (hr : right L d = true) (hl : L.length < lim) : mkE lim L d = 0 := by
  cases hi : ix d L with
  | some i => exact (mk_old hr hi).2.2
  | none => exact (mk_new hr hi hl).2.2

theorem shN_right {L : List Nd} (h : WF L) {x y : Int} (hb : both L x y = true) : right L (shN L x y) = true := by
  have hb' := both_iff.1 hb
  have e1 : hasB L.length x = true := hasB_iff.2 hb'.1
  have e2 : hasB L.length y = true := hasB_iff.2 hb'.2
  have py := (h.toWFp.nd_parts hb'.2.1 hb'.2.2).1
  have e3 : hasB L.length (nd L y).a = true := hasB_iff.2 (by unfold inAt at py; have := h.toWFp.pos; omega)
  rw [right_iff]
  unfold shN
  split
  · rename_i hk
    exact ⟨by simp [many], by simp [partsOk, partOk, many, e1, e2], by simp [numOk], by simpa [lastOk] using hk⟩
  · split
    · rename_i hc
      exact ⟨by simp [many], by simp [partsOk, partOk, many, e1, e3], by simp [numOk], by simpa [lastOk] using hc⟩
    · rename_i hc
      refine ⟨by simp [many], by simp [partsOk, partOk, many, e1, e3], by simp [numOk], ?_⟩
      have := cmp_neg h.toWFp x (nd L y).a
      simp [lastOk]; omega

theorem shN_append {L M : List Nd} (h : WF L) (h' : WF (L ++ M)) {x y : Int} (hb : both L x y = true) : shN (L ++ M) x y = shN L x y := by
  have hb' := both_iff.1 hb
  have py := (h.toWFp.nd_parts hb'.2.1 hb'.2.2).1
  have h3 : both L x (nd L y).a = true := both_iff.2 ⟨hb'.1, by unfold inAt at py; have := h.toWFp.pos; omega⟩
  unfold shN
  rw [nd_append hb'.2.1 hb'.2.2, cmp_append h.toWFp h'.toWFp _ _ h3]

theorem shN_kind (L : List Nd) (x y : Int) : (shN L x y).k = if (nd L y).k = 2 then 3 else 4 := by
  unfold shN
  by_cases h : (nd L y).k = 2
  · rw [if_neg (by simpa using h), if_pos h]; split <;> rfl
  · rw [if_pos h, if_neg h]

/-- Sharing twice. -/
theorem sh_twice {lim : Nat} {L : List Nd} (h : WF L) (hn : L.length ≤ 65536) {x y : Int} (hb : both L x y = true) (he : shE lim L x y = 0) :
    ∃ i : Nat, shR lim L x y = i ∧ i < (shL lim L x y).length ∧ (shL lim L x y).getD i zN = shN L x y ∧ WF (shL lim L x y) ∧ both (shL lim L x y) x y = true ∧ nd (shL lim L x y) y = nd L y ∧ (∃ M, shL lim L x y = L ++ M) ∧
      shL lim (shL lim L x y) x y = shL lim L x y ∧ shR lim (shL lim L x y) x y = i ∧ shE lim (shL lim L x y) x y = 0 := by
  have hb' := both_iff.1 hb
  have e1 : shL lim L x y = mkL lim L (shN L x y) := by unfold shL; rw [if_pos hb]
  have e2 : shR lim L x y = mkR lim L (shN L x y) := by unfold shR; rw [if_pos hb]
  have e3 : shE lim L x y = mkE lim L (shN L x y) := by unfold shE; rw [if_pos hb]
  rw [e3] at he
  obtain ⟨hr, i, h1, h2, h3, h4, h5, M, hM⟩ := mk_at h (shN_ok h hn hb) he
  have hwf : WF (mkL lim L (shN L x y)) := mk_wf h (shN_ok h hn hb)
  have hbM : both (mkL lim L (shN L x y)) x y = true := by rw [hM]; exact both_append hb
  have hs : shN (mkL lim L (shN L x y)) x y = shN L x y := by
    have w2 := hwf; rw [hM] at w2 ⊢; exact shN_append h w2 hb
  refine ⟨i, by rw [e2, h1], by rw [e1]; exact h2, by rw [e1]; exact h3, by rw [e1]; exact hwf, by rw [e1]; exact hbM, by rw [e1, hM]; exact nd_append hb'.2.1 hb'.2.2, ⟨M, by rw [e1, hM]⟩, ?_, ?_, ?_⟩
  · rw [e1]; unfold shL; rw [if_pos hbM, hs]; exact (mk_old h5 h4).1
  · rw [e1]; unfold shR; rw [if_pos hbM, hs]; exact (mk_old h5 h4).2.1
  · rw [e1]; unfold shE; rw [if_pos hbM, hs]; exact (mk_old h5 h4).2.2

theorem sh_both {lim : Nat} {L : List Nd} {x y : Int} (he : shE lim L x y = 0) : both L x y = true := by
  cases hb : both L x y
  · unfold shE at he; rw [hb] at he; simp at he
  · rfl

/-- A secret and another one's public key: the same the other way round. -/
theorem sh_back {lim : Nat} {L : List Nd} (h : WF L) (hn : L.length ≤ 65536) {x y : Int} (he : shE lim L x y = 0) (hk : (nd (shL lim L x y) y).k = 2) (hg : mkE lim (shL lim L x y) ⟨2, 0, x, 0, 0⟩ = 0) (hx : i64ok x) :
    shR lim (mkL lim (shL lim L x y) ⟨2, 0, x, 0, 0⟩) (nd (shL lim L x y) y).a (mkR lim (shL lim L x y) ⟨2, 0, x, 0, 0⟩) = shR lim L x y ∧
    shE lim (mkL lim (shL lim L x y) ⟨2, 0, x, 0, 0⟩) (nd (shL lim L x y) y).a (mkR lim (shL lim L x y) ⟨2, 0, x, 0, 0⟩) = 0 := by
  have hb := sh_both he
  have hb' := both_iff.1 hb
  obtain ⟨i, r1, r2, r3, hw1, hb1, hny, ⟨M, hM⟩, _, _, _⟩ := sh_twice h hn hb he
  obtain ⟨L1, hL1⟩ : ∃ L1, L1 = shL lim L x y := ⟨_, rfl⟩
  rw [← hL1] at hk hg r2 r3 hw1 hb1 hny hM ⊢
  rw [hny] at hk ⊢
  have pok : (⟨2, 0, x, 0, 0⟩ : Nd).ok := ⟨by simp [i64ok], by simp [u64ok], hx, by simp [i64ok], by simp [i64ok]⟩
  obtain ⟨_, j, q1, q2, q3, q4, _, M2, hM2⟩ := mk_at hw1 pok hg
  have hw2 : WF (mkL lim L1 ⟨2, 0, x, 0, 0⟩) := mk_wf hw1 pok
  obtain ⟨L2, hL2⟩ : ∃ L2, L2 = mkL lim L1 ⟨2, 0, x, 0, 0⟩ := ⟨_, rfl⟩
  rw [← hL2] at q2 q3 q4 hM2 hw2 ⊢
  rw [q1, r1]
  have py := (h.toWFp.nd_parts hb'.2.1 hb'.2.2).1
  have ha : 0 ≤ (nd L y).a ∧ (nd L y).a < L.length := by unfold inAt at py; have := h.toWFp.pos; omega
  have hlen : L.length ≤ L2.length := by rw [hM2, hM]; simp
  have hb2 : both L2 (nd L y).a j = true := both_iff.2 ⟨by omega, by omega⟩
  have hndj : nd L2 (j : Int) = ⟨2, 0, x, 0, 0⟩ := by unfold nd; simpa using q3
  have hL2' : L2 = L ++ (M ++ M2) := by rw [hM2, hM, List.append_assoc]
  have hc : cmp L2 (nd L y).a x = cmp L (nd L y).a x := by
    rw [hL2']; exact cmp_append h.toWFp (by rw [← hL2']; exact hw2.toWFp) _ _ (both_iff.2 ⟨ha, hb'.1⟩)
  have hsame : shN L2 (nd L y).a j = shN L x y := by
    unfold shN
    simp only [hndj, hk, hc, ne_eq, not_true_eq_false, if_false]
    have hneg := cmp_neg h.toWFp (nd L y).a x
    by_cases hxa : x = (nd L y).a
    · rw [← hxa, cmp_self]
    · have hz : cmp L x (nd L y).a ≠ 0 := fun e => hxa ((cmp_zero h.toWFp _ _).1 e)
      by_cases hle : cmp L x (nd L y).a ≤ 0
      · rw [if_pos hle, if_neg (by omega)]
      · rw [if_neg hle, if_pos (by omega)]
  have hix1 : ix (shN L x y) L1 = some i := by
    have := hw1.ix_at r2; rw [r3] at this; exact this
  have hix : ix (shN L x y) L2 = some i := by rw [hM2]; exact ix_append hix1
  have hold := mk_had (lim := lim) hw2 hix
  exact ⟨by unfold shR; rw [if_pos hb2, hsame]; exact hold.2.1, by unfold shE; rw [if_pos hb2, hsame]; exact hold.2.2⟩
end Go.Proofs.YtgjhhipkfglpgaaDoor
