/- Layer 3 in plain mathematics: the document's own answer for what is known, with all that comes of it. No program is named. -/
import Derived.Test.YtljjpcbldfhffaaDoorVf
namespace Go.Proofs.YtljjpcbldfhffaaDoor

/-- What comes of the term at a place, in a round. -/
def rpick (L : List Nd) (can out : List Bool) (i : Nat) : List Bool :=
  let o1 := if out.getD i false = true ∧ (L.getD i zN).k = 8 then (out.set (L.getD i zN).a.toNat true).set (L.getD i zN).b.toNat true else out
  if o1.getD i false = true ∧ (L.getD i zN).k = 7 ∧ can.getD (L.getD i zN).a.toNat false = true then o1.set (L.getD i zN).c.toNat true else o1
def rpicks (L : List Nd) (can out : List Bool) : Nat → List Bool
  | 0 => out
  | n + 1 => rpick L can (rpicks L can out n) n
def rround (L : List Nd) (out : List Bool) : List Bool := rpicks L (rcan L out L.length) out L.length
def rclose (L : List Nd) (out : List Bool) : Nat → List Bool
  | 0 => out
  | n + 1 => rround L (rclose L out n)

theorem rpick_len (L : List Nd) (can out : List Bool) (i : Nat) : (rpick L can out i).length = out.length := by
  unfold rpick; simp only; split <;> split <;> simp
theorem rpicks_len (L : List Nd) (can out : List Bool) : ∀ n, (rpicks L can out n).length = out.length
  | 0 => rfl
  | n + 1 => by rw [rpicks, rpick_len, rpicks_len L can out n]
theorem rround_len (L : List Nd) (out : List Bool) : (rround L out).length = out.length := rpicks_len _ _ _ _
theorem rclose_len (L : List Nd) (out : List Bool) : ∀ n, (rclose L out n).length = out.length
  | 0 => rfl
  | n + 1 => by rw [rclose, rround_len, rclose_len L out n]

theorem set_at {l : List Bool} {i j : Nat} : (l.set i true).getD j false = true ↔ l.getD j false = true ∨ (j = i ∧ i < l.length) := by
  rw [List.getD_eq_getElem?_getD, List.getD_eq_getElem?_getD, List.getElem?_set]
  by_cases e : i = j
  · subst e
    by_cases h : i < l.length
    · simp [h]
    · simp [h]
  · simp [e, Ne.symm e]
/-- What a place adds. -/
theorem rpick_at {L : List Nd} {can out : List Bool} {i j : Nat} : (rpick L can out i).getD j false = true ↔ out.getD j false = true ∨
    (out.getD i false = true ∧ (L.getD i zN).k = 8 ∧ ((j = (L.getD i zN).a.toNat ∨ j = (L.getD i zN).b.toNat) ∧ j < out.length)) ∨
    (out.getD i false = true ∧ (L.getD i zN).k = 7 ∧ can.getD (L.getD i zN).a.toNat false = true ∧ j = (L.getD i zN).c.toNat ∧ j < out.length) := by
  unfold rpick
  simp only
  by_cases h8 : out.getD i false = true ∧ (L.getD i zN).k = 8
  · rw [if_pos h8, if_neg (by rw [h8.2]; omega)]
    rw [set_at, set_at, List.length_set]
    constructor
    · rintro ((h | h) | h)
      · exact .inl h
      · exact .inr (.inl ⟨h8.1, h8.2, .inl h.1, by omega⟩)
      · exact .inr (.inl ⟨h8.1, h8.2, .inr h.1, by omega⟩)
    · rintro (h | ⟨_, _, h, hl⟩ | ⟨_, h, _⟩)
      · exact .inl (.inl h)
      · rcases h with h | h
        · exact .inl (.inr ⟨h, by omega⟩)
        · exact .inr ⟨h, by omega⟩
      · omega
  · rw [if_neg h8]
    split
    · rename_i h7
      rw [set_at]
      constructor
      · rintro (h | h)
        · exact .inl h
        · exact .inr (.inr ⟨h7.1, h7.2.1, h7.2.2, h.1, by omega⟩)
      · rintro (h | h | h)
        · exact .inl h
        · exact absurd ⟨h.1, h.2.1⟩ h8
        · exact .inr ⟨h.2.2.2.1, by omega⟩
    · rename_i h7
      constructor
      · exact .inl
      · rintro (h | h | h)
        · exact h
        · exact absurd ⟨h.1, h.2.1⟩ h8
        · exact absurd ⟨h.1, h.2.1, h.2.2.1⟩ h7
theorem rpicks_up {L : List Nd} {can out : List Bool} {j : Nat} (h : out.getD j false = true) : ∀ n, (rpicks L can out n).getD j false = true
  | 0 => h
  | n + 1 => rpick_at.2 (.inl (rpicks_up h n))
theorem rpicks_mono {L : List Nd} {can out : List Bool} {j m : Nat} : ∀ {n}, m ≤ n → (rpicks L can out m).getD j false = true → (rpicks L can out n).getD j false = true
  | 0, h, h1 => by obtain rfl : m = 0 := by omega
                   exact h1
  | n + 1, h, h1 => by
    rcases Nat.lt_or_ge m (n + 1) with e | e
    · exact rpick_at.2 (.inl (rpicks_mono (by omega) h1))
    · obtain rfl : m = n + 1 := by omega
      exact h1
theorem rround_up {L : List Nd} {out : List Bool} {j : Nat} (h : out.getD j false = true) : (rround L out).getD j false = true := rpicks_up h _
theorem rclose_up {L : List Nd} {out : List Bool} {j : Nat} (h : out.getD j false = true) : ∀ n, (rclose L out n).getD j false = true
  | 0 => h
  | n + 1 => rround_up (rclose_up h n)

theorem getD_lt {l : List Bool} {i : Nat} (h : l.getD i false = true) : i < l.length := by
  rcases Nat.lt_or_ge i l.length with e | e
  · exact e
  · rw [List.getD_eq_getElem?_getD, List.getElem?_eq_none e] at h; simp at h
/-- A round stays inside whatever is shut. -/
theorem rround_in {L : List Nd} (hL : WF L) {S : Int → Prop} (hS : Shut L S) {out : List Bool} (_hl : out.length = L.length) (hin : ∀ r, knB out r → S r) : ∀ r, knB (rround L out) r → S r := by
  have hcan : ∀ x : Int, hasB L.length x = true → (rcan L out L.length).getD x.toNat false = true → Can L S x := fun x hx h => by
    have h' := hasB_iff.1 hx
    have := (rcan_iff hL out L.length (Nat.le_refl _) x.toNat (by omega)).1 h
    rw [show ((x.toNat : Nat) : Int) = x by omega] at this
    exact this.mono hin
  have key : ∀ n, n ≤ L.length → ∀ r, knB (rpicks L (rcan L out L.length) out n) r → S r := by
    intro n
    induction n with
    | zero => exact fun _ r h => hin r h
    | succ n ih =>
      intro hn r ⟨h0, h⟩
      have hb : hasB L.length (n : Int) = true := hasB_iff.2 ⟨by omega, by omega⟩
      obtain ⟨pa, pb, pc⟩ := nd_has hL hb
      have e : nd L (n : Int) = L.getD n zN := rfl
      rw [e] at pa pb pc
      have nn : ∀ {p : Int}, hasB L.length p = true → r.toNat = p.toNat → r = p := fun hp h => by have := hasB_iff.1 hp; omega
      rcases rpick_at.1 h with h | ⟨h1, h2, h3, _⟩ | ⟨h1, h2, h3, h4, _⟩
      · exact ih (by omega) r ⟨h0, h⟩
      · have hs := (hS n hb (ih (by omega) n ⟨by omega, h1⟩)).1 h2
        rcases h3 with h3 | h3
        · rw [nn pa h3]; exact hs.1
        · rw [nn pb h3]; exact hs.2
      · rw [nn pc h4]
        exact (hS n hb (ih (by omega) n ⟨by omega, h1⟩)).2 h2 (hcan _ pa h3)
  exact key L.length (Nat.le_refl _)
theorem rclose_in {L : List Nd} (hL : WF L) {S : Int → Prop} (hS : Shut L S) {out : List Bool} (hl : out.length = L.length) (hin : ∀ r, knB out r → S r) : ∀ n r, knB (rclose L out n) r → S r
  | 0 => hin
  | n + 1 => rround_in hL hS ((rclose_len L out n).trans hl) (rclose_in hL hS hl hin n)
/-- Where a round adds nothing, nothing more can be taken out. -/
theorem rround_shut {L : List Nd} (hL : WF L) {out : List Bool} (hl : out.length = L.length) (hfix : ∀ j, (rround L out).getD j false = true → out.getD j false = true) : Shut L (knB out) := by
  intro r hr hk
  have h' := hasB_iff.1 hr
  obtain ⟨i, rfl⟩ : ∃ i : Nat, r = i := ⟨r.toNat, by omega⟩
  obtain ⟨pa, pb, pc⟩ := nd_has hL hr
  have pa' := hasB_iff.1 pa
  have pb' := hasB_iff.1 pb
  have pc' := hasB_iff.1 pc
  have e : nd L (i : Int) = L.getD i zN := rfl
  have hi : (rpicks L (rcan L out L.length) out i).getD i false = true := rpicks_up hk.2 i
  have hlen := rpicks_len L (rcan L out L.length) out i
  have step : ∀ j, (rpicks L (rcan L out L.length) out (i + 1)).getD j false = true → out.getD j false = true := fun j h => hfix j (rpicks_mono (by omega) h)
  refine ⟨fun h8 => ⟨⟨pa'.1, step _ (rpick_at.2 (.inr (.inl ⟨hi, h8, .inl rfl, by rw [hlen]; omega⟩)))⟩, ⟨pb'.1, step _ (rpick_at.2 (.inr (.inl ⟨hi, h8, .inr rfl, by rw [hlen]; omega⟩)))⟩⟩, fun h7 hc => ⟨pc'.1, step _ (rpick_at.2 (.inr (.inr ⟨hi, h7, ?_, rfl, by rw [hlen]; omega⟩)))⟩⟩
  rw [← e]
  refine (rcan_iff hL out L.length (Nat.le_refl _) _ (by omega)).2 ?_
  rw [show (((nd L (i : Int)).a.toNat : Nat) : Int) = (nd L (i : Int)).a by omega]
  exact hc

/-- How many are known. -/
def kcnt (l : List Bool) : Nat := l.count true
theorem kcnt_le : ∀ {l m : List Bool}, l.length = m.length → (∀ j, l.getD j false = true → m.getD j false = true) → kcnt l ≤ kcnt m
  | [], [], _, _ => Nat.le_refl _
  | x :: l, y :: m, h, hj => by
    have h1 := kcnt_le (l := l) (m := m) (by simpa using h) fun j hh => by simpa using hj (j + 1) (by simpa using hh)
    have h0 := hj 0
    unfold kcnt at h1 ⊢
    cases x <;> cases y <;> simp_all <;> omega
theorem kcnt_lt : ∀ {l m : List Bool}, l.length = m.length → (∀ j, l.getD j false = true → m.getD j false = true) → (∃ j, m.getD j false = true ∧ ¬ l.getD j false = true) → kcnt l < kcnt m
  | [], [], _, _, ⟨j, h, _⟩ => by simp at h
  | x :: l, y :: m, h, hj, ⟨i, h1, h2⟩ => by
    have hlt : l.length = m.length := by simpa using h
    have hj' : ∀ j, l.getD j false = true → m.getD j false = true := fun j hh => by simpa using hj (j + 1) (by simpa using hh)
    have h0 := hj 0
    cases i with
    | zero =>
      have := kcnt_le hlt hj'
      unfold kcnt at this ⊢
      cases x <;> cases y <;> simp_all <;> omega
    | succ i =>
      have := kcnt_lt hlt hj' ⟨i, by simpa using h1, by simpa using h2⟩
      unfold kcnt at this ⊢
      cases x <;> cases y <;> simp_all <;> omega
theorem kcnt_top (l : List Bool) : kcnt l ≤ l.length := List.count_le_length
theorem kcnt_all : ∀ {l : List Bool}, l.length ≤ kcnt l → ∀ j, j < l.length → l.getD j false = true
  | [], _, j, hj => by simp at hj
  | x :: l, h, j, hj => by
    have h1 := kcnt_top l
    unfold kcnt at h h1
    cases x with
    | false => simp at h; omega
    | true =>
      simp at h
      cases j with
      | zero => rfl
      | succ j => simpa using kcnt_all (l := l) (by unfold kcnt; omega) j (by simpa using hj)
theorem rclose_grow {L : List Nd} (hL : WF L) {out : List Bool} (hl : out.length = L.length) : ∀ n, Shut L (knB (rclose L out n)) ∨ n ≤ kcnt (rclose L out n)
  | 0 => .inr (Nat.zero_le _)
  | n + 1 => by
    have hln := (rclose_len L out n).trans hl
    by_cases hfix : ∀ j, (rround L (rclose L out n)).getD j false = true → (rclose L out n).getD j false = true
    · have hs := rround_shut hL hln hfix
      refine .inl ?_
      have e : knB (rclose L out (n + 1)) = knB (rclose L out n) := funext fun r => propext ⟨fun h => ⟨h.1, hfix _ h.2⟩, fun h => ⟨h.1, rround_up h.2⟩⟩
      rw [e]; exact hs
    · have hx : ∃ j, (rround L (rclose L out n)).getD j false = true ∧ ¬ (rclose L out n).getD j false = true := by
        false_or_by_contra
        rename_i hc
        exact hfix fun j h => by
          false_or_by_contra
          rename_i h'
          exact hc ⟨j, h, h'⟩
      have hlt := kcnt_lt (rround_len L (rclose L out n)).symm (fun j h => rround_up h) hx
      rcases rclose_grow hL hl n with hs | hs
      · obtain ⟨j, h1, h2⟩ := hx
        have := rround_in hL hs hln (fun r h => h) (j : Int) ⟨by omega, h1⟩
        exact absurd this.2 h2
      · exact .inr (by show n + 1 ≤ kcnt (rround L (rclose L out n)); omega)
/-- As many rounds as terms are enough. -/
theorem rclose_iff {L : List Nd} (hL : WF L) {out : List Bool} (hl : out.length = L.length) (r : Int) : knB (rclose L out L.length) r ↔ cl L (knB out) r := by
  constructor
  · exact rclose_in hL (cl_shut L _) hl (fun r h => cl_in h) L.length r
  · intro h
    have hln := (rclose_len L out L.length).trans hl
    have hb : ∀ x, knB out x → knB (rclose L out L.length) x := fun x hx => ⟨hx.1, rclose_up hx.2 _⟩
    rcases rclose_grow hL hl L.length with hs | hs
    · exact cl_least hs hb h
    · have hall := kcnt_all (l := rclose L out L.length) (by omega)
      refine cl_least (S := fun x => knB (rclose L out L.length) x) ?_ hb h
      intro x hx _
      obtain ⟨pa, pb, pc⟩ := nd_has hL hx
      have f : ∀ {p : Int}, hasB L.length p = true → knB (rclose L out L.length) p := fun hp => by
        have := hasB_iff.1 hp
        exact ⟨this.1, hall _ (by omega)⟩
      exact ⟨fun _ => ⟨f pa, f pb⟩, fun _ _ => f pc⟩

/-- What the document has known, behind a row of refs. -/
def rlearn (L : List Nd) : List Int → List Bool → List Bool
  | [], k => k
  | x :: l, k => rlearn L l (if hasB L.length x = true then rclose L (k.set x.toNat true) L.length else k)
theorem rlearn_len (L : List Nd) : ∀ (l : List Int) (k : List Bool), (rlearn L l k).length = k.length
  | [], _ => rfl
  | x :: l, k => by
    rw [rlearn, rlearn_len L l]
    split
    · rw [rclose_len, List.length_set]
    · rfl
theorem rlearn_iff {L : List Nd} (hL : WF L) : ∀ (l pre : List Int) (k : List Bool), k.length = L.length → (∀ r, knB k r ↔ lrn L pre r) → ∀ r, knB (rlearn L l k) r ↔ lrn L (pre ++ l) r
  | [], pre, k, _, h, r => by rw [List.append_nil]; exact h r
  | x :: l, pre, k, hl, h, r => by
    rw [rlearn, show pre ++ x :: l = (pre ++ [x]) ++ l by simp]
    by_cases hx : hasB L.length x = true
    · rw [if_pos hx]
      have h' := hasB_iff.1 hx
      refine rlearn_iff hL l (pre ++ [x]) _ (by rw [rclose_len, List.length_set]; exact hl) (fun y => ?_) r
      rw [rclose_iff hL (by rw [List.length_set]; exact hl), lrn_snoc hx]
      have e : knB (k.set x.toNat true) = fun y => lrn L pre y ∨ y = x := funext fun y => propext (by
        unfold knB
        rw [set_at]
        constructor
        · rintro ⟨h0, h1 | h1⟩
          · exact .inl ((h y).1 ⟨h0, h1⟩)
          · exact .inr (by omega)
        · rintro (h1 | rfl)
          · have := (h y).2 h1
            exact ⟨this.1, .inl this.2⟩
          · exact ⟨h'.1, .inr ⟨rfl, by omega⟩⟩)
      rw [e]
    · rw [if_neg hx]
      refine rlearn_iff hL l (pre ++ [x]) k hl (fun y => ?_) r
      rw [h y, lrn_skip (by simpa using hx)]
theorem rlearn_any {L : List Nd} (hL : WF L) (l : List Int) (r : Int) : knB (rlearn L l (List.replicate L.length false)) r ↔ lrn L l r := by
  have := rlearn_iff hL l [] (List.replicate L.length false) (by simp) (fun r => ⟨fun h => by
    have := h.2
    rw [List.getD_eq_getElem?_getD, List.getElem?_replicate] at this
    split at this <;> simp at this, fun h => absurd h (lrn_nil L r)⟩) r
  simpa using this
end Go.Proofs.YtljjpcbldfhffaaDoor
