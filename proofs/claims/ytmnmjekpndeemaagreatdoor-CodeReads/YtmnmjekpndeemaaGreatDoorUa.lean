/- The reference's reader of layer 2 in plain mathematics: its numbers and words, taken byte by byte. No program is named. -/
import Derived.Test.YtmnmjekpndeemaaGreatDoorRh
namespace Go.Proofs.YtmnmjekpndeemaaGreatDoor

/-- Digits read one by one from the left. -/
theorem parseM_snoc (M : Nat) (c : UInt8) : ∀ (l : List UInt8) (a : Nat), Lib.parseUintM M a (l ++ [c]) = match Lib.parseUintM M a l with
    | .ok u => Lib.parseUintM M u [c]
    | e => e
  | [], a => by simp [Lib.parseUintM]
  | x :: l, a => by
    rw [List.cons_append]
    unfold Lib.parseUintM
    split
    · split
      · rfl
      · split
        · rfl
        · exact parseM_snoc M c l _
    · rfl
theorem parseM_bad (M : Nat) : ∀ (l r : List UInt8) (a : Nat), (∀ u, Lib.parseUintM M a l ≠ .ok u) → ∀ u, Lib.parseUintM M a (l ++ r) ≠ .ok u
  | [], _, a, h => by exact absurd rfl (h a)
  | x :: l, r, a, h => by
    intro u
    rw [List.cons_append]
    unfold Lib.parseUintM at h ⊢
    split at h
    · rename_i h1
      rw [if_pos h1]
      split at h
      · rename_i h2; rw [if_pos h2]; intro e; cases e
      · rename_i h2
        rw [if_neg h2]
        split at h
        · rename_i h3; rw [if_pos h3]; intro e; cases e
        · rename_i h3; rw [if_neg h3]; exact parseM_bad M l r _ h u
    · rename_i h1; rw [if_neg h1]; intro e; cases e

/-- Words laid one byte further. -/
theorem spl_snoc_same (c : UInt8) : ∀ l : List UInt8, spl c (l ++ [c]) = spl c l ++ [[]]
  | [] => by simp [spl]
  | x :: l => by
    have ih := spl_snoc_same c l
    rw [List.cons_append]
    by_cases hx : x = c
    · subst hx; rw [spl_same, spl_same, ih]; rfl
    · cases hs : spl c l with
      | nil => exact absurd hs (spl_ne c l)
      | cons h t =>
        rw [hs] at ih
        rw [spl_other hx hs, spl_other hx (ih.trans (List.cons_append ..))]
        rfl
theorem spl_snoc_other (c : UInt8) {b : UInt8} (hb : b ≠ c) : ∀ l : List UInt8, ∃ m z, spl c l = m ++ [z] ∧ spl c (l ++ [b]) = m ++ [z ++ [b]]
  | [] => ⟨[], [], by simp [spl], by simp [spl, hb]⟩
  | x :: l => by
    obtain ⟨m, z, h1, h2⟩ := spl_snoc_other c hb l
    rw [List.cons_append]
    by_cases hx : x = c
    · subst hx
      exact ⟨[] :: m, z, by rw [spl_same, h1]; rfl, by rw [spl_same, h2]; rfl⟩
    · cases m with
      | nil => exact ⟨[], x :: z, spl_other hx h1, spl_other hx h2⟩
      | cons a m => exact ⟨(x :: a) :: m, z, spl_other hx (h1.trans (List.cons_append ..)), spl_other hx (h2.trans (List.cons_append ..))⟩

/-- A number as the document writes it: one way only. -/
def rnum (l : List UInt8) : Option Nat := (pnum l).bind fun u => if Lib.decDigits u = l then some u else none
def rall : List (List UInt8) → Option (List Nat)
  | [] => some []
  | x :: l => (rnum x).bind fun u => (rall l).bind fun r => some (u :: r)
theorem rnum_pnum {l : List UInt8} {u : Nat} (h : rnum l = some u) : pnum l = some u ∧ Lib.decDigits u = l := by
  unfold rnum at h
  obtain ⟨v, hv, h2⟩ := Option.bind_eq_some_iff.1 h
  split at h2
  · rename_i e
    obtain rfl := Option.some.inj h2
    exact ⟨hv, e⟩
  · cases h2
theorem rall_pall : ∀ {l : List (List UInt8)} {r : List Nat}, rall l = some r → pall l = some r ∧ l = r.map Lib.decDigits
  | [], r, h => by simp [rall] at h; subst h; simp [pall]
  | x :: l, r, h => by
    simp only [rall, Option.bind_eq_some_iff, Option.some.injEq] at h
    obtain ⟨u, hu, r', h2, rfl⟩ := h
    obtain ⟨h3, h4⟩ := rnum_pnum hu
    obtain ⟨h5, h6⟩ := rall_pall h2
    refine ⟨by simp [pall, h3, h5], ?_⟩
    rw [List.map_cons, h4, ← h6]
theorem rall_of : ∀ {l : List (List UInt8)} {r : List Nat}, pall l = some r → l = r.map Lib.decDigits → rall l = some r
  | [], r, h, _ => by simp [pall] at h; subst h; simp [rall]
  | x :: l, r, h, e => by
    simp only [pall, Option.bind_eq_some_iff, Option.some.injEq] at h
    obtain ⟨u, hu, r', h2, rfl⟩ := h
    rw [List.map_cons] at e
    injection e with e1 e2
    have : rnum x = some u := by unfold rnum; rw [hu]; simp [e1]
    simp [rall, this, rall_of h2 e2]
theorem rall_snoc {l : List (List UInt8)} {x : List UInt8} : rall (l ++ [x]) = (rall l).bind fun r => (rnum x).bind fun u => some (r ++ [u]) := by
  induction l with
  | nil => cases h : rnum x <;> simp [rall, h]
  | cons y l ih =>
    simp only [List.cons_append, rall, ih]
    cases rnum y with
    | none => rfl
    | some u =>
      cases rall l with
      | none => rfl
      | some r => cases rnum x <;> simp
/-- A row of the reference's is read and made. -/
def rstp (lim : Nat) (st : Option (List Nd × List Int)) (row : List UInt8) : Option (List Nd × List Int) := st.bind fun st => (rall (spl 32 row)).bind (stn lim st)
theorem rstp_none (lim : Nat) : ∀ l : List (List UInt8), l.foldl (rstp lim) none = none
  | [] => rfl
  | _ :: l => rstp_none lim l
theorem rstp_stp {st : Option (List Nd × List Int)} {row : List UInt8} {st' : List Nd × List Int} (h : rstp 65536 st row = some st') : stp st row = some st' := by
  unfold rstp at h
  obtain ⟨s0, hs, h2⟩ := Option.bind_eq_some_iff.1 h
  obtain ⟨r, hr, h3⟩ := Option.bind_eq_some_iff.1 h2
  unfold stp
  rw [hs]
  simp [(rall_pall hr).1, h3]
theorem rfold_fold : ∀ {l : List (List UInt8)} {st : Option (List Nd × List Int)} {st' : List Nd × List Int}, l.foldl (rstp 65536) st = some st' → l.foldl stp st = some st'
  | [], _, _, h => h
  | x :: l, st, st', h => by
    rw [List.foldl_cons] at h ⊢
    cases hx : rstp 65536 st x with
    | none => rw [hx, rstp_none] at h; cases h
    | some s1 =>
      rw [hx] at h
      rw [rstp_stp hx]
      exact rfold_fold h
/-- The reference's reader. -/
def rrd (lim : Nat) (L : List Nd) (s : List UInt8) : Option (List Nd × Int) :=
  if (spl 59 s).getLastD [] = [] ∧ 1 < (spl 59 s).length then
    ((spl 59 s).dropLast.foldl (rstp lim) (some (L, []))).bind fun st => if txt st.1 (st.2.getLastD 0) = s then some (st.1, st.2.getLastD 0) else none
  else none
end Go.Proofs.YtmnmjekpndeemaaGreatDoor
