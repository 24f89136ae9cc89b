/- Layer 2 in plain mathematics: how a text is read. No program is named. -/
import Derived.Test.YtmnmjekpndeemaaGreatDoorRa
import Derived.Lib.SplitLaws
import Derived.Lib.ParseIntB
import Derived.Lib.Strings
namespace Go.Proofs.YtmnmjekpndeemaaGreatDoor

/-- A text cut at each instance of a byte. -/
def spl (c : UInt8) : List UInt8 → List (List UInt8)
  | [] => [[]]
  | x :: l => if x = c then [] :: spl c l else match spl c l with
    | [] => [[x]]
    | h :: t => (x :: h) :: t
theorem spl_ne (c : UInt8) : ∀ l, spl c l ≠ []
  | [] => by simp [spl]
  | x :: l => by
    unfold spl
    split
    · simp
    · split <;> simp
theorem spl_same (c : UInt8) (l : List UInt8) : spl c (c :: l) = [] :: spl c l := by simp [spl]
theorem spl_other {c x : UInt8} {l h : List UInt8} {t : List (List UInt8)} (hx : x ≠ c) (hs : spl c l = h :: t) : spl c (x :: l) = (x :: h) :: t := by unfold spl; rw [if_neg hx, hs]
theorem splitK_eq (c : UInt8) : ∀ s : List UInt8, Lib.splitK [c] 0 (s.count c) s = spl c s
  | [] => by simp [Lib.splitK, spl]
  | b :: l => by
    by_cases hb : b = c
    · subst hb
      rw [List.count_cons_self, spl_same, Lib.splitK]
      have hix : Lib.index (b :: l) [b] = 0 := by rw [Lib.index]; simp [List.isPrefixOf]
      rw [hix, if_neg (by decide), ← splitK_eq b l]
      simp
    · have ih := splitK_eq c l
      rw [List.count_cons_of_ne (by simpa using hb)]
      have hp : ([c] : List UInt8).isPrefixOf (b :: l) = false := by simp [List.isPrefixOf, Ne.symm hb]
      have hix : Lib.index (b :: l) [c] = if Lib.index l [c] == -1 then -1 else Lib.index l [c] + 1 := by rw [Lib.index, hp]; simp
      cases hk : l.count c with
      | zero =>
        rw [hk] at ih
        simp only [Lib.splitK] at ih ⊢
        exact (spl_other hb ih.symm).symm
      | succ m =>
        have hne : Lib.index l [c] ≠ -1 := fun e => by
          have := Lib.count_miss e
          rw [Lib.count_one] at this; omega
        have hge := Lib.index_ge l [c]
        obtain ⟨j, hj⟩ : ∃ j : Nat, Lib.index l [c] = j := ⟨(Lib.index l [c]).toNat, by omega⟩
        have hix' : Lib.index (b :: l) [c] = ((j + 1 : Nat) : Int) := by rw [hix, if_neg (fun e => hne (beq_iff_eq.1 e)), hj]; omega
        rw [hk, Lib.splitK, hj, if_neg (by simp <;> omega)] at ih
        rw [Lib.splitK, hix', if_neg (by simp <;> omega)]
        have h2 := spl_other hb ih.symm
        rw [h2]
        simp
theorem spl_len (c : UInt8) : ∀ l : List UInt8, (spl c l).length ≤ l.length + 1
  | [] => by simp [spl]
  | x :: l => by
    have h := spl_len c l
    have hn := spl_ne c l
    by_cases hx : x = c
    · subst hx; rw [spl_same]; simp; omega
    · cases hs : spl c l with
      | nil => exact absurd hs hn
      | cons a t => rw [spl_other hx hs]; rw [hs] at h; simp at h ⊢; omega
theorem spl_none {c : UInt8} : ∀ {l : List UInt8}, c ∉ l → spl c l = [l]
  | [], _ => rfl
  | x :: l, h => by
    simp only [List.mem_cons, not_or] at h
    exact spl_other (Ne.symm h.1) (spl_none h.2)
theorem spl_cat {c : UInt8} {r : List UInt8} : ∀ {l : List UInt8}, c ∉ l → spl c (l ++ c :: r) = l :: spl c r
  | [], _ => spl_same c r
  | x :: l, h => by
    simp only [List.mem_cons, not_or] at h
    exact spl_other (Ne.symm h.1) (spl_cat h.2)
theorem spl_mem {c : UInt8} : ∀ {l : List UInt8} {p : List UInt8}, p ∈ spl c l → p.length ≤ l.length
  | [], p, h => by simp [spl] at h; simp [h]
  | x :: l, p, h => by
    have hn := spl_ne c l
    by_cases hx : x = c
    · subst hx
      rw [spl_same] at h
      simp only [List.mem_cons] at h
      rcases h with rfl | h
      · simp
      · have := spl_mem h; simp; omega
    · cases hs : spl c l with
      | nil => exact absurd hs hn
      | cons a t =>
        rw [spl_other hx hs] at h
        simp only [List.mem_cons] at h
        rcases h with rfl | h
        · have := spl_mem (c := c) (l := l) (p := a) (by rw [hs]; simp); simp; omega
        · have := spl_mem (c := c) (l := l) (p := p) (by rw [hs]; simp [h]); simp; omega

/-- A number's digits. -/
def pnum (l : List UInt8) : Option Nat := match Lib.parseUintB 64 l with
  | .ok u => some u
  | _ => none
/-- All of a list's numbers, or none. -/
def pall : List (List UInt8) → Option (List Nat)
  | [] => some []
  | x :: l => (pnum x).bind fun u => (pall l).bind fun r => some (u :: r)
theorem pall_snoc {l : List (List UInt8)} {x : List UInt8} : pall (l ++ [x]) = (pall l).bind fun r => (pnum x).bind fun u => some (r ++ [u]) := by
  induction l with
  | nil => cases h : pnum x <;> simp [pall, h]
  | cons y l ih =>
    simp only [List.cons_append, pall, ih]
    cases pnum y with
    | none => rfl
    | some u =>
      cases pall l with
      | none => rfl
      | some r => cases pnum x <;> simp
theorem pall_none {l r : List (List UInt8)} (h : pall l = none) : pall (l ++ r) = none := by
  induction l with
  | nil => simp [pall] at h
  | cons y l ih =>
    simp only [List.cons_append, pall] at h ⊢
    cases hy : pnum y with
    | none => rfl
    | some u =>
      rw [hy] at h
      cases hp : pall l with
      | none => rw [ih hp]; rfl
      | some r => rw [hp] at h; simp at h
theorem pall_len : ∀ {l : List (List UInt8)} {r : List Nat}, pall l = some r → r.length = l.length
  | [], r, h => by simp [pall] at h; simp [← h]
  | x :: l, r, h => by
    simp only [pall, Option.bind_eq_some_iff, Option.some.injEq] at h
    obtain ⟨u, _, r', h2, rfl⟩ := h
    simp [pall_len h2]
theorem parseM_lt {M : Nat} : ∀ {l : List UInt8} {a u : Nat}, a ≤ M → Lib.parseUintM M a l = .ok u → u ≤ M
  | [], a, u, ha, h => by simp [Lib.parseUintM] at h; omega
  | c :: r, a, u, ha, h => by
    unfold Lib.parseUintM at h
    split at h
    · split at h
      · cases h
      · split at h
        · cases h
        · exact parseM_lt (by omega) h
    · cases h
theorem pnum_lt {l : List UInt8} {u : Nat} (h : pnum l = some u) : u < 18446744073709551616 := by
  unfold pnum at h
  split at h
  · rename_i v hv
    obtain rfl := Option.some.inj h
    unfold Lib.parseUintB at hv
    split at hv
    · cases hv
    · have := parseM_lt (by omega) hv; omega
  · cases h
theorem pall_lt : ∀ {l : List (List UInt8)} {r : List Nat}, pall l = some r → ∀ x ∈ r, x < 18446744073709551616
  | [], r, h => by simp [pall] at h; subst h; simp
  | x :: l, r, h => by
    simp only [pall, Option.bind_eq_some_iff, Option.some.injEq] at h
    obtain ⟨u, hu, r', h2, rfl⟩ := h
    intro y hy
    simp only [List.mem_cons] at hy
    rcases hy with rfl | hy
    · exact pnum_lt hu
    · exact pall_lt h2 y hy

/-- A row's node, of the refs so far. -/
def prow (refs : List Int) : List Nat → Option Nd
  | k :: n :: is => if (k < 10 ∧ (is.length : Int) = many k) ∧ ∀ i ∈ is, i < refs.length then some ⟨k, n, (is.map (refs.getD · 0)).getD 0 0, (is.map (refs.getD · 0)).getD 1 0, (is.map (refs.getD · 0)).getD 2 0⟩ else none
  | _ => none
theorem prow_cons (refs : List Int) (k n : Nat) (is : List Nat) : prow refs (k :: n :: is) = if (k < 10 ∧ (is.length : Int) = many k) ∧ ∀ i ∈ is, i < refs.length then some ⟨k, n, (is.map (refs.getD · 0)).getD 0 0, (is.map (refs.getD · 0)).getD 1 0, (is.map (refs.getD · 0)).getD 2 0⟩ else none := rfl
theorem prow_big {refs : List Int} {ns : List Nat} (h : 10 ≤ ns.getD 0 0) : prow refs ns = none := by
  match ns, h with
  | [], _ => rfl
  | [_], _ => rfl
  | k :: n :: is, h =>
    rw [prow_cons, if_neg]
    intro h'
    simp at h
    omega
theorem prow_len {refs : List Int} {ns : List Nat} (h : (ns.length : Int) ≠ 2 + many (ns.getD 0 0 : Nat)) : prow refs ns = none := by
  match ns, h with
  | [], _ => rfl
  | [_], _ => rfl
  | k :: n :: is, h =>
    rw [prow_cons, if_neg]
    intro h'
    simp at h
    omega
theorem prow_idx {refs : List Int} {ns : List Nat} {j : Nat} (hj : 2 + j < ns.length) (h : refs.length ≤ ns.getD (2 + j) 0) : prow refs ns = none := by
  match ns, hj, h with
  | [], hj, _ => simp at hj
  | [_], hj, _ => simp at hj <;> omega
  | k :: n :: is, hj, h =>
    rw [prow_cons, if_neg]
    intro h'
    have e : (k :: n :: is).getD (2 + j) 0 = is.getD j 0 := by rw [Nat.add_comm]; simp
    rw [e] at h
    simp only [List.length_cons] at hj
    have hj' : j < is.length := by omega
    have := h'.2 (is.getD j 0) (by rw [List.getD_eq_getElem?_getD, List.getElem?_eq_getElem hj']; simp)
    omega
/-- What a row's j-th part is. -/
def ptJ (refs : List Int) (ns : List Nat) (j : Nat) : Int := if 2 + j < ns.length then refs.getD (ns.getD (2 + j) 0) 0 else 0
theorem prow_ok {refs : List Int} {ns : List Nat} (hk : ns.getD 0 0 < 10) (hl : (ns.length : Int) = 2 + many (ns.getD 0 0 : Nat)) (hi : ∀ j, 2 + j < ns.length → ns.getD (2 + j) 0 < refs.length) :
    prow refs ns = some ⟨(ns.getD 0 0 : Nat), (ns.getD 1 0 : Nat), ptJ refs ns 0, ptJ refs ns 1, ptJ refs ns 2⟩ := by
  have hm := many_range ((ns.getD 0 0 : Nat) : Int)
  match ns, hk, hl, hi with
  | [], _, hl, _ => simp [many] at hl
  | [k], _, hl, _ =>
    simp at hl
    have : 0 ≤ many (k : Int) := by
      unfold many; split <;> (try split) <;> (try split) <;> (try split) <;> simp_all <;> omega
    omega
  | k :: n :: is, hk, hl, hi =>
    have e : ∀ j, (k :: n :: is).getD (2 + j) 0 = is.getD j 0 := fun j => by rw [Nat.add_comm]; simp
    have hp : ∀ j, ptJ refs (k :: n :: is) j = (is.map (refs.getD · 0)).getD j 0 := fun j => by
      unfold ptJ
      rw [e]
      by_cases hj : j < is.length
      · rw [if_pos (by simp; omega)]
        simp [List.getD, List.getElem?_eq_getElem hj]
      · rw [if_neg (by simp; omega)]
        simp [List.getD, List.getElem?_eq_none (Nat.le_of_not_lt hj)]
    rw [hp, hp, hp]
    rw [prow_cons, if_pos]
    · rfl
    · refine ⟨⟨by simpa using hk, by simp at hl; omega⟩, fun i hi' => ?_⟩
      obtain ⟨j, hj, rfl⟩ := List.mem_iff_getElem.1 hi'
      have := hi j (by simp; omega)
      rw [e, List.getD_eq_getElem?_getD, List.getElem?_eq_getElem hj] at this
      simpa using this
/-- A row is read, and made. -/
def stn (lim : Nat) (st : List Nd × List Int) (ns : List Nat) : Option (List Nd × List Int) :=
  (prow st.2 ns).bind fun d => if mkE lim st.1 d = 0 then some (mkL lim st.1 d, st.2 ++ [mkR lim st.1 d]) else none
def stp (st : Option (List Nd × List Int)) (row : List UInt8) : Option (List Nd × List Int) := st.bind fun st => (pall (spl 32 row)).bind (stn 65536 st)
theorem stp_none : ∀ l : List (List UInt8), l.foldl stp none = none
  | [] => rfl
  | _ :: l => stp_none l
/-- A text's term, in an arena of its own. -/
def pars (s : List UInt8) : Option (List Nd × Int) :=
  if 16384 < s.length then none else
  (((spl 59 (Lib.trimSuffix s [59])).foldl stp (some ([zN], []))).bind fun st => if txt st.1 (st.2.getLastD 0) = s then some (st.1, st.2.getLastD 0) else none)

/-- A term is carried over, row by row. -/
def cnode (own : List Nd) (f : Int → Option Int) (x : Int) : Nd := ⟨(nd own x).k, (nd own x).n, (f (nd own x).a).getD 0, (f (nd own x).b).getD 0, (f (nd own x).c).getD 0⟩
def put1 (f : Int → Option Int) (x v : Int) : Int → Option Int := fun y => if y = x then some v else f y
def car (lim : Nat) (own : List Nd) : List Int → List Nd → (Int → Option Int) → List Nd × (Int → Option Int) × Int
  | [], L, f => (L, f, 0)
  | x :: t, L, f => if mkE lim L (cnode own f x) = 0 then car lim own t (mkL lim L (cnode own f x)) (put1 f x (mkR lim L (cnode own f x))) else (L, f, mkE lim L (cnode own f x))
def f0 : Int → Option Int := fun y => if y = 0 then some 0 else none
def carry (lim : Nat) (L own : List Nd) (ref : Int) : List Nd × (Int → Option Int) × Int := car lim own (rows own ref) L f0
def rdL (lim : Nat) (L : List Nd) (s : List UInt8) : List Nd := match pars s with
  | none => L
  | some (own, ref) => if (carry lim L own ref).2.2 = 0 then (carry lim L own ref).1 else L
def rdR (lim : Nat) (L : List Nd) (s : List UInt8) : Int := match pars s with
  | none => 0
  | some (own, ref) => if (carry lim L own ref).2.2 = 0 then ((carry lim L own ref).2.1 ref).getD 0 else 0
def rdE (lim : Nat) (L : List Nd) (s : List UInt8) : Int := match pars s with
  | none => 2
  | some (own, ref) => (carry lim L own ref).2.2
end Go.Proofs.YtmnmjekpndeemaaGreatDoor
