/- Layer 8: which keys a pattern requires. Plain mathematics: no program is named here. -/
import Derived.Test.YtjnijppghgemeaaDoorCa
import Derived.Test.YtjnijppghgemeaaDoorBa
namespace Go.Proofs.YtjnijppghgemeaaDoor

/-- What a participant needs, or has. -/
structure Kq where
  s : Bool
  e : Bool
  rs : Bool
  re : Bool
  n : Int
def zq : Kq := ⟨false, false, false, false, 0⟩
/-- One of the two announces a key in a message. -/
def annB (ms : List Ms) (r k : Int) : Bool := ms.any fun m => decide (m.fr = r) && m.t.contains k
def kq (p : Pt) (r : Int) : Kq := ⟨tld p r 2 (flat p.ms), (prw p r).contains 1, (prw p (1 - r)).contains 2, (prw p (1 - r)).contains 1, (met 2 7 (flat p.ms) : Nat)⟩
def kqE (p : Pt) (r : Int) : Int := if r = 0 ∨ r = 1 then ckE p else 1
def kqP (p : Pt) (r : Int) : Kq := if kqE p r = 0 then kq p r else zq
def enB (a b : Kq) : Bool := (!a.s || b.s) && (!a.e || b.e) && (!a.rs || b.rs) && (!a.re || b.re) && decide (a.n = b.n)
def snB (p : Pt) (r msg : Int) : Bool := decide (0 ≤ msg) && decide (msg < p.ms.length) && decide ((p.ms.getD msg.toNat default).fr = r)
/-- What is compared in Enough. -/
def usq (a b : Kq) : Kq := ⟨a.s && b.s, a.e && b.e, a.rs && b.rs, a.re && b.re, b.n⟩
def eqB (a b : Kq) : Bool := decide (a.s = b.s) && decide (a.e = b.e) && decide (a.rs = b.rs) && decide (a.re = b.re) && decide (a.n = b.n)
theorem usq_en (a b : Kq) : eqB (usq a b) a = enB a b := by
  obtain ⟨a1, a2, a3, a4, a5⟩ := a
  obtain ⟨b1, b2, b3, b4, b5⟩ := b
  have e : (decide (b5 = a5)) = decide (a5 = b5) := by rw [Bool.eq_iff_iff]; simp [eq_comm]
  unfold eqB usq enB
  simp only [e]
  cases a1 <;> cases a2 <;> cases a3 <;> cases a4 <;> cases b1 <;> cases b2 <;> cases b3 <;> cases b4 <;> simp
theorem en_self (a : Kq) : enB a a = true := by
  obtain ⟨a1, a2, a3, a4, a5⟩ := a
  cases a1 <;> cases a2 <;> cases a3 <;> cases a4 <;> simp [enB]
theorem en_more {a b : Kq} (h : enB a b = true) : enB a ⟨true, true, true, true, a.n⟩ = true ∧ enB ⟨false, false, false, false, a.n⟩ b = true := by
  obtain ⟨a1, a2, a3, a4, a5⟩ := a
  obtain ⟨b1, b2, b3, b4, b5⟩ := b
  simp only [enB, Bool.and_eq_true, decide_eq_true_eq] at h ⊢
  simp [h.2]

theorem flat_hit (who t : Int) (m : Ms) (hw : who = 0 ∨ who = 1) : decide (0 < met who t (m.t.map fun t => (m.fr, t))) = (decide (m.fr = who) && m.t.contains t) := by
  have hw2 : ¬ who = 2 := by omega
  rw [Bool.eq_iff_iff]
  simp only [decide_eq_true_eq, Bool.and_eq_true, List.contains_iff_mem, met, List.countP_pos_iff]
  constructor
  · rintro ⟨x, hx, hh⟩
    obtain ⟨u, hu, rfl⟩ := List.mem_map.1 hx
    simp only [hitB, hw2, decide_false, Bool.false_or, Bool.and_eq_true, decide_eq_true_eq] at hh
    exact ⟨hh.2, hh.1 ▸ hu⟩
  · rintro ⟨hf, ht⟩
    exact ⟨(m.fr, t), List.mem_map.2 ⟨t, ht, rfl⟩, by simp [hitB, hf]⟩
theorem ann_met (ms : List Ms) (r k : Int) (hr : r = 0 ∨ r = 1) : annB ms r k = decide (0 < met r k (flat ms)) := by
  induction ms with
  | nil => simp [annB, flat, met]
  | cons m l ih =>
    rw [flat_cons, met_add]
    have h1 := flat_hit r k m hr
    unfold annB at ih ⊢
    rw [List.any_cons, ih, ← h1, Bool.eq_iff_iff]
    simp only [Bool.or_eq_true, decide_eq_true_eq]
    omega
theorem kq_s (p : Pt) (r : Int) (hr : r = 0 ∨ r = 1) : ((prw p r).contains 2 || annB p.ms r 2) = tld p r 2 (flat p.ms) := by
  unfold tld; rw [ann_met _ _ _ hr]
theorem ann_take {ms : List Ms} {r k : Int} {i : Nat} (h : i < ms.length) (h1 : annB (ms.take i) r k = false) (h2 : (decide ((ms.getD i default).fr = r) && (ms.getD i default).t.contains k) = false) : annB (ms.take (i + 1)) r k = false := by
  unfold annB at h1 ⊢
  rw [take_next h, List.any_append, h1]; simpa using h2
theorem ann_at {ms : List Ms} {r k : Int} {i : Nat} (h : i < ms.length) (h2 : (decide ((ms.getD i default).fr = r) && (ms.getD i default).t.contains k) = true) : annB ms r k = true := by
  unfold annB
  rw [List.any_eq_true]
  refine ⟨ms.getD i default, ?_, h2⟩
  rw [List.getD_eq_getElem?_getD, List.getElem?_eq_getElem h]; exact List.getElem_mem _
/-- How many psks a list of tokens has. -/
def pkN (l : List Int) : Nat := l.countP fun t => decide (t = 7)
theorem pk_row (m : Ms) : met 2 7 (m.t.map fun t => (m.fr, t)) = pkN m.t := by
  unfold met pkN
  rw [List.countP_map]
  congr 1
  funext t
  simp [hitB]
theorem pk_next {l : List Int} {i : Nat} (h : i < l.length) : pkN (l.take (i + 1)) = pkN (l.take i) + if l.getD i 0 = 7 then 1 else 0 := by
  unfold pkN
  rw [take_nextI h, List.countP_append, List.countP_singleton]
  simp
theorem pk_flat {ms : List Ms} {i : Nat} (h : i < ms.length) : met 2 7 (flat (ms.take (i + 1))) = met 2 7 (flat (ms.take i)) + pkN (ms.getD i default).t := by
  rw [flat_next h, met_add, pk_row]
theorem pk_le (l : List Int) (i : Nat) : pkN (l.take i) ≤ l.length := Nat.le_trans List.countP_le_length (by simp [List.length_take]; omega)
theorem pk_mono (l : List Int) (i : Nat) : pkN (l.take i) ≤ pkN l := by
  unfold pkN
  exact List.Sublist.countP_le (List.take_sublist i l)
theorem flat_take_le (ms : List Ms) (i : Nat) : (flat (ms.take i)).length ≤ (flat ms).length := by
  conv => rhs; rw [← List.take_append_drop i ms]
  rw [flat_app, List.length_append]
  omega
theorem met_le (who t : Int) (L : List Tk) : met who t L ≤ L.length := List.countP_le_length

/-! With a psk more. -/
theorem met_perm (who t r : Int) (l : List Int) (n : Int) : met who t ((insT n l).map fun u => (r, u)) = met who t (l.map fun u => (r, u)) + if hitB who t (r, 7) then 1 else 0 := by
  unfold insT
  by_cases hn : n = 0
  · rw [if_pos hn, List.map_cons]
    unfold met
    rw [List.countP_cons]
  · rw [if_neg hn, List.map_append, met_add]
    simp only [List.map_cons, List.map_nil, met_one]
theorem met_set (who t : Int) (m' : Ms) (d : Nat) : ∀ (ms : List Ms) (i : Nat), i < ms.length → met who t (m'.t.map fun u => (m'.fr, u)) = met who t ((ms.getD i default).t.map fun u => ((ms.getD i default).fr, u)) + d → met who t (flat (ms.set i m')) = met who t (flat ms) + d
  | [], i, h, _ => by simp at h
  | m :: l, 0, _, h => by
    simp only [List.set_cons_zero, flat_cons, met_add]
    simp only [List.getD_cons_zero] at h
    omega
  | m :: l, i + 1, hi, h => by
    simp only [List.set_cons_succ, flat_cons, met_add]
    rw [met_set who t m' d l i (by simpa using hi) (by simpa using h)]
    omega
theorem psk_met {p : Pt} {n : Int} (h : pskE p n = 0) (who t : Int) : met who t (flat (pskP p n).ms) = met who t (flat p.ms) + if hitB who t ((p.ms.getD (pskI n) default).fr, 7) then 1 else 0 := by
  obtain ⟨hr, ho⟩ := psk_ok h
  rw [psk_eq h]
  exact met_set who t _ _ _ _ (pskI_lt hr ho) (met_perm who t _ _ n)
theorem psk_need {p : Pt} {n r : Int} (h : pskE p n = 0) (h1 : kqE p r = 0) (h2 : kqE (pskP p n) r = 0) : kqP (pskP p n) r = { kqP p r with n := (kqP p r).n + 1 } := by
  unfold kqP
  rw [if_pos h1, if_pos h2]
  unfold kq tld
  rw [psk_met h, psk_met h]
  have e : prw (pskP p n) = prw p := by funext r; rw [psk_eq h]; rfl
  rw [e]
  simp [hitB]

/-! Both participants. -/
theorem prw_zero (p : Pt) : prw p 0 = p.p0 := rfl
theorem prw_one (p : Pt) : prw p 1 = p.p1 := rfl
theorem need_both (p : Pt) : (kq p 0).re = (kq p 1).e ∧ (kq p 1).re = (kq p 0).e ∧ (kq p 0).n = (kq p 1).n ∧ ((kq p 0).rs = true → (kq p 1).s = true) ∧ ((kq p 1).rs = true → (kq p 0).s = true) := by
  have e0 : (1 : Int) - 0 = 1 := by decide
  have e1 : (1 : Int) - 1 = 0 := by decide
  refine ⟨by simp only [kq, e0], by simp only [kq, e1], rfl, fun h => ?_, fun h => ?_⟩
  · simp only [kq, e0] at h ⊢
    unfold tld; rw [h]; rfl
  · simp only [kq, e1] at h ⊢
    unfold tld; rw [h]; rfl

/-! Base patterns of two letters. -/
theorem two_ok : ∀ i, i < 12 → kqE (basePs.getD (3 + i) zP) 0 = 0 ∧ kqE (basePs.getD (3 + i) zP) 1 = 0 ∧ (basePs.getD (3 + i) zP).nm.length = 2 := by decide
def twoB (i : Nat) : Bool :=
  let p := basePs.getD (3 + i) zP
  let c := p.nm.getD 0 0
  let d := p.nm.getD 1 0
  decide ((kq p 0).s = !decide (c = 78)) && decide ((kq p 1).s = !decide (d = 78)) && decide ((kq p 0).rs = decide (d = 75)) && decide ((kq p 1).rs = decide (c = 75)) && !(kq p 0).e && !(kq p 1).re && decide ((kq p 0).n = 0)
theorem two_all : ∀ i, i < 12 → twoB i = true := by decide
def ikB : Pt := basePs.getD 13 zP
theorem ikb_need : kqE ikB 0 = 0 ∧ kqE ikB 1 = 0 ∧ kq ikB 0 = ⟨true, false, true, false, 0⟩ ∧ kq ikB 1 = ⟨true, false, false, false, 0⟩ := by
  refine ⟨by decide, by decide, ?_, ?_⟩ <;> rfl
end Go.Proofs.YtjnijppghgemeaaDoor
