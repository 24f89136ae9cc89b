/- Layer 9: the levels of messages. Plain mathematics: no program is named here. -/
import Derived.Test.YtahbbojhdkillaaDoorCa
import Derived.Test.YtahbbojhdkillaaDoorBa
namespace Go.Proofs.YtahbbojhdkillaaDoor

/-- What is met behind some tokens. -/
def mixF (f : Cs) (l : List Int) : Cs := fun k => f k || (decide (1 ≤ k) && decide (k ≤ 7) && l.contains (k : Int))
theorem mix_nil (f : Cs) : mixF f [] = f := by funext k; simp [mixF]
theorem mix_app (f : Cs) (l m : List Int) : mixF f (l ++ m) = mixF (mixF f l) m := by
  funext k
  simp only [mixF, List.contains_eq_mem, List.mem_append]
  cases f k <;> by_cases h1 : (k : Int) ∈ l <;> by_cases h2 : (k : Int) ∈ m <;> simp [h1, h2]
theorem mix_one_yes {f : Cs} {x : Int} (h : isTok x = true) : mixF f [x] = up f x.toNat := by
  unfold isTok at h
  simp only [Bool.and_eq_true, decide_eq_true_eq] at h
  funext k
  simp only [mixF, up, List.contains_eq_mem, List.mem_singleton]
  cases f k with
  | true => simp
  | false =>
    rw [Bool.eq_iff_iff]
    simp
    omega
theorem mix_one_no {f : Cs} {x : Int} (h : isTok x = false) : mixF f [x] = f := by
  unfold isTok at h
  simp only [Bool.and_eq_false_iff, decide_eq_false_iff_not] at h
  funext k
  simp only [mixF, List.contains_eq_mem, List.mem_singleton]
  cases f k with
  | true => simp
  | false =>
    rw [Bool.eq_iff_iff]
    simp
    omega
theorem mix_yes {f : Cs} {l : List Int} {i : Nat} (h : i < l.length) (ht : isTok (l.getD i 0) = true) : mixF f (l.take (i + 1)) = up (mixF f (l.take i)) (l.getD i 0).toNat := by
  rw [take_nextI h, mix_app, mix_one_yes ht]
theorem mix_no {f : Cs} {l : List Int} {i : Nat} (h : i < l.length) (ht : isTok (l.getD i 0) = false) : mixF f (l.take (i + 1)) = mixF f (l.take i) := by
  rw [take_nextI h, mix_app, mix_one_no ht]
theorem mix_twice (f : Cs) (l : List Int) : mixF (mixF f l) l = mixF f l := by
  funext k
  simp only [mixF]
  cases f k <;> cases decide (1 ≤ k) && decide (k ≤ 7) && l.contains (k : Int) <;> rfl

def stA (r : Int) : Nat := if r = 0 then 5 else 4
def stC (r : Int) : Nat := if r = 0 then 4 else 5
def auV (f : Cs) (r : Int) : Int := if f (stA r) then 2 else if f 6 then 1 else 0
def psV (x : Int) : Int := min (max x 0) 2
def cfV (f : Cs) (r last : Int) : Int := if f 3 && f (stC r) then 3 + psV last else if f 3 then 1 else if f (stC r) then 2 else 0
/-- A track. -/
structure Tr where
  f : Cs
  a : Int
  b : Int
def Tr.lst (t : Tr) (r : Int) : Int := if r = 0 then t.a else t.b
def Tr.mix (t : Tr) (l : List Int) : Tr := ⟨mixF t.f l, t.a, t.b⟩
def Tr.sent (t : Tr) (r : Int) : Tr := if r = 0 then ⟨t.f, auV t.f 0, t.b⟩ else if r = 1 then ⟨t.f, t.a, auV t.f 1⟩ else t
def Tr.lv (t : Tr) (r : Int) : Int × Int := if r = 0 ∨ r = 1 then (auV t.f r, cfV t.f r (t.lst (1 - r))) else (0, 0)
theorem au_range (f : Cs) (r : Int) : 0 ≤ auV f r ∧ auV f r ≤ 2 := by
  unfold auV; split
  · omega
  · split <;> omega
theorem ps_au (f : Cs) (r : Int) : psV (auV f r) = auV f r := by
  have := au_range f r
  unfold psV; omega
theorem au_grows (f : Cs) (l : List Int) (r : Int) : auV f r ≤ auV (mixF f l) r := by
  have h : ∀ k, f k = true → mixF f l k = true := fun k hk => by simp [mixF, hk]
  unfold auV
  cases e1 : f (stA r) with
  | true => rw [h _ e1]; simp
  | false =>
    cases e2 : f 6 with
    | true => rw [h _ e2]; simp; split <;> omega
    | false => simp; split
               · omega
               · split <;> omega

/-- The tokens of a message, and who sends it. -/
def toks (p : Pt) (i : Nat) : List Int := if i < p.ms.length then (p.ms.getD i default).t else []
def sdr (p : Pt) (i : Nat) : Int := if p.ms.length = 1 then (p.ms.getD 0 default).fr else (p.ms.getD (i % 2) default).fr
/-- The track ahead of a message. -/
def trk (p : Pt) : Nat → Tr
  | 0 => ⟨fun _ => false, 0, 0⟩
  | i + 1 => ((trk p i).mix (toks p i)).sent (sdr p i)
def lvl (p : Pt) (i : Nat) : Int × Int := ((trk p i).mix (toks p i)).lv (sdr p i)
def tbE (p : Pt) (many : Int) : Int := if many < 0 ∨ 100 < many then 1 else ckE p
def tbN (p : Pt) (many : Int) : Nat := if tbE p many = 0 then many.toNat else 0

theorem sent_f (t : Tr) (r : Int) : (t.sent r).f = t.f := by unfold Tr.sent; split <;> (try split) <;> rfl
theorem met_row2 (t fr : Int) (l : List Int) : decide (0 < met 2 t (l.map fun u => (fr, u))) = l.contains t := by
  have h := met_flat t [⟨fr, l⟩]
  simpa [flat] using h
theorem trk_f (p : Pt) : ∀ (i k : Nat), (trk p i).f k = (decide (1 ≤ k) && decide (k ≤ 7) && decide (0 < met 2 k (flat (p.ms.take i))))
  | 0, k => by simp [trk, flat_nil, met_nil]
  | i + 1, k => by
    show (((trk p i).mix (toks p i)).sent (sdr p i)).f k = _
    rw [sent_f]
    show ((trk p i).f k || _) = _
    rw [trk_f p i k]
    unfold toks
    by_cases h : i < p.ms.length
    · rw [if_pos h, flat_next h, met_add]
      have := met_row2 k (p.ms.getD i default).fr (p.ms.getD i default).t
      rw [← this]
      cases decide (1 ≤ k) && decide (k ≤ 7) with
      | false => simp
      | true => rw [Bool.eq_iff_iff]; simp; omega
    · rw [if_neg h, List.take_of_length_le (by omega), List.take_of_length_le (by omega)]
      simp
theorem mix_trk (p : Pt) (i : Nat) : ((trk p i).mix (toks p i)).f = (trk p (i + 1)).f := (sent_f _ _).symm
/-- What is met by the end of a message. -/
def metB (p : Pt) (t : Int) (k : Nat) : Bool := decide (0 < met 2 t (flat (p.ms.take (k + 1))))
theorem mix_met (p : Pt) (i k : Nat) (h1 : 1 ≤ k) (h7 : k ≤ 7) : ((trk p i).mix (toks p i)).f k = metB p k i := by
  rw [mix_trk, trk_f]; simp [h1, h7, metB]

/-! The reference's. -/
def sdR (p : Pt) (k : Nat) : Int := if p.ms.length = 1 ∨ k % 2 = 0 then (p.ms.getD 0 default).fr else 1 - (p.ms.getD 0 default).fr
def auR (p : Pt) (k : Nat) : Int := if metB p (if sdR p k = 1 then 4 else 5) k then 2 else if metB p 6 k then 1 else 0
/-- The loop's answer, from messages 0 to i. -/
def rcf (p : Pt) (k : Nat) : Nat → Int
  | 0 => 3
  | i + 1 => if sdR p i ≠ sdR p k then 3 + auR p i else rcf p k i
def cfR (p : Pt) (k : Nat) : Int :=
  if metB p 3 k && metB p (if sdR p k = 1 then 5 else 4) k then rcf p k k else if metB p (if sdR p k = 1 then 5 else 4) k then 2 else if metB p 3 k then 1 else 0
theorem fr01 {p : Pt} (h : right p = true) {i : Nat} (hi : i < p.ms.length) : (p.ms.getD i default).fr = 0 ∨ (p.ms.getD i default).fr = 1 := by
  refine (right_ms' h (m := p.ms.getD i default) ?_).1
  rw [List.getD_eq_getElem?_getD, List.getElem?_eq_getElem hi]; simp
theorem right_len {p : Pt} (h : right p = true) : 1 ≤ p.ms.length ∧ p.ms.length ≤ 6 := by
  simp only [right, Bool.and_eq_true, decide_eq_true_eq] at h
  exact ⟨h.1.1.1.1.2, h.1.1.1.2⟩
theorem sdr_eq {p : Pt} (h : ckE p = 0) (i : Nat) : sdr p i = sdR p i := by
  obtain ⟨hr, -, -, -, ht⟩ := ck_ok h
  have hl := right_len hr
  unfold sdr sdR
  by_cases h1 : p.ms.length = 1
  · rw [if_pos h1, if_pos (Or.inl h1)]
  · rw [if_neg h1]
    rcases Nat.mod_two_eq_zero_or_one i with e | e
    · rw [if_pos (Or.inr e), e]
    · rw [if_neg (by omega), e]
      have h2 := ht 1 (by omega) (by omega)
      have h3 := fr01 hr (i := 0) (by omega)
      have h4 := fr01 hr (i := 1) (by omega)
      simp only [Nat.sub_self] at h2
      omega
theorem sdR_role {p : Pt} (hr : right p = true) (i : Nat) : sdR p i = 0 ∨ sdR p i = 1 := by
  have hl := right_len hr
  have h3 := fr01 hr (i := 0) (by omega)
  unfold sdR
  split
  · exact h3
  · omega
theorem au_eq {p : Pt} (h : ckE p = 0) (i : Nat) : auV ((trk p i).mix (toks p i)).f (sdr p i) = auR p i := by
  have hs := sdR_role (ck_ok h).1 i
  rw [sdr_eq h]
  unfold auV auR
  rcases hs with e | e <;> rw [e]
  · rw [show stA 0 = 5 from rfl, mix_met p i 5 (by omega) (by omega), mix_met p i 6 (by omega) (by omega)]; rfl
  · rw [show stA 1 = 4 from rfl, mix_met p i 4 (by omega) (by omega), mix_met p i 6 (by omega) (by omega)]; rfl
theorem lst_eq {p : Pt} (h : ckE p = 0) (k : Nat) : ∀ i, rcf p k i = 3 + (trk p i).lst (1 - sdR p k)
  | 0 => by simp [rcf, trk, Tr.lst]
  | i + 1 => by
    have hk := sdR_role (ck_ok h).1 k
    have hi := sdR_role (ck_ok h).1 i
    have ih := lst_eq h k i
    have ha := au_eq h i
    show (if sdR p i ≠ sdR p k then 3 + auR p i else rcf p k i) = 3 + (((trk p i).mix (toks p i)).sent (sdr p i)).lst (1 - sdR p k)
    rw [ih]
    have hl : ((trk p i).mix (toks p i)).a = (trk p i).a ∧ ((trk p i).mix (toks p i)).b = (trk p i).b := ⟨rfl, rfl⟩
    rw [sdr_eq h] at ha ⊢
    unfold Tr.sent Tr.lst
    rcases hk with ek | ek <;> rcases hi with ei | ei <;> rw [ek, ei] <;> rw [ei] at ha <;> simp [hl, ha]
theorem cf_eq {p : Pt} (h : ckE p = 0) (k : Nat) : lvl p k = (auR p k, cfR p k) := by
  have hs := sdR_role (ck_ok h).1 k
  have hr : ∀ i, 0 ≤ auR p i ∧ auR p i ≤ 2 := fun i => by rw [← au_eq h]; exact au_range _ _
  have hb : ∀ i r, 0 ≤ (trk p i).lst r ∧ (trk p i).lst r ≤ 2 := by
    intro i r
    induction i with
    | zero => simp [trk, Tr.lst]
    | succ i ih =>
      have h0 := au_range ((trk p i).mix (toks p i)).f 0
      have h1 := au_range ((trk p i).mix (toks p i)).f 1
      have e : ∀ q : Tr, q.lst r = if r = 0 then q.a else q.b := fun _ => rfl
      have s : trk p (i + 1) = ((trk p i).mix (toks p i)).sent (sdr p i) := rfl
      rw [e] at ih
      rw [s, e]
      unfold Tr.sent
      have hl : ((trk p i).mix (toks p i)).a = (trk p i).a ∧ ((trk p i).mix (toks p i)).b = (trk p i).b := ⟨rfl, rfl⟩
      by_cases er : r = 0 <;> by_cases e0 : sdr p i = 0 <;> by_cases e1 : sdr p i = 1 <;> simp only [er, e0, e1, if_true, if_false, hl] at ih ⊢ <;> first | exact ih | exact h0 | exact h1 | omega
  unfold lvl Tr.lv
  have hs2 := sdr_eq h k
  rw [if_pos (by rw [hs2]; exact hs), au_eq h, Prod.mk.injEq]
  refine ⟨rfl, ?_⟩
  rw [hs2]
  unfold cfV cfR
  have hp : 3 + psV (((trk p k).mix (toks p k)).lst (1 - sdR p k)) = rcf p k k := by
    rw [lst_eq h k k]
    have := hb k (1 - sdR p k)
    show 3 + psV ((trk p k).lst (1 - sdR p k)) = _
    unfold psV; omega
  rw [hp]
  rcases hs with e | e <;> rw [e]
  · rw [show stC 0 = 4 from rfl, mix_met p k 4 (by omega) (by omega), mix_met p k 3 (by omega) (by omega)]
    show (if (metB p 3 k && metB p 4 k) = true then rcf p k k else if metB p 3 k = true then 1 else if metB p 4 k = true then 2 else 0) = (if (metB p 3 k && metB p 4 k) = true then rcf p k k else if metB p 4 k = true then 2 else if metB p 3 k = true then 1 else 0)
    cases metB p 3 k <;> cases metB p 4 k <;> rfl
  · rw [show stC 1 = 5 from rfl, mix_met p k 5 (by omega) (by omega), mix_met p k 3 (by omega) (by omega)]
    show (if (metB p 3 k && metB p 5 k) = true then rcf p k k else if metB p 3 k = true then 1 else if metB p 5 k = true then 2 else 0) = (if (metB p 3 k && metB p 5 k) = true then rcf p k k else if metB p 5 k = true then 2 else if metB p 3 k = true then 1 else 0)
    cases metB p 3 k <;> cases metB p 5 k <;> rfl
theorem lv_role {p : Pt} (h : ckE p = 0) (i : Nat) : sdr p i = 0 ∨ sdr p i = 1 := by rw [sdr_eq h]; exact sdR_role (ck_ok h).1 i

/-! Base patterns. -/
theorem base_ck : ∀ j, j < 15 → ckE (basePs.getD j zP) = 0 := by decide +kernel
theorem base_ends : ∀ j, j < 15 → ∀ k, k < 20 → (basePs.getD j zP).ms.length + 4 ≤ k → lvl (basePs.getD j zP) k = lvl (basePs.getD j zP) (k - 2) := by decide +kernel
def tabL : List (List Int) := [[0, 2], [1, 2], [1, 2], [0, 0, 0, 1, 0, 1], [0, 2, 2, 1, 0, 5], [0, 0, 2, 1, 0, 5], [0, 0, 0, 1, 2, 1, 0, 5], [0, 2, 2, 1, 2, 5, 2, 5], [0, 0, 2, 1, 2, 5, 2, 5],
  [0, 0, 0, 3, 2, 1, 0, 5], [1, 2, 2, 4, 2, 5, 2, 5], [0, 0, 2, 3, 2, 5, 2, 5], [0, 0, 0, 3, 2, 1, 0, 5], [1, 2, 2, 4, 2, 5, 2, 5], [0, 0, 2, 3, 2, 5, 2, 5]]
theorem tab_len : ∀ j, j < 15 → (tabL.getD j []).length ≤ 8 ∧ (tabL.getD j []).length % 2 = 0 := by decide
theorem base_tab : ∀ j, j < 15 → ∀ k, k < 4 → 2 * k < (tabL.getD j []).length → lvl (basePs.getD j zP) k = ((tabL.getD j []).getD (2 * k) 0, (tabL.getD j []).getD (2 * k + 1) 0) := by decide +kernel
def xxB : Pt := basePs.getD 8 zP
theorem xx_lv : lvl xxB 0 = (0, 0) ∧ lvl xxB 1 = (2, 1) ∧ lvl xxB 2 = (2, 5) ∧ ckE xxB = 0 := by decide +kernel
end Go.Proofs.YtahbbojhdkillaaDoor
