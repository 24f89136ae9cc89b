/- Layer 7: a pattern whose messages are all turned round. Plain mathematics: no program is named here. -/
import Derived.Test.YtobpnjjgpoompaaGreatDoorCa
import GoSem.Core.View
namespace Go.Proofs.YtobpnjjgpoompaaGreatDoor

def tw (t : Int) : Int := if t = 4 then 5 else if t = 5 then 4 else t
def trn (f : Int) : Int := IntKind.i64.wrap (1 - f)
def tm (m : Ms) : Ms := ⟨trn m.fr, m.t.map tw⟩
def tp (p : Pt) : Pt := ⟨p.nm, p.p1, p.p0, p.ms.map tm⟩
def swp (x : Tk) : Tk := (1 - x.1, tw x.2)
/-- A number of Go's. -/
def rng (f : Int) : Prop := -9223372036854775808 ≤ f ∧ f ≤ 9223372036854775807
theorem tw_tw (t : Int) : tw (tw t) = t := by
  unfold tw
  split
  · rename_i h; simp [h]
  · split
    · rename_i h; simp [h]
    · rename_i h1 h2; simp [h1, h2]
theorem tw_eq (a b : Int) : tw a = b ↔ a = tw b := ⟨fun h => by rw [← h, tw_tw], fun h => by rw [h, tw_tw]⟩
theorem tw_tok (t : Int) : isTok (tw t) = isTok t := by
  unfold tw
  split
  · rename_i h; subst h; rfl
  · split
    · rename_i h; subst h; rfl
    · rfl
theorem trn_01 {f : Int} (h : f = 0 ∨ f = 1) : trn f = 1 - f := by rcases h with rfl | rfl <;> rfl
theorem trn_ok {f : Int} (h : rng f) : (trn f = 0 ∨ trn f = 1) ↔ (f = 0 ∨ f = 1) := by
  unfold trn IntKind.wrap
  obtain ⟨h1, h2⟩ := h
  have e : (2 ^ IntKind.i64.bits : Int) = 18446744073709551616 := by decide
  have e2 : (2 ^ (IntKind.i64.bits - 1) : Int) = 9223372036854775808 := by decide
  simp only [e, e2]
  have hs : IntKind.i64.signed = true := rfl
  simp only [hs, Bool.true_and, decide_eq_true_eq]
  split <;> omega
theorem tm_ok {m : Ms} (h : rng m.fr) : msOk (tm m) = msOk m := by
  have h1 := trn_ok h
  have h2 : (m.t.map tw).all isTok = m.t.all isTok := by
    rw [List.all_map]; congr 1; funext t; exact tw_tok t
  unfold msOk tm
  simp only [List.length_map, h2]
  congr 3
  rw [Bool.eq_iff_iff]
  simpa using h1
theorem right_tp {p : Pt} (h : ∀ m ∈ p.ms, rng m.fr) : right (tp p) = right p := by
  have h1 : (p.ms.map tm).all msOk = p.ms.all msOk := by
    rw [List.all_map, Bool.eq_iff_iff, List.all_eq_true, List.all_eq_true]
    exact ⟨fun H m hm => by rw [← tm_ok (h m hm)]; exact H m hm, fun H m hm => by rw [Function.comp, tm_ok (h m hm)]; exact H m hm⟩
  unfold right tp
  simp only [List.length_map, h1]
  cases preOk p.p0 <;> cases preOk p.p1 <;> simp
theorem hit_swp (t : Int) (x : Tk) : hitB 2 t (swp x) = hitB 2 (tw t) x := by
  unfold hitB swp
  simp [tw_eq]
theorem hit_swp1 {r : Int} (hr : r = 0 ∨ r = 1) (t : Int) (x : Tk) : hitB r t (swp x) = hitB (1 - r) (tw t) x := by
  unfold hitB swp
  simp only [tw_eq]
  congr 1
  rcases hr with rfl | rfl
  · rw [Bool.eq_iff_iff]; simp; omega
  · rw [Bool.eq_iff_iff]; simp; omega
theorem met_swp (t : Int) (L : List Tk) : met 2 t (L.map swp) = met 2 (tw t) L := by
  unfold met; rw [List.countP_map]; congr 1; funext x; exact hit_swp t x
theorem met_swp1 {r : Int} (hr : r = 0 ∨ r = 1) (t : Int) (L : List Tk) : met r t (L.map swp) = met (1 - r) (tw t) L := by
  unfold met; rw [List.countP_map]; congr 1; funext x; exact hit_swp1 hr t x
theorem tld_swp {p : Pt} {r k : Int} (hr : r = 0 ∨ r = 1) (hk : k = 1 ∨ k = 2) (L : List Tk) : tld (tp p) r k (L.map swp) = tld p (1 - r) k L := by
  have e : tw k = k := by rcases hk with rfl | rfl <;> rfl
  have e2 : prw (tp p) r = prw p (1 - r) := by rcases hr with rfl | rfl <;> simp [prw, tp]
  unfold tld
  rw [met_swp1 hr, e, e2]
theorem flat_tp : ∀ {ms : List Ms}, (∀ m ∈ ms, m.fr = 0 ∨ m.fr = 1) → flat (ms.map tm) = (flat ms).map swp
  | [], _ => rfl
  | m :: r, h => by
    rw [List.map_cons, flat_cons, flat_cons, List.map_append, flat_tp fun x hx => h x (by simp [hx])]
    congr 1
    simp only [tm, List.map_map]
    rw [trn_01 (h m (by simp))]
    rfl
section
variable {p : Pt} (hf : ∀ m ∈ p.ms, m.fr = 0 ∨ m.fr = 1)
include hf
theorem psk_tp : psk (tp p) = psk p := by
  unfold psk
  rw [show (tp p).ms = p.ms.map tm from rfl, flat_tp hf, met_swp]; rfl
theorem rkey_tp (L : List Tk) : rkey (tp p) (L.map swp) = rkey p L := by
  unfold rkey
  rw [psk_tp hf, met_swp, met_swp, met_swp, met_swp, met_swp, tld_swp (.inl rfl) (.inl rfl), tld_swp (.inr rfl) (.inl rfl)]
  have e3 : tw 3 = 3 := rfl
  have e4 : tw 4 = 5 := rfl
  have e5 : tw 5 = 4 := rfl
  have e6 : tw 6 = 6 := rfl
  have e7 : tw 7 = 7 := rfl
  have a0 : (1 : Int) - 0 = 1 := rfl
  have a1 : (1 : Int) - 1 = 0 := rfl
  rw [e3, e4, e5, e6, e7, a0, a1]
  cases decide (0 < met 2 3 L) <;> cases decide (0 < met 2 4 L) <;> cases decide (0 < met 2 5 L) <;> cases decide (0 < met 2 6 L) <;> cases decide (0 < met 2 7 L) <;> cases psk p <;> cases tld p 0 1 L <;> cases tld p 1 1 L <;> rfl
omit hf in
theorem rsl_tp {r : Int} (hr : r = 0 ∨ r = 1) (L : List Tk) : rsl (tp p) (1 - r) (L.map swp) = rsl p r L := by
  have h1 : (1 - r = 0 ∨ 1 - r = 1) := by omega
  have e1 : tw (stT (1 - r)) = stT r := by rcases hr with rfl | rfl <;> rfl
  have e2 : tw (epT (1 - r)) = epT r := by rcases hr with rfl | rfl <;> rfl
  unfold rsl
  rw [met_swp, met_swp, met_swp, met_swp, met_swp, tld_swp h1 (.inl rfl), e1, e2]
  have e3 : tw 3 = 3 := rfl
  have e6 : tw 6 = 6 := rfl
  have e7 : tw 7 = 7 := rfl
  rw [e3, e6, e7]
  have e : 1 - (1 - r) = r := by omega
  rw [e]
theorem sl_tp {r : Int} (hr : r = 0 ∨ r = 1) (L : List Tk) : sl (tp p) (1 - r) (L.map swp) = sl p r L := by
  unfold sl
  rw [rkey_tp hf, rsl_tp hr]
theorem rone_tp {r t : Int} (hr : r = 0 ∨ r = 1) (ht : isTok t = true) (L : List Tk) : rone (tp p) (1 - r) (tw t) (L.map swp) = rone p r t L := by
  have h1 : (1 - r = 0 ∨ 1 - r = 1) := by omega
  have e : 1 - (1 - r) = r := by omega
  have s := sl_tp hf hr L
  have a0 : (1 : Int) - 0 = 1 := rfl
  have a1 : (1 : Int) - 1 = 0 := rfl
  rcases tok_cases ht with rfl | rfl | rfl | rfl | rfl | rfl | rfl
  · have := tld_swp (p := p) h1 (.inl rfl : (1 : Int) = 1 ∨ (1 : Int) = 2) L
    rw [e] at this
    simp [rone, tw, this]
  · have := tld_swp (p := p) h1 (.inr rfl : (2 : Int) = 1 ∨ (2 : Int) = 2) L
    rw [e] at this
    simp [rone, tw, this, s]
  all_goals
    have t01 := tld_swp (p := p) (.inl rfl : (0 : Int) = 0 ∨ (0 : Int) = 1) (.inl rfl : (1 : Int) = 1 ∨ (1 : Int) = 2) L
    have t02 := tld_swp (p := p) (.inl rfl : (0 : Int) = 0 ∨ (0 : Int) = 1) (.inr rfl : (2 : Int) = 1 ∨ (2 : Int) = 2) L
    have t11 := tld_swp (p := p) (.inr rfl : (1 : Int) = 0 ∨ (1 : Int) = 1) (.inl rfl : (1 : Int) = 1 ∨ (1 : Int) = 2) L
    have t12 := tld_swp (p := p) (.inr rfl : (1 : Int) = 0 ∨ (1 : Int) = 1) (.inr rfl : (2 : Int) = 1 ∨ (2 : Int) = 2) L
    rw [a0] at t01 t02
    rw [a1] at t11 t12
    simp only [rone, tw, kA, kB, met_swp]
    simp [t01, t02, t11, t12, Bool.or_comm, or_comm, and_comm]
theorem rtk_tp {r : Int} (hr : r = 0 ∨ r = 1) : ∀ {l : List Int} (L : List Tk), (∀ t ∈ l, isTok t = true) → rtk (tp p) (1 - r) (L.map swp) (l.map tw) = rtk p r L l
  | [], L, _ => sl_tp hf hr L
  | t :: l, L, h => by
    rw [List.map_cons]
    unfold rtk
    rw [rone_tp hf hr (h t (by simp)) L]
    have e : L.map swp ++ [(1 - r, tw t)] = (L ++ [(r, t)]).map swp := by simp [swp]
    rw [e, rtk_tp hr (L ++ [(r, t)]) fun u hu => h u (by simp [hu])]
theorem rfin_tp (L : List Tk) (hn : 2 ≤ p.ms.length) : rfin (tp p) (L.map swp) = 0 ↔ rfin p L = 0 := by
  unfold rfin
  have hl : (tp p).ms.length = p.ms.length := by simp [tp]
  rw [rkey_tp hf, hl, if_neg (by omega : ¬ p.ms.length = 1), if_neg (by omega : ¬ p.ms.length = 1)]
  have s0 := sl_tp hf (.inl rfl) L
  have s1 := sl_tp hf (.inr rfl) L
  have a0 : (1 : Int) - 0 = 1 := rfl
  have a1 : (1 : Int) - 1 = 0 := rfl
  rw [a0] at s0
  rw [a1] at s1
  rw [s0, s1]
  split
  · simp
  · by_cases h0 : sl p 0 L = 0 <;> by_cases h1 : sl p 1 L = 0 <;> simp [h0, h1]
/-- Each step's answer is that of the pattern that was turned round. -/
theorem ckG_tp (hn : 2 ≤ p.ms.length) : ∀ {ms : List Ms} (L : List Tk) (v : Option Int) (i : Nat), i + ms.length = p.ms.length → (∀ m ∈ ms, (m.fr = 0 ∨ m.fr = 1) ∧ ∀ t ∈ m.t, isTok t = true) →
    (ckG (tp p) (L.map swp) (v.map fun f => 1 - f) i (ms.map tm)).2 = (ckG p L v i ms).2 ∧ ((ckG (tp p) (L.map swp) (v.map fun f => 1 - f) i (ms.map tm)).1 = (ckG p L v i ms).1 ∨ ((ckG p L v i ms).2 = p.ms.length ∧ ((ckG (tp p) (L.map swp) (v.map fun f => 1 - f) i (ms.map tm)).1 = 0 ↔ (ckG p L v i ms).1 = 0)))
  | [], L, v, i, hi, _ => by
    refine ⟨rfl, .inr ⟨by simpa [ckG] using hi, ?_⟩⟩
    exact rfin_tp hf L hn
  | m :: r, L, v, i, hi, hm => by
    obtain ⟨h1, h2⟩ := hm m (by simp)
    have ef : (tm m).fr = 1 - m.fr := trn_01 h1
    have et : (tm m).t = m.t.map tw := rfl
    have ev : (v.map (fun f => 1 - f) = some (tm m).fr) ↔ (v = some m.fr) := by
      rw [ef]
      cases v with
      | none => simp
      | some a => simp
    have er : rtk (tp p) (tm m).fr (L.map swp) (tm m).t = rtk p m.fr L m.t := by rw [ef, et]; exact rtk_tp hf h1 L h2
    have eL : L.map swp ++ (tm m).t.map (fun t => ((tm m).fr, t)) = (L ++ m.t.map fun t => (m.fr, t)).map swp := by
      rw [ef, et, List.map_append, List.map_map, List.map_map]; rfl
    rw [List.map_cons]
    unfold ckG
    by_cases hv : v = some m.fr
    · rw [if_pos (ev.2 hv), if_pos hv]; exact ⟨rfl, .inl rfl⟩
    · rw [if_neg (fun h => hv (ev.1 h)), if_neg hv, er]
      by_cases hz : rtk p m.fr L m.t = 0
      · rw [if_pos hz, if_pos hz, eL]
        have e1 : (some (tm m).fr) = (some m.fr).map fun f => 1 - f := by rw [ef]; rfl
        rw [e1]
        exact ckG_tp hn (L ++ m.t.map fun t => (m.fr, t)) (some m.fr) (i + 1) (by simp at hi; omega) fun x hx => hm x (by simp [hx])
      · rw [if_neg hz, if_neg hz]; exact ⟨rfl, .inl rfl⟩
end
theorem turn_ok {p : Pt} (hn : 2 ≤ p.ms.length) (hg : ∀ m ∈ p.ms, rng m.fr) : ckI (tp p) = ckI p ∧ ckE (tp p) = ckE p ∧ (ckE p = 0 ∨ ckI p < p.ms.length → ckR (tp p) = ckR p) := by
  have hr := right_tp hg
  unfold ckI ckE ckR
  rw [hr]
  cases h : right p with
  | false => exact ⟨rfl, rfl, fun _ => rfl⟩
  | true =>
    have hm : ∀ m ∈ p.ms, (m.fr = 0 ∨ m.fr = 1) ∧ ∀ t ∈ m.t, isTok t = true := fun m hm => right_ms' h hm
    have k := ckG_tp (p := p) (fun m hx => (hm m hx).1) hn (ms := p.ms) [] none 0 (by simp) hm
    have e : ckG (tp p) (([] : List Tk).map swp) ((none : Option Int).map fun f => 1 - f) 0 (p.ms.map tm) = ck (tp p) := rfl
    have e2 : ckG p [] none 0 p.ms = ck p := rfl
    rw [e, e2] at k
    obtain ⟨k1, k2⟩ := k
    have k3 : (ck (tp p)).1 = 0 ↔ (ck p).1 = 0 := by
      rcases k2 with h | ⟨_, h⟩
      · rw [h]
      · exact h
    simp only [if_true]
    by_cases hz : (ck p).1 = 0
    · have hz2 := k3.2 hz
      simp [hz, hz2]
    · have hz2 : (ck (tp p)).1 ≠ 0 := fun h => hz (k3.1 h)
      rw [if_neg hz, if_neg hz2, if_neg hz, if_neg hz2, k1]
      refine ⟨rfl, rfl, fun h => ?_⟩
      rcases h with h | h
      · cases h
      · rcases k2 with h2 | ⟨h2, _⟩
        · exact h2
        · omega
end Go.Proofs.YtobpnjjgpoompaaGreatDoor
