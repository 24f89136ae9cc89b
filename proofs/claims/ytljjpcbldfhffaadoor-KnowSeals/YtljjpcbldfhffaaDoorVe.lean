/- Layer 3 in plain mathematics: what a search answers, and what is known when more is learned. No program is named. -/
import Derived.Test.YtljjpcbldfhffaaDoorVd
namespace Go.Proofs.YtljjpcbldfhffaaDoor

def s0 (K : Int → Bool) : Sx := ⟨K, fun _ => none⟩
theorem s0_snd {L : List Nd} {T : Int → Prop} {K : Int → Bool} (hT : ∀ r, K r = true → T r) (hK : ∀ r, K r = true → hasB L.length r = true) : Snd L T (s0 K) :=
  ⟨fun r h => by simp [s0, Sx.der] at h, hT, hK, fun r b ws h => by simp [s0] at h⟩
theorem s0_inv {L : List Nd} {K : Int → Bool} {P : Clo → Prop} (h7 : ∀ r, K r = true → (nd L r).k = 7 → K (nd L r).c = true ∨ P (.learn (nd L r).c, [(nd L r).a])) (h8 : ∀ r, K r = true → (nd L r).k = 8 → (K (nd L r).a = true ∨ P (.learn (nd L r).a, [])) ∧ (K (nd L r).b = true ∨ P (.learn (nd L r).b, []))) : Inv L (s0 K) P := by
  refine ⟨fun r h => by simp [s0] at h, fun r _ h => by simp [s0] at h, fun r h1 h2 => ?_, fun r h1 h2 => ⟨?_, ?_⟩⟩
  · exact (h7 r h1 h2).elim .inl fun e => .inr (.inr ⟨[], _, rfl, by simp, e⟩)
  · exact (h8 r h1 h2).1.elim .inl fun e => .inr (.inr ⟨[], _, rfl, by simp, e⟩)
  · exact (h8 r h1 h2).2.elim .inl fun e => .inr (.inr ⟨[], _, rfl, by simp, e⟩)

/-- A search asks for a ref: what it finds. -/
theorem can_search {L : List Nd} (hL : WF L) {K : Int → Bool} (hK : ∀ r, K r = true → hasB L.length r = true) (hS : Shut L fun r => K r = true) {r : Int} (hr : hasB L.length r = true) :
    ∃ s', Goes L (.ask r) (s0 K) s' ∧ s'.K = K ∧ (s'.der r = true ↔ Can L (fun x => K x = true) r) := by
  have hi : Inv L (s0 K) (fun c => ∃ y, c.1 = .learn y) := s0_inv (fun r _ _ => .inr ⟨_, rfl⟩) (fun r _ _ => ⟨.inr ⟨_, rfl⟩, .inr ⟨_, rfl⟩⟩)
  obtain ⟨s', ⟨h1, h2, h3, h4⟩, h5⟩ := (lev_any hL hS (mu L (s0 K))).ask (s0 K) _ r (Nat.le_refl _) hr hi (s0_snd (fun _ h => h) hK)
  have hKe : s'.K = K := funext fun y => by
    have e1 := h4.k y
    have e2 := h3.kt y
    cases hx : s'.K y <;> cases hy : K y
    · rfl
    · have := e1 hy; rw [hx] at this; cases this
    · have := e2 hx; rw [hy] at this; cases this
    · rfl
  refine ⟨s', h1, hKe, fun h => ?_, fun h => ?_⟩
  · have := h3.de r h; rw [hKe] at this; exact this
  · exact asked_can hL (fun r rs h => by obtain ⟨y, hy⟩ := h; cases hy) h2 (by rw [hKe]; exact h) h5

/-- A ref is learned: the open Seals wait for their keys, then it is made known: what is known then. -/
theorem learn_search {L : List Nd} (hL : WF L) {K : Int → Bool} (hK : ∀ r, K r = true → hasB L.length r = true) (hS : Shut L fun r => K r = true) {r : Int} (hr : hasB L.length r = true) {l : List Int} (hl : ∀ x ∈ l, K x = true ∧ (nd L x).k = 7) (hl' : ∀ x, K x = true → (nd L x).k = 7 → K (nd L x).c = true ∨ x ∈ l) :
    ∃ s1 s2, allR (fun c => Goes L (.when_ c.1 c.2)) (l.map fun x => (.learn (nd L x).c, [(nd L x).a])) (s0 K) s1 ∧ Goes L (.learn r) s1 s2 ∧ (∀ y, s2.K y = true ↔ cl L (fun x => K x = true ∨ x = r) y) ∧ Shut L (fun y => s2.K y = true) ∧ (∀ y, s2.K y = true → hasB L.length y = true) := by
  have hT := cl_shut L (fun x => K x = true ∨ x = r)
  have hKT : ∀ x, K x = true → cl L (fun x => K x = true ∨ x = r) x := fun x hx => cl_in (.inl hx)
  have hi : Inv L (s0 K) (fun c => c ∈ (l.map fun x => ((.learn (nd L x).c, [(nd L x).a]) : Clo)) ∨ False) := s0_inv (fun x h1 h2 => (hl' x h1 h2).imp id fun e => .inl (List.mem_map.2 ⟨x, e, rfl⟩)) (fun x h1 h2 => by
    have := (hS x (hK x h1) h1).1 h2
    exact ⟨.inl this.1, .inl this.2⟩)
  have hlev := lev_any hL hT (mu L (s0 K))
  obtain ⟨s1, g1, g2, g3, g4⟩ := lev_all hlev.when_ _ (s0 K) (fun _ => False) (Nat.le_refl _) (fun c hc => by
    obtain ⟨x, hx, rfl⟩ := List.mem_map.1 hc
    obtain ⟨h1, h2⟩ := hl x hx
    obtain ⟨p1, _, p3⟩ := nd_has hL (hK x h1)
    exact ⟨by simpa using p1, p3, fun h => (hT x (hK x h1) (hKT x h1)).2 h2 (h _ (by simp))⟩) hi (s0_snd hKT hK)
  obtain ⟨s2, ⟨f1, f2, f3, f4⟩, f5⟩ := hlev.learn s1 (fun _ => False) r (mu_le g4) ⟨by simp, hr, fun _ => cl_in (.inr rfl)⟩ (g2.mono fun c h => h.elim) g3
  have hsh : Shut L (fun y => s2.K y = true) := fun y hy hk => by
    refine ⟨fun h8 => ?_, fun h7 hc => ?_⟩
    · have key : ∀ z, Held s2 (fun _ => False) (.learn z, []) → s2.K z = true := fun z h => by
        rcases h with e | ⟨pre, x, post, ws, e, _⟩ | ⟨_, _, _, _, e⟩
        · exact e
        · have e : ([] : List Int) = pre ++ x :: post := e
          simp at e
        · exact e.elim
      exact ⟨key _ (f2.pa y hk h8).1, key _ (f2.pa y hk h8).2⟩
    · rcases f2.se y hk h7 with e | ⟨pre, x, post, ws, e, h1, h2, _⟩ | ⟨_, _, _, _, e⟩
      · exact e
      · have e : [(nd L y).a] = pre ++ x :: post := e
        have hx : x = (nd L y).a := by
          cases pre with
          | nil => simp at e; exact e.1.symm
          | cons a t => simp at e
        subst hx
        have hd := asked_can hL (fun _ _ h => h.elim) f2 hc (by rw [h2]; rfl)
        obtain ⟨w', hw⟩ := der_iff.1 hd
        rw [h2] at hw; simp at hw
      · exact e.elim
  exact ⟨s1, s2, g1, f1, fun y => ⟨f3.kt y, fun h => cl_least hsh (fun x hx => by
    rcases hx with e | rfl
    · exact f4.k x (g4.k x e)
    · exact f5) h⟩, hsh, f3.kh⟩
end Go.Proofs.YtljjpcbldfhffaaDoor
