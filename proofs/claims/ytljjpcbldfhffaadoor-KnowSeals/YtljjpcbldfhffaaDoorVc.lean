/- Layer 3 in plain mathematics: what holds of the search at each step. No program is named. -/
import Derived.Test.YtljjpcbldfhffaaDoorVb
namespace Go.Proofs.YtljjpcbldfhffaaDoor

def done (s : Sx) : Thn → Prop
  | .reach r => s.der r = true
  | .learn r => s.K r = true
def addP (c : Clo) (P : Clo → Prop) : Clo → Prop := fun x => x = c ∨ P x
/-- What a term needs is not lost: it is done, or waits, or is still to come. -/
def Held (s : Sx) (P : Clo → Prop) (c : Clo) : Prop :=
  done s c.1 ∨ (∃ pre x post ws, c.2 = pre ++ x :: post ∧ (∀ y ∈ pre, s.der y = true) ∧ s.A x = some (false, ws) ∧ (c.1, post) ∈ ws) ∨ (∃ pre post, c.2 = pre ++ post ∧ (∀ y ∈ pre, s.der y = true) ∧ P (c.1, post))
def obl (L : List Nd) (r : Int) : List Clo :=
  if (nd L r).k = 0 ∨ (nd L r).k = 9 then [(.reach r, [])]
  else if (nd L r).k = 1 then (if 4294967296 ≤ (nd L r).n then [(.reach r, [])] else [])
  else if (nd L r).k = 3 then [(.reach r, [(nd L r).a, pubR L (nd L r).b]), (.reach r, [(nd L r).b, pubR L (nd L r).a])]
  else [(.reach r, [(nd L r).a, (nd L r).b, (nd L r).c])]
structure Inv (L : List Nd) (s : Sx) (P : Clo → Prop) : Prop where
  ob : ∀ r, (s.A r).isSome = true → hasB L.length r = true → ∀ c ∈ obl L r, Held s P c
  kn : ∀ r, s.K r = true → (s.A r).isSome = true → s.der r = true ∨ P (.reach r, [])
  se : ∀ r, s.K r = true → (nd L r).k = 7 → Held s P (.learn (nd L r).c, [(nd L r).a])
  pa : ∀ r, s.K r = true → (nd L r).k = 8 → Held s P (.learn (nd L r).a, []) ∧ Held s P (.learn (nd L r).b, [])
/-- What waits is just. -/
def Just (L : List Nd) (T : Int → Prop) (s : Sx) (c : Clo) : Prop := (∀ x ∈ c.2, hasB L.length x = true) ∧ match c.1 with
  | .reach r => hasB L.length r = true ∧ (s.A r).isSome = true ∧ ∀ K' : Int → Prop, (∀ x, s.K x = true → K' x) → (∀ x ∈ c.2, Can L K' x) → Can L K' r
  | .learn r => hasB L.length r = true ∧ ((∀ x ∈ c.2, Can L T x) → T r)
structure Snd (L : List Nd) (T : Int → Prop) (s : Sx) : Prop where
  de : ∀ r, s.der r = true → Can L (fun x => s.K x = true) r
  kt : ∀ r, s.K r = true → T r
  kh : ∀ r, s.K r = true → hasB L.length r = true
  wt : ∀ r b ws, s.A r = some (b, ws) → ∀ c ∈ ws, Just L T s (c.1, r :: c.2)
structure Le (s s' : Sx) : Prop where
  k : ∀ r, s.K r = true → s'.K r = true
  a : ∀ r, (s.A r).isSome = true → (s'.A r).isSome = true
  t : ∀ r ws, s.A r = some (true, ws) → s'.A r = some (true, ws)
theorem Le.refl (s : Sx) : Le s s := ⟨fun _ h => h, fun _ h => h, fun _ _ h => h⟩
theorem Le.trans {s s1 s2 : Sx} (h : Le s s1) (h' : Le s1 s2) : Le s s2 := ⟨fun r x => h'.k r (h.k r x), fun r x => h'.a r (h.a r x), fun r ws x => h'.t r ws (h.t r ws x)⟩
theorem der_iff {s : Sx} {r : Int} : s.der r = true ↔ ∃ ws, s.A r = some (true, ws) := by
  unfold Sx.der
  cases h : s.A r with
  | none => simp
  | some x => obtain ⟨b, l⟩ := x; simp
theorem der_false {s : Sx} {r : Int} (h : (s.A r).isSome = true) (hd : ¬ s.der r = true) : ∃ ws, s.A r = some (false, ws) := by
  unfold Sx.der at hd
  cases e : s.A r with
  | none => rw [e] at h; simp at h
  | some x => obtain ⟨b, l⟩ := x; rw [e] at hd; simp at hd; subst hd; exact ⟨l, rfl⟩
theorem Le.d {s s' : Sx} (h : Le s s') {r : Int} (hd : s.der r = true) : s'.der r = true := by
  obtain ⟨ws, hw⟩ := der_iff.1 hd
  exact der_iff.2 ⟨ws, h.t r ws hw⟩
theorem Just.le {L : List Nd} {T : Int → Prop} {s s' : Sx} {c : Clo} (h : Just L T s c) (hl : Le s s') : Just L T s' c := by
  obtain ⟨t, rs⟩ := c
  cases t with
  | reach r => exact ⟨h.1, h.2.1, hl.a _ h.2.2.1, fun K' hK hc => h.2.2.2 K' (fun x hx => hK x (hl.k x hx)) hc⟩
  | learn r => exact h
theorem Just.tail {L : List Nd} {T : Int → Prop} {s : Sx} {t : Thn} {x : Int} {rs : List Int} (h : Just L T s (t, x :: rs)) (hs : Snd L T s) (hd : s.der x = true) : Just L T s (t, rs) := by
  have hc := hs.de x hd
  cases t with
  | reach r => exact ⟨fun y hy => h.1 y (by simp [hy]), h.2.1, h.2.2.1, fun K' hK hy => h.2.2.2 K' hK fun y hm => by
      rcases List.mem_cons.1 hm with rfl | e
      · exact hc.mono hK
      · exact hy y e⟩
  | learn r => exact ⟨fun y hy => h.1 y (by simp [hy]), h.2.1, fun hy => h.2.2 fun y hm => by
      rcases List.mem_cons.1 hm with rfl | e
      · exact hc.mono hs.kt
      · exact hy y e⟩

theorem Held.mono {s : Sx} {P Q : Clo → Prop} (hP : ∀ c, P c → Q c) {c : Clo} (h : Held s P c) : Held s Q c := by
  rcases h with h | h | ⟨pre, post, h1, h2, h3⟩
  · exact .inl h
  · exact .inr (.inl h)
  · exact .inr (.inr ⟨pre, post, h1, h2, hP _ h3⟩)
theorem Inv.mono {L : List Nd} {s : Sx} {P Q : Clo → Prop} (hP : ∀ c, P c → Q c) (h : Inv L s P) : Inv L s Q :=
  ⟨fun r h1 h2 c hc => (h.ob r h1 h2 c hc).mono hP, fun r h1 h2 => (h.kn r h1 h2).imp id (hP _), fun r h1 h2 => (h.se r h1 h2).mono hP, fun r h1 h2 => ⟨(h.pa r h1 h2).1.mono hP, (h.pa r h1 h2).2.mono hP⟩⟩
/-- A change of state that loses nothing keeps all. -/
theorem Inv.step {L : List Nd} {s s' : Sx} {P Q : Clo → Prop} (h : Inv L s P) (hK : s'.K = s.K) (hA : ∀ r, (s'.A r).isSome = true → (s.A r).isSome = true ∨ ((hasB L.length r = true → ∀ c ∈ obl L r, Held s' Q c) ∧ (s.K r = true → s'.der r = true ∨ Q (.reach r, []))))
    (hd : ∀ r, s.der r = true → s'.der r = true) (hQ : ∀ r, P (.reach r, []) → s'.der r = true ∨ Q (.reach r, [])) (hH : ∀ c, Held s P c → Held s' Q c) : Inv L s' Q := by
  refine ⟨fun r h1 h2 c hc => ?_, fun r h1 h2 => ?_, fun r h1 h2 => hH _ (h.se r (by rw [← hK]; exact h1) h2), fun r h1 h2 => ?_⟩
  · rcases hA r h1 with e | e
    · exact hH _ (h.ob r e h2 c hc)
    · exact e.1 h2 c hc
  · rw [hK] at h1
    rcases hA r h2 with e | e
    · rcases h.kn r h1 e with e' | e'
      · exact .inl (hd _ e')
      · exact hQ r e'
    · exact e.2 h1
  · rw [hK] at h1
    exact ⟨hH _ (h.pa r h1 h2).1, hH _ (h.pa r h1 h2).2⟩

theorem put_A {s : Sx} {r : Int} {x : Bool × List Clo} : (s.put r x).A r = some x := by simp [Sx.put]
theorem put_other {s : Sx} {r y : Int} {x : Bool × List Clo} (h : y ≠ r) : (s.put r x).A y = s.A y := by simp [Sx.put, h]
theorem put_der_other {s : Sx} {r y : Int} {x : Bool × List Clo} (h : y ≠ r) : (s.put r x).der y = s.der y := by unfold Sx.der; rw [put_other h]
theorem put_der {s : Sx} {r : Int} {x : Bool × List Clo} : (s.put r x).der r = x.1 := by unfold Sx.der; rw [put_A]

/-- A ref that waited for is made: the next one. -/
theorem Inv.skip {L : List Nd} {s : Sx} {P : Clo → Prop} {t : Thn} {x : Int} {rs : List Int} (h : Inv L s (addP (t, x :: rs) P)) (hd : s.der x = true) : Inv L s (addP (t, rs) P) := by
  refine h.step rfl (fun r hr => .inl hr) (fun _ e => e) (fun r e => ?_) (fun c hc => ?_)
  · rcases e with e | e
    · simp at e
    · exact .inr (.inr e)
  · rcases hc with e | e | ⟨pre, post, h1, h2, h3⟩
    · exact .inl e
    · exact .inr (.inl e)
    · rcases h3 with e | e
      · injection e with e1 e2
        refine .inr (.inr ⟨pre ++ [x], rs, by rw [h1, e2]; simp, fun y hy => ?_, .inl (by rw [e1])⟩)
        rcases List.mem_append.1 hy with e | e
        · exact h2 y e
        · simp at e; subst e; exact hd
      · exact .inr (.inr ⟨pre, post, h1, h2, .inr e⟩)
/-- A closure waits. -/
theorem Inv.wait {L : List Nd} {s : Sx} {P : Clo → Prop} {t : Thn} {x : Int} {rs : List Int} {ws : List Clo} (h : Inv L s (addP (t, x :: rs) P)) (hx : s.A x = some (false, ws)) : Inv L (s.put x (false, ws ++ [(t, rs)])) P := by
  have hd : ∀ r, s.der r = true → (s.put x (false, ws ++ [(t, rs)])).der r = true := fun r hr => by
    have : r ≠ x := fun e => by subst e; obtain ⟨w', hw⟩ := der_iff.1 hr; rw [hx] at hw; simp at hw
    rw [put_der_other this]; exact hr
  refine h.step rfl (fun r hr => .inl ?_) hd (fun r e => ?_) (fun c hc => ?_)
  · by_cases e : r = x
    · subst e; rw [hx]; rfl
    · rw [put_other e] at hr; exact hr
  · rcases e with e | e
    · simp at e
    · exact .inr e
  · rcases hc with e | ⟨pre, y, post, w', h1, h2, h3, h4⟩ | ⟨pre, post, h1, h2, h3⟩
    · refine .inl ?_
      cases hc : c.1 with
      | reach r => rw [hc] at e; exact hd r e
      | learn r => rw [hc] at e; exact e
    · by_cases e : y = x
      · subst e
        rw [hx] at h3
        injection h3 with h3
        injection h3 with _ h3
        exact .inr (.inl ⟨pre, y, post, _, h1, fun z hz => hd z (h2 z hz), put_A, by rw [h3]; simp [h4]⟩)
      · exact .inr (.inl ⟨pre, y, post, w', h1, fun z hz => hd z (h2 z hz), by rw [put_other e]; exact h3, h4⟩)
    · rcases h3 with e | e
      · injection e with e1 e2
        exact .inr (.inl ⟨pre, x, rs, _, by rw [h1, e2], fun z hz => hd z (h2 z hz), put_A, by rw [e1]; simp⟩)
      · exact .inr (.inr ⟨pre, post, h1, fun z hz => hd z (h2 z hz), e⟩)
/-- A term is reached: what waited for it comes. -/
theorem Inv.reach {L : List Nd} {s : Sx} {P : Clo → Prop} {r : Int} {ws : List Clo} (h : Inv L s (addP (.reach r, []) P)) (hx : s.A r = some (false, ws)) : Inv L (s.put r (true, ws)) (fun c => c ∈ ws ∨ P c) := by
  have hd : ∀ y, s.der y = true → (s.put r (true, ws)).der y = true := fun y hy => by
    by_cases e : y = r
    · subst e; exact put_der
    · rw [put_der_other e]; exact hy
  refine h.step rfl (fun y hy => .inl ?_) hd (fun y e => ?_) (fun c hc => ?_)
  · by_cases e : y = r
    · subst e; rw [hx]; rfl
    · rw [put_other e] at hy; exact hy
  · rcases e with e | e
    · injection e with e1 _
      injection e1 with e1
      subst e1; exact .inl put_der
    · exact .inr (.inr e)
  · rcases hc with e | ⟨pre, y, post, w', h1, h2, h3, h4⟩ | ⟨pre, post, h1, h2, h3⟩
    · refine .inl ?_
      cases hc : c.1 with
      | reach r => rw [hc] at e; exact hd r e
      | learn r => rw [hc] at e; exact e
    · by_cases e : y = r
      · subst e
        rw [hx] at h3
        injection h3 with h3
        injection h3 with _ h3
        refine .inr (.inr ⟨pre ++ [y], post, by rw [h1]; simp, fun z hz => ?_, .inl (by rw [h3]; exact h4)⟩)
        rcases List.mem_append.1 hz with e | e
        · exact hd z (h2 z e)
        · simp at e; subst e; exact put_der
      · exact .inr (.inl ⟨pre, y, post, w', h1, fun z hz => hd z (h2 z hz), by rw [put_other e]; exact h3, h4⟩)
    · rcases h3 with e | e
      · injection e with e1 e2
        refine .inl ?_
        rw [e1]; exact put_der
      · exact .inr (.inr ⟨pre, post, h1, fun z hz => hd z (h2 z hz), .inr e⟩)
/-- What was to come is done already. -/
theorem Inv.past {L : List Nd} {s : Sx} {P : Clo → Prop} {t : Thn} (h : Inv L s (addP (t, []) P)) (hd : done s t) : Inv L s P := by
  refine h.step rfl (fun r hr => .inl hr) (fun _ e => e) (fun r e => ?_) (fun c hc => ?_)
  · rcases e with e | e
    · injection e with e1 _; subst e1; exact .inl hd
    · exact .inr e
  · rcases hc with e | e | ⟨pre, post, h1, h2, h3⟩
    · exact .inl e
    · exact .inr (.inl e)
    · rcases h3 with e | e
      · injection e with e1 e2
        exact .inl (by rw [e1]; exact hd)
      · exact .inr (.inr ⟨pre, post, h1, h2, e⟩)
/-- A term is asked for. -/
theorem Held.put {s : Sx} {P : Clo → Prop} {r : Int} {b : Bool} (hr : s.A r = none) {c : Clo} (h : Held s P c) : Held (s.put r (b, [])) P c := by
  have hd : ∀ y, s.der y = true → (s.put r (b, [])).der y = true := fun y hy => by
    have : y ≠ r := fun e => by subst e; obtain ⟨w', hw⟩ := der_iff.1 hy; rw [hr] at hw; simp at hw
    rw [put_der_other this]; exact hy
  rcases h with e | ⟨pre, y, post, w', h1, h2, h3, h4⟩ | ⟨pre, post, h1, h2, h3⟩
  · refine .inl ?_
    cases hc : c.1 with
    | reach r => rw [hc] at e; exact hd r e
    | learn r => rw [hc] at e; exact e
  · have : y ≠ r := fun e => by subst e; rw [hr] at h3; simp at h3
    exact .inr (.inl ⟨pre, y, post, w', h1, fun z hz => hd z (h2 z hz), by rw [put_other this]; exact h3, h4⟩)
  · exact .inr (.inr ⟨pre, post, h1, fun z hz => hd z (h2 z hz), h3⟩)
theorem Inv.put {L : List Nd} {s : Sx} {P Q : Clo → Prop} {r : Int} {b : Bool} (hr : s.A r = none) (h : Inv L s P) (hP : ∀ c, P c → Q c) (ho : hasB L.length r = true → ∀ c ∈ obl L r, Held (s.put r (b, [])) Q c) (hk : s.K r = true → b = true) : Inv L (s.put r (b, [])) Q := by
  refine (h.mono hP).step rfl (fun y hy => ?_) (fun y hy => ?_) (fun y e => .inr e) (fun c hc => hc.put hr)
  · by_cases e : y = r
    · subst e; exact .inr ⟨ho, fun e => .inl (by rw [put_der]; exact hk e)⟩
    · rw [put_other e] at hy; exact .inl hy
  · have : y ≠ r := fun e => by subst e; obtain ⟨w', hw⟩ := der_iff.1 hy; rw [hr] at hw; simp at hw
    rw [put_der_other this]; exact hy
theorem Le.put_new {s : Sx} {r : Int} {b : Bool} (hr : s.A r = none) : Le s (s.put r (b, [])) := ⟨fun _ h => h, fun y hy => by
    by_cases e : y = r
    · subst e; rw [put_A]; rfl
    · rw [put_other e]; exact hy, fun y ws hy => by
    have : y ≠ r := fun e => by subst e; rw [hr] at hy; simp at hy
    rw [put_other this]; exact hy⟩
theorem Le.put_old {s : Sx} {r : Int} {ws : List Clo} {x : Bool × List Clo} (hr : s.A r = some (false, ws)) : Le s (s.put r x) := ⟨fun _ h => h, fun y hy => by
    by_cases e : y = r
    · subst e; rw [put_A]; rfl
    · rw [put_other e]; exact hy, fun y w' hy => by
    have : y ≠ r := fun e => by subst e; rw [hr] at hy; simp at hy
    rw [put_other this]; exact hy⟩
theorem Le.know (s : Sx) (r : Int) : Le s (s.know r) := ⟨fun y hy => by simp only [Sx.know]; split <;> simp_all, fun _ h => h, fun _ _ h => h⟩
/-- A term is learned. -/
theorem Held.know {s : Sx} {P : Clo → Prop} {r : Int} {c : Clo} (h : Held s (addP (.learn r, []) P) c) : Held (s.know r) P c := by
  rcases h with e | ⟨pre, y, post, w', h1, h2, h3, h4⟩ | ⟨pre, post, h1, h2, h3⟩
  · refine .inl ?_
    cases hc : c.1 with
    | reach r => rw [hc] at e; exact e
    | learn y => rw [hc] at e; exact (Le.know s r).k y e
  · exact .inr (.inl ⟨pre, y, post, w', h1, h2, h3, h4⟩)
  · rcases h3 with e | e
    · injection e with e1 _
      refine .inl ?_
      rw [e1]; simp [done, Sx.know]
    · exact .inr (.inr ⟨pre, post, h1, h2, e⟩)
theorem Inv.know {L : List Nd} {s : Sx} {P : Clo → Prop} {r : Int} (h : Inv L s (addP (.learn r, []) P)) :
    Inv L (s.know r) (fun c => c = (.reach r, []) ∨ ((nd L r).k = 7 ∧ c = (.learn (nd L r).c, [(nd L r).a]) ∨ (nd L r).k = 8 ∧ (c = (.learn (nd L r).a, []) ∨ c = (.learn (nd L r).b, []))) ∨ P c) := by
  have hH : ∀ c, Held s (addP (.learn r, []) P) c → Held (s.know r) (fun c => c = (.reach r, []) ∨ ((nd L r).k = 7 ∧ c = (.learn (nd L r).c, [(nd L r).a]) ∨ (nd L r).k = 8 ∧ (c = (.learn (nd L r).a, []) ∨ c = (.learn (nd L r).b, []))) ∨ P c) c := fun c hc => (hc.know).mono fun c e => .inr (.inr e)
  have hk : ∀ y, (s.know r).K y = true → y = r ∨ s.K y = true := fun y hy => by
    simp only [Sx.know] at hy
    split at hy
    · rename_i e; exact .inl e
    · exact .inr hy
  refine ⟨fun y h1 h2 c hc => hH _ (h.ob y h1 h2 c hc), fun y h1 h2 => ?_, fun y h1 h2 => ?_, fun y h1 h2 => ?_⟩
  · rcases hk y h1 with rfl | e
    · exact .inr (.inl rfl)
    · rcases h.kn y e h2 with e' | e'
      · exact .inl e'
      · rcases e' with e' | e'
        · simp at e'
        · exact .inr (.inr (.inr e'))
  · rcases hk y h1 with rfl | e
    · exact .inr (.inr ⟨[], _, rfl, by simp, .inr (.inl (.inl ⟨h2, rfl⟩))⟩)
    · exact hH _ (h.se y e h2)
  · rcases hk y h1 with rfl | e
    · exact ⟨.inr (.inr ⟨[], _, rfl, by simp, .inr (.inl (.inr ⟨h2, .inl rfl⟩))⟩), .inr (.inr ⟨[], _, rfl, by simp, .inr (.inl (.inr ⟨h2, .inr rfl⟩))⟩)⟩
    · exact ⟨hH _ (h.pa y e h2).1, hH _ (h.pa y e h2).2⟩
end Go.Proofs.YtljjpcbldfhffaaDoor
