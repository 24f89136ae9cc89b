/- Layer 3 in plain mathematics: the search ends, and what it finds is what can be made. No program is named. -/
import Derived.Test.YtljjpcbldfhffaaDoorVc
namespace Go.Proofs.YtljjpcbldfhffaaDoor

theorem total_le {f g : Nat → Nat} : ∀ {l : List Nat}, (∀ x ∈ l, f x ≤ g x) → (l.map f).sum ≤ (l.map g).sum
  | [], _ => by simp
  | x :: l, h => by
    have h1 := h x (by simp)
    have h2 := total_le (l := l) fun y hy => h y (by simp [hy])
    simp; omega
theorem total_lt {f g : Nat → Nat} : ∀ {l : List Nat} {z : Nat}, (∀ x ∈ l, f x ≤ g x) → z ∈ l → f z < g z → (l.map f).sum < (l.map g).sum
  | [], _, _, hz, _ => by simp at hz
  | x :: l, z, h, hz, hlt => by
    have h1 := h x (by simp)
    rcases List.mem_cons.1 hz with rfl | e
    · have h2 := total_le (l := l) fun y hy => h y (by simp [hy])
      simp; omega
    · have h2 := total_lt (l := l) (fun y hy => h y (by simp [hy])) e hlt
      simp; omega
def wgt (s : Sx) (i : Nat) : Nat := (if (s.A i).isSome = true then 0 else 1) + (if s.der i = true then 0 else 1) + (if s.K i = true then 0 else 1)
/-- How much there is still to do. -/
def mu (L : List Nd) (s : Sx) : Nat := ((List.range L.length).map (wgt s)).sum
theorem wgt_le {s s' : Sx} (h : Le s s') (i : Nat) : wgt s' i ≤ wgt s i := by
  unfold wgt
  have h1 := h.a i
  have h2 : s.der i = true → s'.der i = true := h.d
  have h3 := h.k i
  split <;> split <;> split <;> split <;> split <;> split <;> simp_all
theorem mu_le {L : List Nd} {s s' : Sx} (h : Le s s') : mu L s' ≤ mu L s := total_le fun i _ => wgt_le h i
theorem mu_lt {L : List Nd} {s s' : Sx} (h : Le s s') {r : Int} (hr : hasB L.length r = true) (hlt : ((s.A r).isSome = false ∧ (s'.A r).isSome = true) ∨ (s.der r = false ∧ s'.der r = true) ∨ (s.K r = false ∧ s'.K r = true)) : mu L s' < mu L s := by
  obtain ⟨h0, h1⟩ := hasB_iff.1 hr
  obtain ⟨i, rfl⟩ : ∃ i : Nat, r = i := ⟨r.toNat, by omega⟩
  refine total_lt (z := i) (fun i _ => wgt_le h i) (List.mem_range.2 (by omega)) ?_
  have h1 := h.a i
  have h2 : s.der i = true → s'.der i = true := h.d
  have h3 := h.k i
  unfold wgt
  cases ha : (s.A i).isSome <;> cases ha' : (s'.A i).isSome <;> cases hb : s.der i <;> cases hb' : s'.der i <;> cases hc : s.K i <;> cases hc' : s'.K i <;> rw [ha, ha', hb, hb', hc, hc'] at hlt <;> rw [ha, ha'] at h1 <;> rw [hb, hb'] at h2 <;> rw [hc, hc'] at h3 <;> first | (exact absurd (h1 rfl) (by decide)) | (exact absurd (h2 rfl) (by decide)) | (exact absurd (h3 rfl) (by decide)) | (exact absurd hlt (by decide)) | decide

theorem Snd.put_new {L : List Nd} {T : Int → Prop} {s : Sx} (h : Snd L T s) {r : Int} {b : Bool} (hr : s.A r = none) (hb : b = true → Can L (fun x => s.K x = true) r) : Snd L T (s.put r (b, [])) := by
  refine ⟨fun y hy => ?_, h.kt, h.kh, fun y b' ws hy c hc => ?_⟩
  · by_cases e : y = r
    · subst e; rw [put_der] at hy; exact hb hy
    · rw [put_der_other e] at hy; exact h.de y hy
  · by_cases e : y = r
    · subst e; rw [put_A] at hy; injection hy with hy; injection hy with _ hy; subst hy; simp at hc
    · rw [put_other e] at hy; exact (h.wt y b' ws hy c hc).le (Le.put_new hr)
theorem Snd.put_old {L : List Nd} {T : Int → Prop} {s : Sx} (h : Snd L T s) {r : Int} {b : Bool} {ws ws' : List Clo} (hr : s.A r = some (false, ws)) (hb : b = true → Can L (fun x => s.K x = true) r) (hw : ∀ c ∈ ws', c ∈ ws ∨ Just L T s (c.1, r :: c.2)) : Snd L T (s.put r (b, ws')) := by
  refine ⟨fun y hy => ?_, h.kt, h.kh, fun y b' w2 hy c hc => ?_⟩
  · by_cases e : y = r
    · subst e; rw [put_der] at hy; exact hb hy
    · rw [put_der_other e] at hy; exact h.de y hy
  · by_cases e : y = r
    · subst e; rw [put_A] at hy; injection hy with hy; injection hy with _ hy; subst hy
      rcases hw c hc with e | e
      · exact (h.wt y _ _ hr c e).le (Le.put_old hr)
      · exact e.le (Le.put_old hr)
    · rw [put_other e] at hy; exact (h.wt y b' w2 hy c hc).le (Le.put_old hr)
theorem Snd.know {L : List Nd} {T : Int → Prop} {s : Sx} (h : Snd L T s) {r : Int} (hr : hasB L.length r = true) (ht : T r) : Snd L T (s.know r) := by
  have hk : ∀ y, (s.know r).K y = true → y = r ∨ s.K y = true := fun y hy => by
    simp only [Sx.know] at hy
    split at hy
    · rename_i e; exact .inl e
    · exact .inr hy
  refine ⟨fun y hy => (h.de y hy).mono (Le.know s r).k, fun y hy => ?_, fun y hy => ?_, fun y b ws hy c hc => (h.wt y b ws hy c hc).le (Le.know s r)⟩
  · rcases hk y hy with rfl | e
    · exact ht
    · exact h.kt y e
  · rcases hk y hy with rfl | e
    · exact hr
    · exact h.kh y e

/-- What is behind an operation. -/
def Ends (L : List Nd) (T : Int → Prop) (P : Clo → Prop) (o : Op) (s s' : Sx) : Prop := Goes L o s s' ∧ Inv L s' P ∧ Snd L T s' ∧ Le s s'
structure Lev (L : List Nd) (T : Int → Prop) (m : Nat) : Prop where
  ask : ∀ s P r, mu L s ≤ m → hasB L.length r = true → Inv L s P → Snd L T s → ∃ s', Ends L T P (.ask r) s s' ∧ (s'.A r).isSome = true
  reach : ∀ s P r, mu L s ≤ m → Just L T s (.reach r, []) → Inv L s (addP (.reach r, []) P) → Snd L T s → ∃ s', Ends L T P (.reach r) s s' ∧ s'.der r = true
  learn : ∀ s P r, mu L s ≤ m → Just L T s (.learn r, []) → Inv L s (addP (.learn r, []) P) → Snd L T s → ∃ s', Ends L T P (.learn r) s s' ∧ s'.K r = true
  when_ : ∀ s P t rs, mu L s ≤ m → Just L T s (t, rs) → Inv L s (addP (t, rs) P) → Snd L T s → ∃ s', Ends L T P (.when_ t rs) s s'

section
variable {L : List Nd} {T : Int → Prop} {m : Nat}
theorem lev_when (ha : ∀ s P r, mu L s ≤ m → hasB L.length r = true → Inv L s P → Snd L T s → ∃ s', Ends L T P (.ask r) s s' ∧ (s'.A r).isSome = true)
    (hr : ∀ s P r, mu L s ≤ m → Just L T s (.reach r, []) → Inv L s (addP (.reach r, []) P) → Snd L T s → ∃ s', Ends L T P (.reach r) s s' ∧ s'.der r = true)
    (hl : ∀ s P r, mu L s ≤ m → Just L T s (.learn r, []) → Inv L s (addP (.learn r, []) P) → Snd L T s → ∃ s', Ends L T P (.learn r) s s' ∧ s'.K r = true) :
    ∀ (rs : List Int) (s : Sx) (P : Clo → Prop) (t : Thn), mu L s ≤ m → Just L T s (t, rs) → Inv L s (addP (t, rs) P) → Snd L T s → ∃ s', whenR (fun r => Goes L (.ask r)) (Goes L (.thn t)) t rs s s' ∧ Inv L s' P ∧ Snd L T s' ∧ Le s s'
  | [], s, P, .reach r, hm, hj, hi, hs => by
    obtain ⟨s', ⟨⟨n, h1⟩, h2⟩, _⟩ := hr s P r hm hj hi hs
    exact ⟨s', ⟨n + 1, h1⟩, h2⟩
  | [], s, P, .learn r, hm, hj, hi, hs => by
    obtain ⟨s', ⟨⟨n, h1⟩, h2⟩, _⟩ := hl s P r hm hj hi hs
    exact ⟨s', ⟨n + 1, h1⟩, h2⟩
  | x :: rs, s, P, t, hm, hj, hi, hs => by
    obtain ⟨s1, ⟨h1, h2, h3, h4⟩, h5⟩ := ha s (addP (t, x :: rs) P) x hm (hj.1 x (by simp)) hi hs
    by_cases e : s1.der x = true
    · obtain ⟨s', g1, g2, g3, g4⟩ := lev_when ha hr hl rs s1 P t (Nat.le_trans (mu_le h4) hm) ((hj.le h4).tail h3 e) (h2.skip e) h3
      exact ⟨s', ⟨s1, h1, by rw [if_pos e]; exact g1⟩, g2, g3, h4.trans g4⟩
    · obtain ⟨ws, hw⟩ := der_false h5 e
      have hw' : s1.wait x (t, rs) = s1.put x (false, ws ++ [(t, rs)]) := by unfold Sx.wait Sx.der Sx.ws; rw [hw]
      refine ⟨s1.put x (false, ws ++ [(t, rs)]), ⟨s1, h1, by rw [if_neg e, hw']⟩, h2.wait hw, ?_, h4.trans (Le.put_old hw)⟩
      have hj1 := hj.le h4
      refine h3.put_old hw (fun e => by simp at e) (fun c hc => ?_)
      rcases List.mem_append.1 hc with e' | e'
      · exact .inl e'
      · simp at e'
        subst e'
        exact .inr hj1
theorem lev_all (hw : ∀ s P t rs, mu L s ≤ m → Just L T s (t, rs) → Inv L s (addP (t, rs) P) → Snd L T s → ∃ s', Ends L T P (.when_ t rs) s s') :
    ∀ (l : List Clo) (s : Sx) (P : Clo → Prop), mu L s ≤ m → (∀ c ∈ l, Just L T s c) → Inv L s (fun c => c ∈ l ∨ P c) → Snd L T s → ∃ s', allR (fun c => Goes L (.when_ c.1 c.2)) l s s' ∧ Inv L s' P ∧ Snd L T s' ∧ Le s s'
  | [], s, P, _, _, hi, hs => ⟨s, rfl, hi.mono fun c hc => by rcases hc with e | e; simp at e; exact e, hs, Le.refl s⟩
  | c :: l, s, P, hm, hj, hi, hs => by
    obtain ⟨s1, h1, h2, h3, h4⟩ := hw s (fun c => c ∈ l ∨ P c) c.1 c.2 hm (hj c (by simp)) (hi.mono fun d hd => by
      rcases hd with e | e
      · rcases List.mem_cons.1 e with e | e
        · exact .inl e
        · exact .inr (.inl e)
      · exact .inr (.inr e)) hs
    obtain ⟨s', g1, g2, g3, g4⟩ := lev_all hw l s1 P (Nat.le_trans (mu_le h4) hm) (fun d hd => (hj d (by simp [hd])).le h4) h2 h3
    exact ⟨s', ⟨s1, h1, g1⟩, g2, g3, h4.trans g4⟩

theorem obl_just (hL : WF L) {s : Sx} {r : Int} (hr : hasB L.length r = true) (ha : (s.A r).isSome = true) : ∀ c ∈ obl L r, Just L T s c := by
  obtain ⟨p1, p2, p3⟩ := nd_has hL hr
  intro c hc
  unfold obl at hc
  split at hc
  · rename_i e
    simp only [List.mem_singleton] at hc
    subst hc
    exact ⟨by simp, hr, ha, fun K' _ _ => .free hr e⟩
  · rename_i e
    split at hc
    · rename_i e1
      split at hc
      · rename_i e2
        simp only [List.mem_singleton] at hc
        subst hc
        exact ⟨by simp, hr, ha, fun K' _ _ => .own hr e1 e2⟩
      · simp at hc
    · rename_i e1
      split at hc
      · rename_i e3
        simp only [List.mem_cons, List.not_mem_nil, or_false] at hc
        rcases hc with rfl | rfl
        · exact ⟨fun x hx => by
            simp only [List.mem_cons, List.not_mem_nil, or_false] at hx
            rcases hx with rfl | rfl
            · exact p1
            · exact pubR_has p2, hr, ha, fun K' _ hx => can_dhA hL hr e3 (hx _ (by simp)) (hx _ (by simp))⟩
        · exact ⟨fun x hx => by
            simp only [List.mem_cons, List.not_mem_nil, or_false] at hx
            rcases hx with rfl | rfl
            · exact p2
            · exact pubR_has p1, hr, ha, fun K' _ hx => can_dhB hL hr e3 (hx _ (by simp)) (hx _ (by simp))⟩
      · rename_i e3
        simp only [List.mem_singleton] at hc
        subst hc
        refine ⟨fun x hx => ?_, hr, ha, fun K' _ hx => .parts hr (fun h => e (.inl h)) e1 e3 (fun h => e (.inr h)) (hx _ (by simp)) (hx _ (by simp)) (hx _ (by simp))⟩
        simp only [List.mem_cons, List.not_mem_nil, or_false] at hx
        rcases hx with rfl | rfl | rfl
        · exact p1
        · exact p2
        · exact p3

theorem lev_compose (hL : WF L) (h : Lev L T m) {s : Sx} {P : Clo → Prop} {r : Int} (hm : mu L s ≤ m) (hr : hasB L.length r = true) (ha : (s.A r).isSome = true) (hi : Inv L s (fun c => c ∈ obl L r ∨ P c)) (hs : Snd L T s) : ∃ s', Ends L T P (.compose r) s s' := by
  have hj := obl_just (T := T) hL hr ha
  unfold obl at hi hj
  by_cases e : (nd L r).k = 0 ∨ (nd L r).k = 9
  · rw [if_pos e] at hi hj
    obtain ⟨s', ⟨⟨n, h1⟩, h2⟩, _⟩ := h.reach s P r hm (hj _ (by simp)) (hi.mono fun c hc => hc.imp (fun e => by simpa using e) id) hs
    exact ⟨s', ⟨n + 1, by unfold Run; rw [if_pos e]; exact h1⟩, h2⟩
  · rw [if_neg e] at hi hj
    by_cases e1 : (nd L r).k = 1
    · rw [if_pos e1] at hi hj
      by_cases e2 : 4294967296 ≤ (nd L r).n
      · rw [if_pos e2] at hi hj
        obtain ⟨s', ⟨⟨n, h1⟩, h2⟩, _⟩ := h.reach s P r hm (hj _ (by simp)) (hi.mono fun c hc => hc.imp (fun e => by simpa using e) id) hs
        exact ⟨s', ⟨n + 1, by unfold Run; rw [if_neg e, if_pos e1, if_pos e2]; exact h1⟩, h2⟩
      · rw [if_neg e2] at hi
        exact ⟨s, ⟨1, by unfold Run; rw [if_neg e, if_pos e1, if_neg e2]⟩, hi.mono fun c hc => by rcases hc with e | e; simp at e; exact e, hs, Le.refl s⟩
    · rw [if_neg e1] at hi hj
      by_cases e3 : (nd L r).k = 3
      · rw [if_pos e3] at hi hj
        obtain ⟨s1, ⟨n1, h1⟩, h2, h3, h4⟩ := h.when_ s (addP (.reach r, [(nd L r).b, pubR L (nd L r).a]) P) (.reach r) [(nd L r).a, pubR L (nd L r).b] hm (hj _ (by simp)) (hi.mono fun c hc => by
          rcases hc with e | e
          · simp only [List.mem_cons, List.not_mem_nil, or_false] at e
            rcases e with e | e
            · exact .inl e
            · exact .inr (.inl e)
          · exact .inr (.inr e)) hs
        obtain ⟨s2, ⟨n2, g1⟩, g2, g3, g4⟩ := h.when_ s1 P _ _ (Nat.le_trans (mu_le h4) hm) ((hj (.reach r, [(nd L r).b, pubR L (nd L r).a]) (by simp)).le h4) h2 h3
        exact ⟨s2, ⟨n1 + n2 + 1, by unfold Run; rw [if_neg e, if_neg e1, if_pos e3]; exact ⟨s1, Run.mono (by omega) h1, Run.mono (by omega) g1⟩⟩, g2, g3, h4.trans g4⟩
      · rw [if_neg e3] at hi hj
        obtain ⟨s', ⟨n, h1⟩, h2⟩ := h.when_ s P (.reach r) [(nd L r).a, (nd L r).b, (nd L r).c] hm (hj _ (by simp)) (hi.mono fun c hc => hc.imp (fun e => by simpa using e) id) hs
        exact ⟨s', ⟨n + 1, by unfold Run; rw [if_neg e, if_neg e1, if_neg e3]; exact h1⟩, h2⟩

theorem lev_next (hL : WF L) (hT : Shut L T) (h : ∀ k, k < m → Lev L T k) : Lev L T m := by
  have hask : ∀ s P r, mu L s ≤ m → hasB L.length r = true → Inv L s P → Snd L T s → ∃ s', Ends L T P (.ask r) s s' ∧ (s'.A r).isSome = true := fun s P r hm hr hi hs => by
    cases hA : s.A r with
    | some x => exact ⟨s, ⟨⟨1, by unfold Run; rw [hA]⟩, hi, hs, Le.refl s⟩, by rw [hA]; rfl⟩
    | none =>
      by_cases hk : s.K r = true
      · refine ⟨s.put r (true, []), ⟨⟨1, by unfold Run; rw [hA]; simp only; rw [if_pos hk]; trivial⟩, hi.put hA (fun _ e => e) (fun _ c hc => .inl ?_) (fun _ => rfl), hs.put_new hA (fun _ => .known hr hk), Le.put_new hA⟩, by rw [put_A]; rfl⟩
        unfold obl at hc
        have : c.1 = .reach r := by
          split at hc
          · simp only [List.mem_singleton] at hc; subst hc; rfl
          · split at hc
            · split at hc
              · simp only [List.mem_singleton] at hc; subst hc; rfl
              · simp at hc
            · split at hc
              · simp only [List.mem_cons, List.not_mem_nil, or_false] at hc; rcases hc with rfl | rfl <;> rfl
              · simp only [List.mem_singleton] at hc; subst hc; rfl
        rw [this]; exact put_der
      · have hle := Le.put_new (b := false) hA
        have hlt := mu_lt (L := L) hle hr (.inl ⟨by rw [hA]; rfl, by rw [put_A]; rfl⟩)
        have hi' : Inv L (s.put r (false, [])) (fun c => c ∈ obl L r ∨ P c) := hi.put hA (fun _ e => .inr e) (fun _ c hc => .inr (.inr ⟨[], c.2, rfl, by simp, .inl hc⟩)) (fun e => absurd e hk)
        obtain ⟨s', ⟨n, h1⟩, h2, h3, h4⟩ := lev_compose hL (h _ (Nat.lt_of_lt_of_le hlt hm)) (Nat.le_refl _) hr (by rw [put_A]; rfl) hi' (hs.put_new hA (fun e => by simp at e))
        exact ⟨s', ⟨⟨n + 1, by unfold Run; rw [hA]; simp only; rw [if_neg hk, if_pos hr]; exact h1⟩, h2, h3, hle.trans h4⟩, h4.a r (by rw [put_A]; rfl)⟩
  have hreach : ∀ s P r, mu L s ≤ m → Just L T s (.reach r, []) → Inv L s (addP (.reach r, []) P) → Snd L T s → ∃ s', Ends L T P (.reach r) s s' ∧ s'.der r = true := fun s P r hm hj hi hs => by
    obtain ⟨_, hr, ha, hc⟩ := hj
    by_cases hd : s.der r = true
    · obtain ⟨ws, hw⟩ := der_iff.1 hd
      exact ⟨s, ⟨⟨1, by unfold Run; rw [hw]⟩, hi.past hd, hs, Le.refl s⟩, hd⟩
    · obtain ⟨ws, hw⟩ := der_false ha hd
      have hle : Le s (s.put r (true, ws)) := Le.put_old hw
      have hlt := mu_lt (L := L) hle hr (.inr (.inl ⟨by simpa using hd, put_der⟩))
      have hs' : Snd L T (s.put r (true, ws)) := hs.put_old hw (fun _ => hc _ (fun _ e => e) (by simp)) (fun c e => .inl e)
      obtain ⟨s', g1, g2, g3, g4⟩ := lev_all (h _ (Nat.lt_of_lt_of_le hlt hm)).when_ ws _ P (Nat.le_refl _) (fun c hc' => ((hs.wt r _ _ hw c hc').le hle).tail hs' put_der) (hi.reach hw) hs'
      obtain ⟨n, g5⟩ := all_goes g1
      exact ⟨s', ⟨⟨n + 1, by unfold Run; rw [hw]; exact g5⟩, g2, g3, hle.trans g4⟩, g4.d put_der⟩
  have hlearn : ∀ s P r, mu L s ≤ m → Just L T s (.learn r, []) → Inv L s (addP (.learn r, []) P) → Snd L T s → ∃ s', Ends L T P (.learn r) s s' ∧ s'.K r = true := fun s P r hm hj hi hs => by
    obtain ⟨_, hr, ht⟩ := hj
    have ht := ht (by simp)
    by_cases hk : s.K r = true
    · exact ⟨s, ⟨⟨1, by unfold Run; rw [if_pos hk]⟩, hi.past hk, hs, Le.refl s⟩, hk⟩
    · have hk' : (s.know r).K r = true := by simp [Sx.know]
      have hle := Le.know s r
      have hlt := mu_lt (L := L) hle hr (.inr (.inr ⟨by simpa using hk, hk'⟩))
      obtain ⟨p1, p2, p3⟩ := nd_has hL hr
      have hlev := h _ (Nat.lt_of_lt_of_le hlt hm)
      have hs0 := hs.know hr ht
      obtain ⟨Q, hQ⟩ : ∃ Q : Clo → Prop, Q = fun c => ((nd L r).k = 7 ∧ c = (.learn (nd L r).c, [(nd L r).a]) ∨ (nd L r).k = 8 ∧ (c = (.learn (nd L r).a, []) ∨ c = (.learn (nd L r).b, []))) ∨ P c := ⟨_, rfl⟩
      have hi0 : Inv L (s.know r) (addP (.reach r, []) Q) := hi.know.mono fun c hc => by rw [hQ]; exact hc
      obtain ⟨s1, ⟨⟨n1, a1⟩, a2, a3, a4⟩, a5⟩ := hlev.ask (s.know r) (addP (.reach r, []) Q) r (Nat.le_refl _) hr hi0 hs0
      obtain ⟨s2, ⟨⟨n2, b1⟩, b2, b3, b4⟩, b5⟩ := hlev.reach s1 Q r (mu_le a4) ⟨by simp, hr, a5, fun K' hK _ => .known hr (hK r (a4.k r hk'))⟩ a2 a3
      have hl2 := a4.trans b4
      have hm2 := mu_le (L := L) hl2
      have hT' := hT r hr ht
      subst hQ
      by_cases e8 : (nd L r).k = 8
      · obtain ⟨s3, ⟨⟨n3, c1⟩, c2, c3, c4⟩, _⟩ := hlev.learn s2 (addP (.learn (nd L r).b, []) P) (nd L r).a hm2 ⟨by simp, p1, fun _ => (hT'.1 e8).1⟩ (b2.mono fun c hc => by
          rcases hc with (e | e) | e
          · rw [e8] at e; simp at e
          · rcases e.2 with e | e
            · exact .inl e
            · exact .inr (.inl e)
          · exact .inr (.inr e)) b3
        obtain ⟨s4, ⟨⟨n4, d1⟩, d2, d3, d4⟩, _⟩ := hlev.learn s3 P (nd L r).b (Nat.le_trans (mu_le c4) hm2) ⟨by simp, p2, fun _ => (hT'.1 e8).2⟩ c2 c3
        refine ⟨s4, ⟨⟨n1 + n2 + n3 + n4 + 1, ?_⟩, d2, d3, hle.trans (hl2.trans (c4.trans d4))⟩, (hl2.trans (c4.trans d4)).k r hk'⟩
        unfold Run
        rw [if_neg hk]
        simp only [if_pos e8]
        exact ⟨s1, s2, Run.mono (by omega) a1, Run.mono (by omega) b1, s3, Run.mono (by omega) c1, Run.mono (by omega) d1⟩
      · by_cases e7 : (nd L r).k = 7
        · obtain ⟨s3, ⟨n3, c1⟩, c2, c3, c4⟩ := hlev.when_ s2 P (.learn (nd L r).c) [(nd L r).a] hm2 ⟨by simpa using p1, p3, fun hx => hT'.2 e7 (hx _ (by simp))⟩ (b2.mono fun c hc => by
            rcases hc with (e | e) | e
            · exact .inl e.2
            · exact absurd e.1 e8
            · exact .inr e) b3
          refine ⟨s3, ⟨⟨n1 + n2 + n3 + 1, ?_⟩, c2, c3, hle.trans (hl2.trans c4)⟩, (hl2.trans c4).k r hk'⟩
          unfold Run
          rw [if_neg hk]
          simp only [if_neg e8, if_pos e7]
          exact ⟨s1, s2, Run.mono (by omega) a1, Run.mono (by omega) b1, Run.mono (by omega) c1⟩
        · refine ⟨s2, ⟨⟨n1 + n2 + 1, ?_⟩, b2.mono fun c hc => by
            rcases hc with (e | e) | e
            · exact absurd e.1 e7
            · exact absurd e.1 e8
            · exact e, b3, hle.trans hl2⟩, hl2.k r hk'⟩
          unfold Run
          rw [if_neg hk]
          simp only [if_neg e8, if_neg e7]
          exact ⟨s1, s2, Run.mono (by omega) a1, Run.mono (by omega) b1, rfl⟩
  exact ⟨hask, hreach, hlearn, fun s P t rs hm hj hi hs => by
    obtain ⟨s', h1, h2⟩ := lev_when hask hreach hlearn rs s P t hm hj hi hs
    exact ⟨s', goes_when h1, h2⟩⟩
theorem lev_any (hL : WF L) (hT : Shut L T) (m : Nat) : Lev L T m := by
  induction m using Nat.strongRecOn with
  | ind m ih => exact lev_next hL hT ih
end

/-- At the end: what was asked for can be made just if it is found so. -/
theorem asked_can {L : List Nd} (hL : WF L) {s : Sx} {P : Clo → Prop} (hP : ∀ r rs, ¬ P (.reach r, rs)) (hi : Inv L s P) {r : Int} (hc : Can L (fun x => s.K x = true) r) : (s.A r).isSome = true → s.der r = true := by
  have key : ∀ {r : Int} {rs : List Int}, Held s P (.reach r, rs) → (∀ x ∈ rs, (s.A x).isSome = true → s.der x = true) → s.der r = true := fun {r rs} h hx => by
    rcases h with e | ⟨pre, x, post, ws, h1, _, h3, _⟩ | ⟨pre, post, _, _, h3⟩
    · exact e
    · have h4 := hx x (by rw [show rs = pre ++ x :: post from h1]; simp) (by rw [h3]; rfl)
      obtain ⟨w', hw⟩ := der_iff.1 h4
      rw [h3] at hw; simp at hw
    · exact absurd h3 (hP _ _)
  have kn : ∀ {r : Int}, s.K r = true → (s.A r).isSome = true → s.der r = true := fun h1 h2 => by
    rcases hi.kn _ h1 h2 with e | e
    · exact e
    · exact absurd e (hP _ _)
  have z : (s.A 0).isSome = true → s.der 0 = true := fun h => key (hi.ob 0 h (has_zero hL) (.reach 0, []) (by unfold obl; rw [nd_zero hL]; simp [zN])) (by simp)
  have pub : ∀ {p x : Int}, hasB L.length p = true → nd L p = ⟨2, 0, x, 0, 0⟩ → ((s.A x).isSome = true → s.der x = true) → (s.A p).isSome = true → s.der p = true := fun {p x} hp hn hx h => by
    refine key (hi.ob p h hp (.reach p, [x, 0, 0]) (by unfold obl; rw [hn]; simp)) (fun y hy => ?_)
    simp only [List.mem_cons, List.not_mem_nil, or_false, or_self] at hy
    rcases hy with rfl | rfl
    · exact hx
    · exact z
  have pubd : ∀ {x : Int}, ((s.A x).isSome = true → s.der x = true) → (s.A (pubR L x)).isSome = true → s.der (pubR L x) = true := fun {x} hx => by
    rcases pubR_cases L x with e | e
    · rw [e.1]; exact hx
    · exact pub e.1 e.2 hx
  induction hc with
  | known h hk => exact kn hk
  | @free r h hk => exact fun ha => key (hi.ob _ ha h (.reach r, []) (by unfold obl; rw [if_pos hk]; simp)) (by simp)
  | @own r h hk hn => exact fun ha => key (hi.ob _ ha h (.reach r, []) (by unfold obl; rw [if_neg (by omega), if_pos hk, if_pos hn]; simp)) (by simp)
  | @dh r h hk _ _ iha ihb =>
    exact fun ha => key (hi.ob _ ha h (.reach r, [(nd L r).a, pubR L (nd L r).b]) (by unfold obl; rw [if_neg (by omega), if_neg (by omega), if_pos hk]; simp)) (fun x hx => by
      simp only [List.mem_cons, List.not_mem_nil, or_false] at hx
      rcases hx with rfl | rfl
      · exact iha
      · exact pubd ihb)
  | @dhA r p h hk _ hp hpk hpn iha =>
    exact fun ha => key (hi.ob _ ha h (.reach r, [(nd L r).a, pubR L (nd L r).b]) (by unfold obl; rw [if_neg (by omega), if_neg (by omega), if_pos hk]; simp)) (fun x hx => by
      simp only [List.mem_cons, List.not_mem_nil, or_false] at hx
      rcases hx with rfl | rfl
      · exact iha
      · rw [pubR_at hL hp hpn]; exact kn hpk)
  | @dhB r p h hk _ hp hpk hpn ihb =>
    exact fun ha => key (hi.ob _ ha h (.reach r, [(nd L r).b, pubR L (nd L r).a]) (by unfold obl; rw [if_neg (by omega), if_neg (by omega), if_pos hk]; simp)) (fun x hx => by
      simp only [List.mem_cons, List.not_mem_nil, or_false] at hx
      rcases hx with rfl | rfl
      · exact ihb
      · rw [pubR_at hL hp hpn]; exact kn hpk)
  | @parts r h h0 h1 h3 h9 _ _ _ iha ihb ihc =>
    exact fun ha => key (hi.ob _ ha h (.reach r, [(nd L r).a, (nd L r).b, (nd L r).c]) (by unfold obl; rw [if_neg (by omega), if_neg h1, if_neg h3]; simp)) (fun x hx => by
      simp only [List.mem_cons, List.not_mem_nil, or_false] at hx
      rcases hx with rfl | rfl | rfl
      · exact iha
      · exact ihb
      · exact ihc)
end Go.Proofs.YtljjpcbldfhffaaDoor
