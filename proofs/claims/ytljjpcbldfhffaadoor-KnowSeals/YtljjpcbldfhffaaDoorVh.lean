/- Layer 3 in plain mathematics: how much may wait in a search. No program is named. -/
import Derived.Test.YtljjpcbldfhffaaDoorVe
namespace Go.Proofs.YtljjpcbldfhffaaDoor

theorem sum_upd {f g : Nat → Nat} {j : Nat} (h : ∀ i, i ≠ j → f i = g i) : ∀ n, j < n → ((List.range n).map f).sum + g j = ((List.range n).map g).sum + f j
  | 0, hj => by omega
  | n + 1, hj => by
    simp only [List.range_succ, List.map_append, List.map_cons, List.map_nil, List.sum_append, List.sum_cons, List.sum_nil]
    rcases Nat.lt_or_ge j n with e | e
    · have := sum_upd h n e
      have := h n (by omega)
      omega
    · obtain rfl : j = n := by omega
      have : ((List.range j).map f) = ((List.range j).map g) := List.map_congr_left fun i hi => h i (by have := List.mem_range.1 hi; omega)
      rw [this]; omega
def wgC (b : Bool) (c : Clo) : Nat := 1 + (if b = true then 0 else c.2.length)
def phA : Option (Bool × List Clo) → Nat
  | none => 4
  | some (b, ws) => (ws.map (wgC b)).sum
def phI (s : Sx) (i : Nat) : Nat := phA (s.A i) + (if s.K i = true then 0 else 1)
/-- How much waits, or may come to wait. -/
def phi (L : List Nd) (s : Sx) : Nat := ((List.range L.length).map (phI s)).sum
def slack : Op → Nat
  | .compose _ => 4
  | .when_ _ rs => rs.length
  | _ => 0

section
variable {L : List Nd} {s : Sx} {r : Int}
theorem phi_put (x : Bool × List Clo) (hr : hasB L.length r = true) : phi L (s.put r x) + phA (s.A r) = phi L s + phA (some x) := by
  obtain ⟨h0, h1⟩ := hasB_iff.1 hr
  obtain ⟨j, rfl⟩ : ∃ j : Nat, r = j := ⟨r.toNat, by omega⟩
  have := sum_upd (f := phI (s.put j x)) (g := phI s) (j := j) (fun i hi => by
    unfold phI
    rw [put_other (by omega)]
    rfl) L.length (by omega)
  unfold phi
  have e1 : phI (s.put j x) j = phA (some x) + (if s.K j = true then 0 else 1) := by
    unfold phI; rw [put_A]; rfl
  have e2 : phI s j = phA (s.A j) + (if s.K j = true then 0 else 1) := rfl
  omega
theorem phi_put_out (x : Bool × List Clo) (hr : ¬ hasB L.length r = true) : phi L (s.put r x) = phi L s := by
  unfold phi
  congr 1
  refine List.map_congr_left fun i hi => ?_
  unfold phI
  rw [put_other (fun e => hr (hasB_iff.2 ⟨by omega, by have := List.mem_range.1 hi; omega⟩))]
  rfl
theorem phi_know (hr : hasB L.length r = true) (hk : ¬ s.K r = true) : phi L (s.know r) + 1 = phi L s := by
  obtain ⟨h0, h1⟩ := hasB_iff.1 hr
  obtain ⟨j, rfl⟩ : ∃ j : Nat, r = j := ⟨r.toNat, by omega⟩
  have := sum_upd (f := phI (s.know j)) (g := phI s) (j := j) (fun i hi => by
    have e : (s.know j).K i = s.K i := by simp only [Sx.know]; rw [if_neg (by omega)]
    unfold phI; rw [e]; rfl) L.length (by omega)
  unfold phi
  have e1 : phI (s.know j) j = phA (s.A j) := by unfold phI Sx.know; simp
  have e2 : phI s j = phA (s.A j) + 1 := by unfold phI; rw [if_neg hk]
  omega
theorem phi_know_out (hr : ¬ hasB L.length r = true) : phi L (s.know r) = phi L s := by
  unfold phi
  congr 1
  refine List.map_congr_left fun i hi => ?_
  have e : (s.know r).K i = s.K i := by simp only [Sx.know]; rw [if_neg (fun e => hr (hasB_iff.2 ⟨by omega, by have := List.mem_range.1 hi; omega⟩))]
  unfold phI; rw [e]; rfl
theorem nd_out (hL : WF L) (hr : ¬ hasB L.length r = true) : nd L r = zN := by
  rcases Int.lt_or_le r 0 with h | h
  · have := nd_zero hL
    unfold nd at this ⊢
    rw [show r.toNat = (0 : Int).toNat by omega]; exact this
  · unfold nd
    rw [List.getD_eq_getElem?_getD, List.getElem?_eq_none (by
      rcases Nat.lt_or_ge r.toNat L.length with e | e
      · exact absurd (hasB_iff.2 ⟨h, by omega⟩) hr
      · exact e)]
    rfl
end
theorem sum_true (ws : List Clo) : (ws.map (wgC true)).sum = ws.length := by
  induction ws with
  | nil => rfl
  | cons c l ih => simp [wgC, ih]; omega
theorem sum_false (ws : List Clo) : (ws.map (wgC false)).sum = ws.length + (ws.map fun c => c.2.length).sum := by
  induction ws with
  | nil => rfl
  | cons c l ih => simp [wgC, ih]; omega

/-- All that a search speaks of is there. -/
def tOk (L : List Nd) : Thn → Prop
  | .reach r => hasB L.length r = true
  | .learn r => hasB L.length r = true
def cOk (L : List Nd) (c : Clo) : Prop := tOk L c.1 ∧ ∀ x ∈ c.2, hasB L.length x = true
def oOk (L : List Nd) : Op → Prop
  | .ask r => hasB L.length r = true
  | .compose r => hasB L.length r = true
  | .when_ t rs => cOk L (t, rs)
  | .thn t => tOk L t
  | .reach r => hasB L.length r = true
  | .learn r => hasB L.length r = true
structure Ok (L : List Nd) (s : Sx) : Prop where
  a : ∀ r, (s.A r).isSome = true → hasB L.length r = true
  k : ∀ r, s.K r = true → hasB L.length r = true
  w : ∀ r b ws, s.A r = some (b, ws) → ∀ c ∈ ws, cOk L c
theorem Ok.put {L : List Nd} {s : Sx} (h : Ok L s) {r : Int} (hr : hasB L.length r = true) {b : Bool} {ws : List Clo} (hw : ∀ c ∈ ws, cOk L c) : Ok L (s.put r (b, ws)) := by
  refine ⟨fun y hy => ?_, h.k, fun y b' ws' hy => ?_⟩
  · by_cases e : y = r
    · subst e; exact hr
    · rw [put_other e] at hy; exact h.a y hy
  · by_cases e : y = r
    · subst e; rw [put_A] at hy; injection hy with hy; injection hy with _ hy; subst hy; exact hw
    · rw [put_other e] at hy; exact h.w y b' ws' hy
theorem Ok.know {L : List Nd} {s : Sx} (h : Ok L s) {r : Int} (hr : hasB L.length r = true) : Ok L (s.know r) := by
  refine ⟨h.a, fun y hy => ?_, h.w⟩
  simp only [Sx.know] at hy
  split at hy
  · rename_i e; subst e; exact hr
  · exact h.k y hy
theorem Ok.ws {L : List Nd} {s : Sx} (h : Ok L s) (r : Int) : ∀ c ∈ s.ws r, cOk L c := by
  intro c hc
  unfold Sx.ws at hc
  split at hc
  · rename_i b l e; exact h.w r b l e c hc
  · simp at hc
/-- What an operation comes to. -/
structure Fine (L : List Nd) (k : Nat) (s s' : Sx) : Prop where
  ok : Ok L s'
  le : Le s s'
  ph : phi L s' ≤ phi L s + k
theorem Fine.same {L : List Nd} {k : Nat} {s : Sx} (h : Ok L s) : Fine L k s s := ⟨h, Le.refl s, Nat.le_add_right _ _⟩
theorem Fine.trans {L : List Nd} {j k : Nat} {s s1 s2 : Sx} (h : Fine L j s s1) (h' : Fine L k s1 s2) : Fine L (j + k) s s2 := ⟨h'.ok, h.le.trans h'.le, by have := h.ph; have := h'.ph; omega⟩
theorem Fine.mono {L : List Nd} {j k : Nat} {s s1 : Sx} (h : Fine L j s s1) (hk : j ≤ k) : Fine L k s s1 := ⟨h.ok, h.le, by have := h.ph; omega⟩
theorem Sx.wait_eq {s : Sx} {r : Int} {ws : List Clo} (h : s.A r = some (false, ws)) (c : Clo) : s.wait r c = s.put r (false, ws ++ [c]) := by
  unfold Sx.wait Sx.der Sx.ws; rw [h]
theorem fine_wait {L : List Nd} {s : Sx} (h : Ok L s) {r : Int} (ha : (s.A r).isSome = true) (hd : ¬ s.der r = true) {c : Clo} (hc : cOk L c) : Fine L (1 + c.2.length) s (s.wait r c) := by
  obtain ⟨ws, hw⟩ := der_false ha hd
  have hr := h.a r ha
  rw [Sx.wait_eq hw]
  refine ⟨h.put hr fun x hx => ?_, Le.put_old hw, ?_⟩
  · rcases List.mem_append.1 hx with e | e
    · exact h.w r _ _ hw x e
    · simp at e; subst e; exact hc
  · have := phi_put (L := L) (s := s) (false, ws ++ [c]) hr
    rw [hw] at this
    simp [phA, wgC] at this
    omega
section
variable {L : List Nd}
theorem fine_when {ask : Int → Sx → Sx → Prop} {fin : Sx → Sx → Prop} {t : Thn} (ht : tOk L t) (ha : ∀ r s s', Ok L s → hasB L.length r = true → ask r s s' → Fine L 0 s s' ∧ (s'.A r).isSome = true) (hf : ∀ s s', Ok L s → fin s s' → Fine L 0 s s') : ∀ (rs : List Int) (s s' : Sx), Ok L s → (∀ x ∈ rs, hasB L.length x = true) → whenR ask fin t rs s s' → Fine L rs.length s s'
  | [], s, s', ho, _, h => hf _ _ ho h
  | r :: rs, s, s', ho, hrs, ⟨s1, h1, h2⟩ => by
    obtain ⟨f1, ha1⟩ := ha _ _ _ ho (hrs r (by simp)) h1
    have hrs' : ∀ x ∈ rs, hasB L.length x = true := fun x hx => hrs x (by simp [hx])
    split at h2
    · exact (f1.trans (fine_when ht ha hf rs _ _ f1.ok hrs' h2)).mono (by simp)
    · rename_i hd
      subst h2
      exact (f1.trans (fine_wait f1.ok ha1 hd (c := (t, rs)) ⟨ht, hrs'⟩)).mono (by simp only [List.length_cons]; omega)
theorem fine_all {f : Clo → Sx → Sx → Prop} (hf : ∀ c s s', Ok L s → cOk L c → f c s s' → Fine L c.2.length s s') : ∀ (l : List Clo) (s s' : Sx), Ok L s → (∀ c ∈ l, cOk L c) → allR f l s s' → Fine L (l.map fun c => c.2.length).sum s s'
  | [], s, s', ho, _, h => by rw [show s' = s from h]; exact Fine.same ho
  | c :: l, s, s', ho, hl, ⟨s1, h1, h2⟩ => by
    have f1 := hf _ _ _ ho (hl c (by simp)) h1
    exact (f1.trans (fine_all hf l _ _ f1.ok (fun x hx => hl x (by simp [hx])) h2)).mono (by simp)
theorem fine_reach {s : Sx} {r : Int} {ws : List Clo} (ho : Ok L s) (e : s.A r = some (false, ws)) : Ok L (s.put r (true, ws)) ∧ Le s (s.put r (true, ws)) ∧ phi L (s.put r (true, ws)) + (ws.map fun c => c.2.length).sum = phi L s := by
  have hr := ho.a r (by rw [e]; rfl)
  refine ⟨ho.put hr (ho.w r _ _ e), Le.put_old e, ?_⟩
  have := phi_put (L := L) (s := s) (true, ws) hr
  rw [e] at this
  simp only [phA, sum_true, sum_false] at this
  omega
theorem fine_ask {s : Sx} {r : Int} (ho : Ok L s) (hr : hasB L.length r = true) (e : s.A r = none) (b : Bool) : Ok L (s.put r (b, [])) ∧ Le s (s.put r (b, [])) ∧ phi L (s.put r (b, [])) + 4 = phi L s := by
  refine ⟨ho.put hr (by simp), Le.put_new e, ?_⟩
  have := phi_put (L := L) (s := s) (b, []) hr
  rw [e] at this
  simpa [phA] using this
/-- No operation has more wait than it may; what was found stays. -/
theorem run_fine (hL : WF L) : ∀ (n : Nat) (o : Op) (s s' : Sx), Ok L s → oOk L o → Run L n o s s' → Fine L (slack o) s s' ∧ ∀ r, o = .ask r → (s'.A r).isSome = true
  | 0, _, _, _, _, _, h => h.elim
  | n + 1, .ask r, s, s', ho, hr, h => by
    have hr : hasB L.length r = true := hr
    unfold Run at h
    simp only [slack]
    split at h
    · rename_i e
      subst h
      exact ⟨Fine.same ho, fun y hy => by injection hy with hy; subst hy; rw [e]; rfl⟩
    · rename_i e
      split at h
      · obtain ⟨f1, f2, f3⟩ := fine_ask ho hr e true
        subst h
        exact ⟨⟨f1, f2, by omega⟩, fun y hy => by injection hy with hy; subst hy; rw [put_A]; rfl⟩
      · obtain ⟨f1, f2, f3⟩ := fine_ask ho hr e false
        obtain ⟨g, _⟩ := run_fine hL n (.compose r) _ _ f1 hr h
        refine ⟨⟨g.ok, f2.trans g.le, by have := g.ph; simp only [slack] at this; omega⟩, fun y hy => by injection hy with hy; subst hy; exact g.le.a _ (by rw [put_A]; rfl)⟩
  | n + 1, .compose r, s, s', ho, hr, h => by
    have hr : hasB L.length r = true := hr
    obtain ⟨pa, pb, pc⟩ := nd_has hL hr
    unfold Run at h
    simp only [slack]
    refine ⟨?_, fun _ e => by cases e⟩
    split at h
    · exact (run_fine hL n (.reach r) _ _ ho hr h).1.mono (by simp [slack])
    · split at h
      · split at h
        · exact (run_fine hL n (.reach r) _ _ ho hr h).1.mono (by simp [slack])
        · rw [h]; exact Fine.same ho
      · split at h
        · obtain ⟨s1, h1, h2⟩ := h
          have f1 := (run_fine hL n (.when_ (.reach r) [(nd L r).a, pubR L (nd L r).b]) _ _ ho ⟨hr, by simpa using ⟨pa, pubR_has pb⟩⟩ h1).1
          have f2 := (run_fine hL n (.when_ (.reach r) [(nd L r).b, pubR L (nd L r).a]) _ _ f1.ok ⟨hr, by simpa using ⟨pb, pubR_has pa⟩⟩ h2).1
          exact (f1.trans f2).mono (by simp [slack])
        · exact (run_fine hL n (.when_ (.reach r) [(nd L r).a, (nd L r).b, (nd L r).c]) _ _ ho ⟨hr, by simpa using ⟨pa, pb, pc⟩⟩ h).1.mono (by simp [slack])
  | n + 1, .when_ t rs, s, s', ho, hr, h => by
    unfold Run at h
    exact ⟨fine_when hr.1 (fun r s s' ho hr h => by have := run_fine hL n (.ask r) _ _ ho hr h; exact ⟨this.1, this.2 r rfl⟩) (fun s s' ho h => (run_fine hL n (.thn t) _ _ ho hr.1 h).1) rs s s' ho hr.2 h, fun _ e => by cases e⟩
  | n + 1, .thn (.reach r), s, s', ho, hr, h => by unfold Run at h; exact ⟨(run_fine hL n (.reach r) _ _ ho hr h).1, fun _ e => by cases e⟩
  | n + 1, .thn (.learn r), s, s', ho, hr, h => by unfold Run at h; exact ⟨(run_fine hL n (.learn r) _ _ ho hr h).1, fun _ e => by cases e⟩
  | n + 1, .reach r, s, s', ho, hr, h => by
    unfold Run at h
    simp only [slack]
    refine ⟨?_, fun _ e => by cases e⟩
    split at h
    · exact h.elim
    · rw [h]; exact Fine.same ho
    · rename_i ws e
      obtain ⟨f1, f2, f3⟩ := fine_reach ho e
      have g := fine_all (fun c s s' ho hc h => (run_fine hL n (.when_ c.1 c.2) _ _ ho hc h).1) _ _ _ f1 (ho.w r _ _ e) h
      exact ⟨g.ok, f2.trans g.le, by have := g.ph; omega⟩
  | n + 1, .learn r, s, s', ho, hr, h => by
    have hr : hasB L.length r = true := hr
    obtain ⟨pa, pb, pc⟩ := nd_has hL hr
    unfold Run at h
    simp only [slack]
    refine ⟨?_, fun _ e => by cases e⟩
    split at h
    · rw [h]; exact Fine.same ho
    · rename_i hk
      obtain ⟨s1, s2, h1, h2, h3⟩ := h
      have e0 := phi_know (L := L) hr hk
      have f1 := (run_fine hL n (.ask r) _ _ (ho.know hr) hr h1).1
      have f2 := (run_fine hL n (.reach r) _ _ f1.ok hr h2).1
      have key : ∀ {j : Nat} {s3 : Sx}, Fine L j s2 s3 → j ≤ 1 → Fine L 0 s s3 := fun f hj => by
        have g := (f1.trans f2).trans f
        exact ⟨g.ok, (Le.know s r).trans g.le, by have := g.ph; simp only [slack] at this; omega⟩
      split at h3
      · obtain ⟨s3, h4, h5⟩ := h3
        have f4 := (run_fine hL n (.learn (nd L r).a) _ _ f2.ok pa h4).1
        have f5 := (run_fine hL n (.learn (nd L r).b) _ _ f4.ok pb h5).1
        exact key (f4.trans f5) (by simp [slack])
      · split at h3
        · exact key (run_fine hL n (.when_ (.learn (nd L r).c) [(nd L r).a]) _ _ f2.ok ⟨pc, by simpa using pa⟩ h3).1 (by simp [slack])
        · exact key (j := 0) (by rw [h3]; exact Fine.same f2.ok) (by omega)
end
theorem phi_s0 (L : List Nd) (K : Int → Bool) : phi L (s0 K) ≤ 5 * L.length := by
  have : ∀ l : List Nat, (l.map (phI (s0 K))).sum ≤ 5 * l.length := by
    intro l
    induction l with
    | nil => simp
    | cons i l ih =>
      have : phI (s0 K) i ≤ 5 := by unfold phI s0; simp only [phA]; split <;> omega
      simp only [List.map_cons, List.sum_cons, List.length_cons]; omega
  have := this (List.range L.length)
  rw [List.length_range] at this
  exact this
theorem phA_ws {s : Sx} {r : Int} {b : Bool} {ws : List Clo} (e : s.A r = some (b, ws)) : ws.length ≤ phA (s.A r) := by
  rw [e]
  cases b
  · simp only [phA, sum_false]; omega
  · simp only [phA, sum_true]; omega
theorem phi_ws {L : List Nd} {s : Sx} {r : Int} {b : Bool} {ws : List Clo} (hr : hasB L.length r = true) (e : s.A r = some (b, ws)) : ws.length ≤ phi L s := by
  have h1 := phA_ws e
  have := phi_put (L := L) (s := s) (true, []) hr
  have e2 : phA (some ((true, []) : Bool × List Clo)) = 0 := rfl
  omega
end Go.Proofs.YtljjpcbldfhffaaDoor
