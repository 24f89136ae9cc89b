import Derived.Test.YtlckajnbmkkpeaaDoorPa

/- Layer 3 in plain mathematics: what can be made of what is known, and what is known when more is learned. No program is named. -/
namespace Go.Proofs.YtlckajnbmkkpeaaDoor

/-- What can be made of what is known. -/
inductive Can (L : List Nd) (K : Int → Prop) : Int → Prop
  | known {r : Int} (h : hasB L.length r = true) (hk : K r) : Can L K r
  | free {r : Int} (h : hasB L.length r = true) (hk : (nd L r).k = 0 ∨ (nd L r).k = 9) : Can L K r
  | own {r : Int} (h : hasB L.length r = true) (hk : (nd L r).k = 1) (hn : 4294967296 ≤ (nd L r).n) : Can L K r
  | dh {r : Int} (h : hasB L.length r = true) (hk : (nd L r).k = 3) (ha : Can L K (nd L r).a) (hb : Can L K (nd L r).b) : Can L K r
  | dhA {r p : Int} (h : hasB L.length r = true) (hk : (nd L r).k = 3) (ha : Can L K (nd L r).a) (hp : hasB L.length p = true) (hpk : K p) (hpn : nd L p = ⟨2, 0, (nd L r).b, 0, 0⟩) : Can L K r
  | dhB {r p : Int} (h : hasB L.length r = true) (hk : (nd L r).k = 3) (hb : Can L K (nd L r).b) (hp : hasB L.length p = true) (hpk : K p) (hpn : nd L p = ⟨2, 0, (nd L r).a, 0, 0⟩) : Can L K r
  | parts {r : Int} (h : hasB L.length r = true) (h0 : (nd L r).k ≠ 0) (h1 : (nd L r).k ≠ 1) (h3 : (nd L r).k ≠ 3) (h9 : (nd L r).k ≠ 9) (ha : Can L K (nd L r).a) (hb : Can L K (nd L r).b) (hc : Can L K (nd L r).c) : Can L K r

theorem Can.mono {L : List Nd} {K K' : Int → Prop} (hK : ∀ x, K x → K' x) {r : Int} (h : Can L K r) : Can L K' r := by
  induction h with
  | known h hk => exact .known h (hK _ hk)
  | free h hk => exact .free h hk
  | own h hk hn => exact .own h hk hn
  | dh h hk _ _ ha hb => exact .dh h hk ha hb
  | dhA h hk _ hp hpk hpn ha => exact .dhA h hk ha hp (hK _ hpk) hpn
  | dhB h hk _ hp hpk hpn hb => exact .dhB h hk hb hp (hK _ hpk) hpn
  | parts h h0 h1 h3 h9 _ _ _ ha hb hc => exact .parts h h0 h1 h3 h9 ha hb hc
theorem Can.has {L : List Nd} {K : Int → Prop} {r : Int} (h : Can L K r) : hasB L.length r = true := by cases h <;> assumption

/-- Nothing more can be taken out of it. -/
def Shut (L : List Nd) (S : Int → Prop) : Prop := ∀ r, hasB L.length r = true → S r → ((nd L r).k = 8 → S (nd L r).a ∧ S (nd L r).b) ∧ ((nd L r).k = 7 → Can L S (nd L r).a → S (nd L r).c)
/-- What is known, with all that can be taken out of it. -/
def cl (L : List Nd) (K : Int → Prop) (r : Int) : Prop := ∀ S, Shut L S → (∀ x, K x → S x) → S r
theorem cl_in {L : List Nd} {K : Int → Prop} {r : Int} (h : K r) : cl L K r := fun _ _ hK => hK _ h
theorem cl_shut (L : List Nd) (K : Int → Prop) : Shut L (cl L K) := fun r hr h =>
  ⟨fun hk => ⟨fun S hS hK => ((hS r hr (h S hS hK)).1 hk).1, fun S hS hK => ((hS r hr (h S hS hK)).1 hk).2⟩,
   fun hk hc S hS hK => (hS r hr (h S hS hK)).2 hk (hc.mono fun _ hx => hx S hS hK)⟩
theorem cl_least {L : List Nd} {K S : Int → Prop} (hS : Shut L S) (hK : ∀ x, K x → S x) {r : Int} (h : cl L K r) : S r := h S hS hK
theorem cl_mono {L : List Nd} {K K' : Int → Prop} (hK : ∀ x, K x → K' x) {r : Int} (h : cl L K r) : cl L K' r := fun S hS h' => h S hS fun x hx => h' x (hK x hx)
/-- What is known behind a row of refs that are learned. -/
def lrn (L : List Nd) (refs : List Int) : Int → Prop := cl L fun x => x ∈ refs ∧ hasB L.length x = true
theorem lrn_nil (L : List Nd) (r : Int) : ¬ lrn L [] r := fun h => h (fun _ => False) (fun _ _ h => h.elim) (fun x hx => by simp at hx)
theorem lrn_snoc {L : List Nd} {refs : List Int} {x : Int} (hx : hasB L.length x = true) (r : Int) : lrn L (refs ++ [x]) r ↔ cl L (fun y => lrn L refs y ∨ y = x) r := by
  constructor
  · exact fun h => cl_least (cl_shut _ _) (fun y hy => cl_in (by
      rcases List.mem_append.1 hy.1 with e | e
      · exact .inl (cl_in ⟨e, hy.2⟩)
      · exact .inr (by simpa using e))) h
  · exact fun h => cl_least (cl_shut _ _) (fun y hy => by
      rcases hy with hy | rfl
      · exact cl_mono (fun z hz => ⟨List.mem_append_left _ hz.1, hz.2⟩) hy
      · exact cl_in ⟨by simp, hx⟩) h
theorem lrn_skip {L : List Nd} {refs : List Int} {x : Int} (hx : hasB L.length x = false) (r : Int) : lrn L (refs ++ [x]) r ↔ lrn L refs r := by
  constructor
  · exact fun h => cl_mono (fun y hy => by
      rcases List.mem_append.1 hy.1 with e | e
      · exact ⟨e, hy.2⟩
      · simp at e; subst e; simp [hx] at hy) h
  · exact fun h => cl_mono (fun y hy => ⟨List.mem_append_left _ hy.1, hy.2⟩) h
theorem has_shut (L : List Nd) (h : WF L) : Shut L (fun x => hasB L.length x = true) := fun r hr _ => by
  obtain ⟨h0, h1⟩ := hasB_iff.1 hr
  have hp := partsOk_held h.pos (right_iff.1 (h.good r.toNat (by omega))).2.1
  rw [show L.getD r.toNat zN = nd L r from rfl] at hp
  exact ⟨fun _ => ⟨hasB_iff.2 hp.1, hasB_iff.2 hp.2.1⟩, fun _ _ => hasB_iff.2 hp.2.2⟩
theorem lrn_has {L : List Nd} (h : WF L) {refs : List Int} {r : Int} (hr : lrn L refs r) : hasB L.length r = true := cl_least (has_shut L h) (fun _ hx => hx.2) hr

section
variable {L : List Nd} (h : WF L) {r : Int} (hr : hasB L.length r = true)
include h hr
theorem nd_good : 0 ≤ many (nd L r).k ∧ partsOk L.length (nd L r) = true ∧ numOk (nd L r) = true := by
  obtain ⟨h0, h1⟩ := hasB_iff.1 hr
  have := right_iff.1 (h.good r.toNat (by omega))
  exact ⟨this.1, this.2.1, this.2.2.1⟩
theorem nd_has : hasB L.length (nd L r).a = true ∧ hasB L.length (nd L r).b = true ∧ hasB L.length (nd L r).c = true := by
  have hp := partsOk_held h.pos (nd_good h hr).2.1
  exact ⟨hasB_iff.2 hp.1, hasB_iff.2 hp.2.1, hasB_iff.2 hp.2.2⟩
theorem nd_pub (hk : (nd L r).k = 2) : nd L r = ⟨2, 0, (nd L r).a, 0, 0⟩ := by
  obtain ⟨_, h2, h3⟩ := nd_good h hr
  unfold partsOk partOk at h2
  unfold numOk at h3
  rw [hk] at h2 h3
  simp [many] at h2 h3
  exact Nd.ext5 hk h3 rfl h2.2.1 h2.2.2
end
theorem has_zero {L : List Nd} (h : WF L) : hasB L.length 0 = true := hasB_iff.2 ⟨by omega, by have := h.pos; omega⟩
theorem nd_zero {L : List Nd} (h : WF L) : nd L 0 = zN := by
  have := h.toWFp.head
  unfold nd; simp [List.getD, this]
theorem can_zero {L : List Nd} (h : WF L) (K : Int → Prop) : Can L K 0 := .free (has_zero h) (.inl (by rw [nd_zero h]; rfl))

/-- The ref that is derivable if the Pub of a secret is public. -/
def pubR (L : List Nd) (x : Int) : Int := match ix ⟨2, 0, x, 0, 0⟩ L with
  | some i => (i : Int)
  | none => x
theorem pubR_cases (L : List Nd) (x : Int) : (pubR L x = x ∧ ∀ p, hasB L.length p = true → nd L p ≠ ⟨2, 0, x, 0, 0⟩) ∨ (hasB L.length (pubR L x) = true ∧ nd L (pubR L x) = ⟨2, 0, x, 0, 0⟩) := by
  unfold pubR
  cases hx : ix ⟨2, 0, x, 0, 0⟩ L with
  | none => exact .inl ⟨rfl, fun p hp => ix_none hx p.toNat (by have := hasB_iff.1 hp; omega)⟩
  | some i => exact .inr ⟨hasB_iff.2 ⟨by simp, by have := (ix_some hx).1; simpa using this⟩, by simpa [nd] using (ix_some hx).2.1⟩
theorem pubR_has {L : List Nd} {x : Int} (hx : hasB L.length x = true) : hasB L.length (pubR L x) = true := by
  rcases pubR_cases L x with h | h
  · rw [h.1]; exact hx
  · exact h.1
theorem pubR_at {L : List Nd} (h : WF L) {x p : Int} (hp : hasB L.length p = true) (hn : nd L p = ⟨2, 0, x, 0, 0⟩) : pubR L x = p := by
  rcases pubR_cases L x with e | e
  · exact absurd hn (e.2 p hp)
  · have h1 := hasB_iff.1 hp
    have h2 := hasB_iff.1 e.1
    have := h.nodup p.toNat (pubR L x).toNat (by omega) (by omega) (by show nd L p = nd L (pubR L x); rw [hn, e.2])
    omega
theorem can_pub {L : List Nd} (_h : WF L) {K : Int → Prop} {p x : Int} (hn : nd L p = ⟨2, 0, x, 0, 0⟩) (hc : Can L K p) : K p ∨ Can L K x := by
  cases hc with
  | known _ hk => exact .inl hk
  | free _ hk => rw [hn] at hk; simp at hk
  | own _ hk => rw [hn] at hk; simp at hk
  | dh _ hk => rw [hn] at hk; simp at hk
  | dhA _ hk => rw [hn] at hk; simp at hk
  | dhB _ hk => rw [hn] at hk; simp at hk
  | parts _ _ _ _ _ ha => rw [hn] at ha; exact .inr ha
theorem can_dhA {L : List Nd} (h : WF L) {K : Int → Prop} {r : Int} (hr : hasB L.length r = true) (hk : (nd L r).k = 3) (ha : Can L K (nd L r).a) (hb : Can L K (pubR L (nd L r).b)) : Can L K r := by
  rcases pubR_cases L (nd L r).b with e | e
  · rw [e.1] at hb; exact .dh hr hk ha hb
  · rcases can_pub h e.2 hb with e' | e'
    · exact .dhA hr hk ha e.1 e' e.2
    · exact .dh hr hk ha e'
theorem can_dhB {L : List Nd} (h : WF L) {K : Int → Prop} {r : Int} (hr : hasB L.length r = true) (hk : (nd L r).k = 3) (ha : Can L K (nd L r).b) (hb : Can L K (pubR L (nd L r).a)) : Can L K r := by
  rcases pubR_cases L (nd L r).a with e | e
  · rw [e.1] at hb; exact .dh hr hk hb ha
  · rcases can_pub h e.2 hb with e' | e'
    · exact .dhB hr hk ha e.1 e' e.2
    · exact .dh hr hk e' ha
end Go.Proofs.YtlckajnbmkkpeaaDoor

/- Layer 3 in plain mathematics: the search as a machine; it ends, and finds what can be made. No program is named. -/
namespace Go.Proofs.YtlckajnbmkkpeaaDoor

inductive Thn
  | reach (r : Int)
  | learn (r : Int)
abbrev Clo := Thn × List Int
/-- What is known, and what was asked: whether it can be made, and what waits for it. -/
structure Sx where
  K : Int → Bool
  A : Int → Option (Bool × List Clo)
def Sx.put (s : Sx) (r : Int) (x : Bool × List Clo) : Sx := ⟨s.K, fun y => if y = r then some x else s.A y⟩
def Sx.know (s : Sx) (r : Int) : Sx := ⟨fun y => if y = r then true else s.K y, s.A⟩
def Sx.der (s : Sx) (r : Int) : Bool := match s.A r with
  | some (b, _) => b
  | none => false
def Sx.ws (s : Sx) (r : Int) : List Clo := match s.A r with
  | some (_, l) => l
  | none => []
def Sx.wait (s : Sx) (r : Int) (c : Clo) : Sx := s.put r (s.der r, s.ws r ++ [c])
inductive Op
  | ask (r : Int)
  | compose (r : Int)
  | when_ (t : Thn) (rs : List Int)
  | thn (t : Thn)
  | reach (r : Int)
  | learn (r : Int)

def whenR (ask : Int → Sx → Sx → Prop) (fin : Sx → Sx → Prop) (t : Thn) : List Int → Sx → Sx → Prop
  | [], s, s' => fin s s'
  | r :: rs, s, s' => ∃ s1, ask r s s1 ∧ (if s1.der r = true then whenR ask fin t rs s1 s' else s' = s1.wait r (t, rs))
def allR (f : Clo → Sx → Sx → Prop) : List Clo → Sx → Sx → Prop
  | [], s, s' => s' = s
  | c :: l, s, s' => ∃ s1, f c s s1 ∧ allR f l s1 s'
/-- How the machine goes, by depth. -/
def Run (L : List Nd) : Nat → Op → Sx → Sx → Prop
  | 0, _, _, _ => False
  | n + 1, .ask r, s, s' => match s.A r with
    | some _ => s' = s
    | none => if s.K r = true then s' = s.put r (true, []) else if hasB L.length r = true then Run L n (.compose r) (s.put r (false, [])) s' else s' = s.put r (false, [])
  | n + 1, .compose r, s, s' =>
    if (nd L r).k = 0 ∨ (nd L r).k = 9 then Run L n (.reach r) s s'
    else if (nd L r).k = 1 then (if 4294967296 ≤ (nd L r).n then Run L n (.reach r) s s' else s' = s)
    else if (nd L r).k = 3 then ∃ s1, Run L n (.when_ (.reach r) [(nd L r).a, pubR L (nd L r).b]) s s1 ∧ Run L n (.when_ (.reach r) [(nd L r).b, pubR L (nd L r).a]) s1 s'
    else Run L n (.when_ (.reach r) [(nd L r).a, (nd L r).b, (nd L r).c]) s s'
  | n + 1, .when_ t rs, s, s' => whenR (fun r => Run L n (.ask r)) (Run L n (.thn t)) t rs s s'
  | n + 1, .thn (.reach r), s, s' => Run L n (.reach r) s s'
  | n + 1, .thn (.learn r), s, s' => Run L n (.learn r) s s'
  | n + 1, .reach r, s, s' => match s.A r with
    | none => False
    | some (true, _) => s' = s
    | some (false, ws) => allR (fun c => Run L n (.when_ c.1 c.2)) ws (s.put r (true, ws)) s'
  | n + 1, .learn r, s, s' => if s.K r = true then s' = s else ∃ s1 s2, Run L n (.ask r) (s.know r) s1 ∧ Run L n (.reach r) s1 s2 ∧
    (if (nd L r).k = 8 then ∃ s3, Run L n (.learn (nd L r).a) s2 s3 ∧ Run L n (.learn (nd L r).b) s3 s'
     else if (nd L r).k = 7 then Run L n (.when_ (.learn (nd L r).c) [(nd L r).a]) s2 s' else s' = s2)

theorem whenR_mono {a a' : Int → Sx → Sx → Prop} {f f' : Sx → Sx → Prop} {t : Thn} (ha : ∀ r s s', a r s s' → a' r s s') (hf : ∀ s s', f s s' → f' s s') : ∀ (rs : List Int) (s s' : Sx), whenR a f t rs s s' → whenR a' f' t rs s s'
  | [], s, s', h => hf _ _ h
  | r :: rs, s, s', ⟨s1, h1, h2⟩ => ⟨s1, ha _ _ _ h1, by
    split at h2
    · rename_i e; rw [if_pos e]; exact whenR_mono ha hf rs _ _ h2
    · rename_i e; rw [if_neg e]; exact h2⟩
theorem allR_mono {f f' : Clo → Sx → Sx → Prop} (hf : ∀ c s s', f c s s' → f' c s s') : ∀ (l : List Clo) (s s' : Sx), allR f l s s' → allR f' l s s'
  | [], _, _, h => h
  | _ :: l, _, _, ⟨s1, h1, h2⟩ => ⟨s1, hf _ _ _ h1, allR_mono hf l _ _ h2⟩
theorem Run.succ {L : List Nd} : ∀ {n : Nat} {o : Op} {s s' : Sx}, Run L n o s s' → Run L (n + 1) o s s'
  | 0, _, _, _, h => h.elim
  | n + 1, .ask r, s, s', h => by
    unfold Run at h ⊢
    split
    · rename_i e; rw [e] at h; exact h
    · rename_i e
      rw [e] at h
      simp only at h
      split at h
      · rename_i e; rw [if_pos e]; exact h
      · rename_i e
        rw [if_neg e]
        split at h
        · rename_i e; rw [if_pos e]; exact Run.succ h
        · rename_i e; rw [if_neg e]; exact h
  | n + 1, .compose r, s, s', h => by
    unfold Run at h ⊢
    split at h
    · rename_i e; rw [if_pos e]; exact Run.succ h
    · rename_i e
      rw [if_neg e]
      split at h
      · rename_i e
        rw [if_pos e]
        split at h
        · rename_i e; rw [if_pos e]; exact Run.succ h
        · rename_i e; rw [if_neg e]; exact h
      · rename_i e
        rw [if_neg e]
        split at h
        · rename_i e
          rw [if_pos e]
          obtain ⟨s1, h1, h2⟩ := h
          exact ⟨s1, Run.succ h1, Run.succ h2⟩
        · rename_i e; rw [if_neg e]; exact Run.succ h
  | n + 1, .when_ t rs, s, s', h => by
    unfold Run at h ⊢
    exact whenR_mono (fun r s s' h => Run.succ h) (fun s s' h => Run.succ h) _ _ _ h
  | n + 1, .thn (.reach r), s, s', h => by unfold Run at h ⊢; exact Run.succ h
  | n + 1, .thn (.learn r), s, s', h => by unfold Run at h ⊢; exact Run.succ h
  | n + 1, .reach r, s, s', h => by
    unfold Run at h ⊢
    split
    · rename_i e; rw [e] at h; exact h
    · rename_i e; rw [e] at h; exact h
    · rename_i e; rw [e] at h; exact allR_mono (fun c s s' h => Run.succ h) _ _ _ h
  | n + 1, .learn r, s, s', h => by
    unfold Run at h ⊢
    split at h
    · rename_i e; rw [if_pos e]; exact h
    · rename_i e
      rw [if_neg e]
      obtain ⟨s1, s2, h1, h2, h3⟩ := h
      refine ⟨s1, s2, Run.succ h1, Run.succ h2, ?_⟩
      split at h3
      · rename_i e
        rw [if_pos e]
        obtain ⟨s3, h4, h5⟩ := h3
        exact ⟨s3, Run.succ h4, Run.succ h5⟩
      · rename_i e
        rw [if_neg e]
        split at h3
        · rename_i e; rw [if_pos e]; exact Run.succ h3
        · rename_i e; rw [if_neg e]; exact h3
theorem Run.mono {L : List Nd} {n m : Nat} (hm : n ≤ m) {o : Op} {s s' : Sx} (h : Run L n o s s') : Run L m o s s' := by
  induction m with
  | zero => obtain rfl : n = 0 := by omega
            exact h
  | succ m ih =>
    rcases Nat.lt_or_ge n (m + 1) with e | e
    · exact (ih (by omega)).succ
    · obtain rfl : n = m + 1 := by omega
      exact h
/-- The machine goes, at some depth. -/
def Goes (L : List Nd) (o : Op) (s s' : Sx) : Prop := ∃ n, Run L n o s s'
theorem goes_when {L : List Nd} {t : Thn} : ∀ {rs : List Int} {s s' : Sx}, whenR (fun r => Goes L (.ask r)) (Goes L (.thn t)) t rs s s' → Goes L (.when_ t rs) s s'
  | [], s, s', ⟨n, h⟩ => ⟨n + 1, h⟩
  | r :: rs, s, s', ⟨s1, ⟨n, h1⟩, h2⟩ => by
    by_cases e : s1.der r = true
    · rw [if_pos e] at h2
      obtain ⟨m, h3⟩ := goes_when h2
      cases m with
      | zero => exact h3.elim
      | succ m =>
        refine ⟨(n + m) + 1, s1, Run.mono (by omega) h1, ?_⟩
        rw [if_pos e]
        exact whenR_mono (fun r s s' h => Run.mono (by omega) h) (fun s s' h => Run.mono (by omega) h) _ _ _ h3
    · rw [if_neg e] at h2
      exact ⟨n + 1, s1, h1, by rw [if_neg e]; exact h2⟩
theorem all_goes {L : List Nd} : ∀ {l : List Clo} {s s' : Sx}, allR (fun c => Goes L (.when_ c.1 c.2)) l s s' → ∃ n, allR (fun c => Run L n (.when_ c.1 c.2)) l s s'
  | [], _, _, h => ⟨0, h⟩
  | c :: l, s, s', ⟨s1, ⟨n, h1⟩, h2⟩ => by
    obtain ⟨m, h3⟩ := all_goes h2
    exact ⟨n + m, s1, Run.mono (by omega) h1, allR_mono (fun c s s' h => Run.mono (by omega) h) _ _ _ h3⟩
end Go.Proofs.YtlckajnbmkkpeaaDoor

/- Layer 3 in plain mathematics: what holds of the search at each step. No program is named. -/
namespace Go.Proofs.YtlckajnbmkkpeaaDoor

def done (s : Sx) : Thn → Prop
  | .reach r => s.der r = true
  | .learn r => s.K r = true
def addP (c : Clo) (P : Clo → Prop) : Clo → Prop := fun x => x = c ∨ P x
/-- What a term needs is not lost: it is done, or waits, or is still to come. -/
def Held (s : Sx) (P : Clo → Prop) (c : Clo) : Prop :=
  done s c.1 ∨ (∃ pre x post ws, c.2 = pre ++ x :: post ∧ (∀ y ∈ pre, s.der y = true) ∧ s.A x = some (false, ws) ∧ (c.1, post) ∈ ws) ∨ (∃ pre post, c.2 = pre ++ post ∧ (∀ y ∈ pre, s.der y = true) ∧ P (c.1, post))
def obl (L : List Nd) (r : Int) : List Clo :=
  if (nd L r).k = 0 ∨ (nd L r).k = 9 then [(.reach r, [])]
  else if (nd L r).k = 1 then (if 4294967296 ≤ (nd L r).n then [(.reach r, [])] else [])
  else if (nd L r).k = 3 then [(.reach r, [(nd L r).a, pubR L (nd L r).b]), (.reach r, [(nd L r).b, pubR L (nd L r).a])]
  else [(.reach r, [(nd L r).a, (nd L r).b, (nd L r).c])]
structure Inv (L : List Nd) (s : Sx) (P : Clo → Prop) : Prop where
  ob : ∀ r, (s.A r).isSome = true → hasB L.length r = true → ∀ c ∈ obl L r, Held s P c
  kn : ∀ r, s.K r = true → (s.A r).isSome = true → s.der r = true ∨ P (.reach r, [])
  se : ∀ r, s.K r = true → (nd L r).k = 7 → Held s P (.learn (nd L r).c, [(nd L r).a])
  pa : ∀ r, s.K r = true → (nd L r).k = 8 → Held s P (.learn (nd L r).a, []) ∧ Held s P (.learn (nd L r).b, [])
/-- What waits is just. -/
def Just (L : List Nd) (T : Int → Prop) (s : Sx) (c : Clo) : Prop := (∀ x ∈ c.2, hasB L.length x = true) ∧ match c.1 with
  | .reach r => hasB L.length r = true ∧ (s.A r).isSome = true ∧ ∀ K' : Int → Prop, (∀ x, s.K x = true → K' x) → (∀ x ∈ c.2, Can L K' x) → Can L K' r
  | .learn r => hasB L.length r = true ∧ ((∀ x ∈ c.2, Can L T x) → T r)
structure Snd (L : List Nd) (T : Int → Prop) (s : Sx) : Prop where
  de : ∀ r, s.der r = true → Can L (fun x => s.K x = true) r
  kt : ∀ r, s.K r = true → T r
  kh : ∀ r, s.K r = true → hasB L.length r = true
  wt : ∀ r b ws, s.A r = some (b, ws) → ∀ c ∈ ws, Just L T s (c.1, r :: c.2)
structure Le (s s' : Sx) : Prop where
  k : ∀ r, s.K r = true → s'.K r = true
  a : ∀ r, (s.A r).isSome = true → (s'.A r).isSome = true
  t : ∀ r ws, s.A r = some (true, ws) → s'.A r = some (true, ws)
theorem Le.refl (s : Sx) : Le s s := ⟨fun _ h => h, fun _ h => h, fun _ _ h => h⟩
theorem Le.trans {s s1 s2 : Sx} (h : Le s s1) (h' : Le s1 s2) : Le s s2 := ⟨fun r x => h'.k r (h.k r x), fun r x => h'.a r (h.a r x), fun r ws x => h'.t r ws (h.t r ws x)⟩
theorem der_iff {s : Sx} {r : Int} : s.der r = true ↔ ∃ ws, s.A r = some (true, ws) := by
  unfold Sx.der
  cases h : s.A r with
  | none => simp
  | some x => obtain ⟨b, l⟩ := x; simp
theorem der_false {s : Sx} {r : Int} (h : (s.A r).isSome = true) (hd : ¬ s.der r = true) : ∃ ws, s.A r = some (false, ws) := by
  unfold Sx.der at hd
  cases e : s.A r with
  | none => rw [e] at h; simp at h
  | some x => obtain ⟨b, l⟩ := x; rw [e] at hd; simp at hd; subst hd; exact ⟨l, rfl⟩
theorem Le.d {s s' : Sx} (h : Le s s') {r : Int} (hd : s.der r = true) : s'.der r = true := by
  obtain ⟨ws, hw⟩ := der_iff.1 hd
  exact der_iff.2 ⟨ws, h.t r ws hw⟩
theorem Just.le {L : List Nd} {T : Int → Prop} {s s' : Sx} {c : Clo} (h : Just L T s c) (hl : Le s s') : Just L T s' c := by
  obtain ⟨t, rs⟩ := c
  cases t with
  | reach r => exact ⟨h.1, h.2.1, hl.a _ h.2.2.1, fun K' hK hc => h.2.2.2 K' (fun x hx => hK x (hl.k x hx)) hc⟩
  | learn r => exact h
theorem Just.tail {L : List Nd} {T : Int → Prop} {s : Sx} {t : Thn} {x : Int} {rs : List Int} (h : Just L T s (t, x :: rs)) (hs : Snd L T s) (hd : s.der x = true) : Just L T s (t, rs) := by
  have hc := hs.de x hd
  cases t with
  | reach r => exact ⟨fun y hy => h.1 y (by simp [hy]), h.2.1, h.2.2.1, fun K' hK hy => h.2.2.2 K' hK fun y hm => by
      rcases List.mem_cons.1 hm with rfl | e
      · exact hc.mono hK
      · exact hy y e⟩
  | learn r => exact ⟨fun y hy => h.1 y (by simp [hy]), h.2.1, fun hy => h.2.2 fun y hm => by
      rcases List.mem_cons.1 hm with rfl | e
      · exact hc.mono hs.kt
      · exact hy y e⟩

theorem Held.mono {s : Sx} {P Q : Clo → Prop} (hP : ∀ c, P c → Q c) {c : Clo} (h : Held s P c) : Held s Q c := by
  rcases h with h | h | ⟨pre, post, h1, h2, h3⟩
  · exact .inl h
  · exact .inr (.inl h)
  · exact .inr (.inr ⟨pre, post, h1, h2, hP _ h3⟩)
theorem Inv.mono {L : List Nd} {s : Sx} {P Q : Clo → Prop} (hP : ∀ c, P c → Q c) (h : Inv L s P) : Inv L s Q :=
  ⟨fun r h1 h2 c hc => (h.ob r h1 h2 c hc).mono hP, fun r h1 h2 => (h.kn r h1 h2).imp id (hP _), fun r h1 h2 => (h.se r h1 h2).mono hP, fun r h1 h2 => ⟨(h.pa r h1 h2).1.mono hP, (h.pa r h1 h2).2.mono hP⟩⟩
/-- A change of state that loses nothing keeps all. -/
theorem Inv.step {L : List Nd} {s s' : Sx} {P Q : Clo → Prop} (h : Inv L s P) (hK : s'.K = s.K) (hA : ∀ r, (s'.A r).isSome = true → (s.A r).isSome = true ∨ ((hasB L.length r = true → ∀ c ∈ obl L r, Held s' Q c) ∧ (s.K r = true → s'.der r = true ∨ Q (.reach r, []))))
    (hd : ∀ r, s.der r = true → s'.der r = true) (hQ : ∀ r, P (.reach r, []) → s'.der r = true ∨ Q (.reach r, [])) (hH : ∀ c, Held s P c → Held s' Q c) : Inv L s' Q := by
  refine ⟨fun r h1 h2 c hc => ?_, fun r h1 h2 => ?_, fun r h1 h2 => hH _ (h.se r (by rw [← hK]; exact h1) h2), fun r h1 h2 => ?_⟩
  · rcases hA r h1 with e | e
    · exact hH _ (h.ob r e h2 c hc)
    · exact e.1 h2 c hc
  · rw [hK] at h1
    rcases hA r h2 with e | e
    · rcases h.kn r h1 e with e' | e'
      · exact .inl (hd _ e')
      · exact hQ r e'
    · exact e.2 h1
  · rw [hK] at h1
    exact ⟨hH _ (h.pa r h1 h2).1, hH _ (h.pa r h1 h2).2⟩

theorem put_A {s : Sx} {r : Int} {x : Bool × List Clo} : (s.put r x).A r = some x := by simp [Sx.put]
theorem put_other {s : Sx} {r y : Int} {x : Bool × List Clo} (h : y ≠ r) : (s.put r x).A y = s.A y := by simp [Sx.put, h]
theorem put_der_other {s : Sx} {r y : Int} {x : Bool × List Clo} (h : y ≠ r) : (s.put r x).der y = s.der y := by unfold Sx.der; rw [put_other h]
theorem put_der {s : Sx} {r : Int} {x : Bool × List Clo} : (s.put r x).der r = x.1 := by unfold Sx.der; rw [put_A]

/-- A ref that waited for is made: the next one. -/
theorem Inv.skip {L : List Nd} {s : Sx} {P : Clo → Prop} {t : Thn} {x : Int} {rs : List Int} (h : Inv L s (addP (t, x :: rs) P)) (hd : s.der x = true) : Inv L s (addP (t, rs) P) := by
  refine h.step rfl (fun r hr => .inl hr) (fun _ e => e) (fun r e => ?_) (fun c hc => ?_)
  · rcases e with e | e
    · simp at e
    · exact .inr (.inr e)
  · rcases hc with e | e | ⟨pre, post, h1, h2, h3⟩
    · exact .inl e
    · exact .inr (.inl e)
    · rcases h3 with e | e
      · injection e with e1 e2
        refine .inr (.inr ⟨pre ++ [x], rs, by rw [h1, e2]; simp, fun y hy => ?_, .inl (by rw [e1])⟩)
        rcases List.mem_append.1 hy with e | e
        · exact h2 y e
        · simp at e; subst e; exact hd
      · exact .inr (.inr ⟨pre, post, h1, h2, .inr e⟩)
/-- A closure waits. -/
theorem Inv.wait {L : List Nd} {s : Sx} {P : Clo → Prop} {t : Thn} {x : Int} {rs : List Int} {ws : List Clo} (h : Inv L s (addP (t, x :: rs) P)) (hx : s.A x = some (false, ws)) : Inv L (s.put x (false, ws ++ [(t, rs)])) P := by
  have hd : ∀ r, s.der r = true → (s.put x (false, ws ++ [(t, rs)])).der r = true := fun r hr => by
    have : r ≠ x := fun e => by subst e; obtain ⟨w', hw⟩ := der_iff.1 hr; rw [hx] at hw; simp at hw
    rw [put_der_other this]; exact hr
  refine h.step rfl (fun r hr => .inl ?_) hd (fun r e => ?_) (fun c hc => ?_)
  · by_cases e : r = x
    · subst e; rw [hx]; rfl
    · rw [put_other e] at hr; exact hr
  · rcases e with e | e
    · simp at e
    · exact .inr e
  · rcases hc with e | ⟨pre, y, post, w', h1, h2, h3, h4⟩ | ⟨pre, post, h1, h2, h3⟩
    · refine .inl ?_
      cases hc : c.1 with
      | reach r => rw [hc] at e; exact hd r e
      | learn r => rw [hc] at e; exact e
    · by_cases e : y = x
      · subst e
        rw [hx] at h3
        injection h3 with h3
        injection h3 with _ h3
        exact .inr (.inl ⟨pre, y, post, _, h1, fun z hz => hd z (h2 z hz), put_A, by rw [h3]; simp [h4]⟩)
      · exact .inr (.inl ⟨pre, y, post, w', h1, fun z hz => hd z (h2 z hz), by rw [put_other e]; exact h3, h4⟩)
    · rcases h3 with e | e
      · injection e with e1 e2
        exact .inr (.inl ⟨pre, x, rs, _, by rw [h1, e2], fun z hz => hd z (h2 z hz), put_A, by rw [e1]; simp⟩)
      · exact .inr (.inr ⟨pre, post, h1, fun z hz => hd z (h2 z hz), e⟩)
/-- A term is reached: what waited for it comes. -/
theorem Inv.reach {L : List Nd} {s : Sx} {P : Clo → Prop} {r : Int} {ws : List Clo} (h : Inv L s (addP (.reach r, []) P)) (hx : s.A r = some (false, ws)) : Inv L (s.put r (true, ws)) (fun c => c ∈ ws ∨ P c) := by
  have hd : ∀ y, s.der y = true → (s.put r (true, ws)).der y = true := fun y hy => by
    by_cases e : y = r
    · subst e; exact put_der
    · rw [put_der_other e]; exact hy
  refine h.step rfl (fun y hy => .inl ?_) hd (fun y e => ?_) (fun c hc => ?_)
  · by_cases e : y = r
    · subst e; rw [hx]; rfl
    · rw [put_other e] at hy; exact hy
  · rcases e with e | e
    · injection e with e1 _
      injection e1 with e1
      subst e1; exact .inl put_der
    · exact .inr (.inr e)
  · rcases hc with e | ⟨pre, y, post, w', h1, h2, h3, h4⟩ | ⟨pre, post, h1, h2, h3⟩
    · refine .inl ?_
      cases hc : c.1 with
      | reach r => rw [hc] at e; exact hd r e
      | learn r => rw [hc] at e; exact e
    · by_cases e : y = r
      · subst e
        rw [hx] at h3
        injection h3 with h3
        injection h3 with _ h3
        refine .inr (.inr ⟨pre ++ [y], post, by rw [h1]; simp, fun z hz => ?_, .inl (by rw [h3]; exact h4)⟩)
        rcases List.mem_append.1 hz with e | e
        · exact hd z (h2 z e)
        · simp at e; subst e; exact put_der
      · exact .inr (.inl ⟨pre, y, post, w', h1, fun z hz => hd z (h2 z hz), by rw [put_other e]; exact h3, h4⟩)
    · rcases h3 with e | e
      · injection e with e1 e2
        refine .inl ?_
        rw [e1]; exact put_der
      · exact .inr (.inr ⟨pre, post, h1, fun z hz => hd z (h2 z hz), .inr e⟩)
/-- What was to come is done already. -/
theorem Inv.past {L : List Nd} {s : Sx} {P : Clo → Prop} {t : Thn} (h : Inv L s (addP (t, []) P)) (hd : done s t) : Inv L s P := by
  refine h.step rfl (fun r hr => .inl hr) (fun _ e => e) (fun r e => ?_) (fun c hc => ?_)
  · rcases e with e | e
    · injection e with e1 _; subst e1; exact .inl hd
    · exact .inr e
  · rcases hc with e | e | ⟨pre, post, h1, h2, h3⟩
    · exact .inl e
    · exact .inr (.inl e)
    · rcases h3 with e | e
      · injection e with e1 e2
        exact .inl (by rw [e1]; exact hd)
      · exact .inr (.inr ⟨pre, post, h1, h2, e⟩)
/-- A term is asked for. -/
theorem Held.put {s : Sx} {P : Clo → Prop} {r : Int} {b : Bool} (hr : s.A r = none) {c : Clo} (h : Held s P c) : Held (s.put r (b, [])) P c := by
  have hd : ∀ y, s.der y = true → (s.put r (b, [])).der y = true := fun y hy => by
    have : y ≠ r := fun e => by subst e; obtain ⟨w', hw⟩ := der_iff.1 hy; rw [hr] at hw; simp at hw
    rw [put_der_other this]; exact hy
  rcases h with e | ⟨pre, y, post, w', h1, h2, h3, h4⟩ | ⟨pre, post, h1, h2, h3⟩
  · refine .inl ?_
    cases hc : c.1 with
    | reach r => rw [hc] at e; exact hd r e
    | learn r => rw [hc] at e; exact e
  · have : y ≠ r := fun e => by subst e; rw [hr] at h3; simp at h3
    exact .inr (.inl ⟨pre, y, post, w', h1, fun z hz => hd z (h2 z hz), by rw [put_other this]; exact h3, h4⟩)
  · exact .inr (.inr ⟨pre, post, h1, fun z hz => hd z (h2 z hz), h3⟩)
theorem Inv.put {L : List Nd} {s : Sx} {P Q : Clo → Prop} {r : Int} {b : Bool} (hr : s.A r = none) (h : Inv L s P) (hP : ∀ c, P c → Q c) (ho : hasB L.length r = true → ∀ c ∈ obl L r, Held (s.put r (b, [])) Q c) (hk : s.K r = true → b = true) : Inv L (s.put r (b, [])) Q := by
  refine (h.mono hP).step rfl (fun y hy => ?_) (fun y hy => ?_) (fun y e => .inr e) (fun c hc => hc.put hr)
  · by_cases e : y = r
    · subst e; exact .inr ⟨ho, fun e => .inl (by rw [put_der]; exact hk e)⟩
    · rw [put_other e] at hy; exact .inl hy
  · have : y ≠ r := fun e => by subst e; obtain ⟨w', hw⟩ := der_iff.1 hy; rw [hr] at hw; simp at hw
    rw [put_der_other this]; exact hy
theorem Le.put_new {s : Sx} {r : Int} {b : Bool} (hr : s.A r = none) : Le s (s.put r (b, [])) := ⟨fun _ h => h, fun y hy => by
    by_cases e : y = r
    · subst e; rw [put_A]; rfl
    · rw [put_other e]; exact hy, fun y ws hy => by
    have : y ≠ r := fun e => by subst e; rw [hr] at hy; simp at hy
    rw [put_other this]; exact hy⟩
theorem Le.put_old {s : Sx} {r : Int} {ws : List Clo} {x : Bool × List Clo} (hr : s.A r = some (false, ws)) : Le s (s.put r x) := ⟨fun _ h => h, fun y hy => by
    by_cases e : y = r
    · subst e; rw [put_A]; rfl
    · rw [put_other e]; exact hy, fun y w' hy => by
    have : y ≠ r := fun e => by subst e; rw [hr] at hy; simp at hy
    rw [put_other this]; exact hy⟩
theorem Le.know (s : Sx) (r : Int) : Le s (s.know r) := ⟨fun y hy => by simp only [Sx.know]; split <;> simp_all, fun _ h => h, fun _ _ h => h⟩
/-- A term is learned. -/
theorem Held.know {s : Sx} {P : Clo → Prop} {r : Int} {c : Clo} (h : Held s (addP (.learn r, []) P) c) : Held (s.know r) P c := by
  rcases h with e | ⟨pre, y, post, w', h1, h2, h3, h4⟩ | ⟨pre, post, h1, h2, h3⟩
  · refine .inl ?_
    cases hc : c.1 with
    | reach r => rw [hc] at e; exact e
    | learn y => rw [hc] at e; exact (Le.know s r).k y e
  · exact .inr (.inl ⟨pre, y, post, w', h1, h2, h3, h4⟩)
  · rcases h3 with e | e
    · injection e with e1 _
      refine .inl ?_
      rw [e1]; simp [done, Sx.know]
    · exact .inr (.inr ⟨pre, post, h1, h2, e⟩)
theorem Inv.know {L : List Nd} {s : Sx} {P : Clo → Prop} {r : Int} (h : Inv L s (addP (.learn r, []) P)) :
    Inv L (s.know r) (fun c => c = (.reach r, []) ∨ ((nd L r).k = 7 ∧ c = (.learn (nd L r).c, [(nd L r).a]) ∨ (nd L r).k = 8 ∧ (c = (.learn (nd L r).a, []) ∨ c = (.learn (nd L r).b, []))) ∨ P c) := by
  have hH : ∀ c, Held s (addP (.learn r, []) P) c → Held (s.know r) (fun c => c = (.reach r, []) ∨ ((nd L r).k = 7 ∧ c = (.learn (nd L r).c, [(nd L r).a]) ∨ (nd L r).k = 8 ∧ (c = (.learn (nd L r).a, []) ∨ c = (.learn (nd L r).b, []))) ∨ P c) c := fun c hc => (hc.know).mono fun c e => .inr (.inr e)
  have hk : ∀ y, (s.know r).K y = true → y = r ∨ s.K y = true := fun y hy => by
    simp only [Sx.know] at hy
    split at hy
    · rename_i e; exact .inl e
    · exact .inr hy
  refine ⟨fun y h1 h2 c hc => hH _ (h.ob y h1 h2 c hc), fun y h1 h2 => ?_, fun y h1 h2 => ?_, fun y h1 h2 => ?_⟩
  · rcases hk y h1 with rfl | e
    · exact .inr (.inl rfl)
    · rcases h.kn y e h2 with e' | e'
      · exact .inl e'
      · rcases e' with e' | e'
        · simp at e'
        · exact .inr (.inr (.inr e'))
  · rcases hk y h1 with rfl | e
    · exact .inr (.inr ⟨[], _, rfl, by simp, .inr (.inl (.inl ⟨h2, rfl⟩))⟩)
    · exact hH _ (h.se y e h2)
  · rcases hk y h1 with rfl | e
    · exact ⟨.inr (.inr ⟨[], _, rfl, by simp, .inr (.inl (.inr ⟨h2, .inl rfl⟩))⟩), .inr (.inr ⟨[], _, rfl, by simp, .inr (.inl (.inr ⟨h2, .inr rfl⟩))⟩)⟩
    · exact ⟨hH _ (h.pa y e h2).1, hH _ (h.pa y e h2).2⟩
end Go.Proofs.YtlckajnbmkkpeaaDoor

/- Layer 3 in plain mathematics: the search ends, and what it finds is what can be made. No program is named. -/
namespace Go.Proofs.YtlckajnbmkkpeaaDoor

theorem total_le {f g : Nat → Nat} : ∀ {l : List Nat}, (∀ x ∈ l, f x ≤ g x) → (l.map f).sum ≤ (l.map g).sum
  | [], _ => by simp
  | x :: l, h => by
    have h1 := h x (by simp)
    have h2 := total_le (l := l) fun y hy => h y (by simp [hy])
    simp; omega
theorem total_lt {f g : Nat → Nat} : ∀ {l : List Nat} {z : Nat}, (∀ x ∈ l, f x ≤ g x) → z ∈ l → f z < g z → (l.map f).sum < (l.map g).sum
  | [], _, _, hz, _ => by simp at hz
  | x :: l, z, h, hz, hlt => by
    have h1 := h x (by simp)
    rcases List.mem_cons.1 hz with rfl | e
    · have h2 := total_le (l := l) fun y hy => h y (by simp [hy])
      simp; omega
    · have h2 := total_lt (l := l) (fun y hy => h y (by simp [hy])) e hlt
      simp; omega
def wgt (s : Sx) (i : Nat) : Nat := (if (s.A i).isSome = true then 0 else 1) + (if s.der i = true then 0 else 1) + (if s.K i = true then 0 else 1)
/-- How much there is still to do. -/
def mu (L : List Nd) (s : Sx) : Nat := ((List.range L.length).map (wgt s)).sum
theorem wgt_le {s s' : Sx} (h : Le s s') (i : Nat) : wgt s' i ≤ wgt s i := by
  unfold wgt
  have h1 := h.a i
  have h2 : s.der i = true → s'.der i = true := h.d
  have h3 := h.k i
  split <;> split <;> split <;> split <;> split <;> split <;> simp_all
theorem mu_le {L : List Nd} {s s' : Sx} (h : Le s s') : mu L s' ≤ mu L s := total_le fun i _ => wgt_le h i
theorem mu_lt {L : List Nd} {s s' : Sx} (h : Le s s') {r : Int} (hr : hasB L.length r = true) (hlt : ((s.A r).isSome = false ∧ (s'.A r).isSome = true) ∨ (s.der r = false ∧ s'.der r = true) ∨ (s.K r = false ∧ s'.K r = true)) : mu L s' < mu L s := by
  obtain ⟨h0, h1⟩ := hasB_iff.1 hr
  obtain ⟨i, rfl⟩ : ∃ i : Nat, r = i := ⟨r.toNat, by omega⟩
  refine total_lt (z := i) (fun i _ => wgt_le h i) (List.mem_range.2 (by omega)) ?_
  have h1 := h.a i
  have h2 : s.der i = true → s'.der i = true := h.d
  have h3 := h.k i
  unfold wgt
  cases ha : (s.A i).isSome <;> cases ha' : (s'.A i).isSome <;> cases hb : s.der i <;> cases hb' : s'.der i <;> cases hc : s.K i <;> cases hc' : s'.K i <;> rw [ha, ha', hb, hb', hc, hc'] at hlt <;> rw [ha, ha'] at h1 <;> rw [hb, hb'] at h2 <;> rw [hc, hc'] at h3 <;> first | (exact absurd (h1 rfl) (by decide)) | (exact absurd (h2 rfl) (by decide)) | (exact absurd (h3 rfl) (by decide)) | (exact absurd hlt (by decide)) | decide

theorem Snd.put_new {L : List Nd} {T : Int → Prop} {s : Sx} (h : Snd L T s) {r : Int} {b : Bool} (hr : s.A r = none) (hb : b = true → Can L (fun x => s.K x = true) r) : Snd L T (s.put r (b, [])) := by
  refine ⟨fun y hy => ?_, h.kt, h.kh, fun y b' ws hy c hc => ?_⟩
  · by_cases e : y = r
    · subst e; rw [put_der] at hy; exact hb hy
    · rw [put_der_other e] at hy; exact h.de y hy
  · by_cases e : y = r
    · subst e; rw [put_A] at hy; injection hy with hy; injection hy with _ hy; subst hy; simp at hc
    · rw [put_other e] at hy; exact (h.wt y b' ws hy c hc).le (Le.put_new hr)
theorem Snd.put_old {L : List Nd} {T : Int → Prop} {s : Sx} (h : Snd L T s) {r : Int} {b : Bool} {ws ws' : List Clo} (hr : s.A r = some (false, ws)) (hb : b = true → Can L (fun x => s.K x = true) r) (hw : ∀ c ∈ ws', c ∈ ws ∨ Just L T s (c.1, r :: c.2)) : Snd L T (s.put r (b, ws')) := by
  refine ⟨fun y hy => ?_, h.kt, h.kh, fun y b' w2 hy c hc => ?_⟩
  · by_cases e : y = r
    · subst e; rw [put_der] at hy; exact hb hy
    · rw [put_der_other e] at hy; exact h.de y hy
  · by_cases e : y = r
    · subst e; rw [put_A] at hy; injection hy with hy; injection hy with _ hy; subst hy
      rcases hw c hc with e | e
      · exact (h.wt y _ _ hr c e).le (Le.put_old hr)
      · exact e.le (Le.put_old hr)
    · rw [put_other e] at hy; exact (h.wt y b' w2 hy c hc).le (Le.put_old hr)
theorem Snd.know {L : List Nd} {T : Int → Prop} {s : Sx} (h : Snd L T s) {r : Int} (hr : hasB L.length r = true) (ht : T r) : Snd L T (s.know r) := by
  have hk : ∀ y, (s.know r).K y = true → y = r ∨ s.K y = true := fun y hy => by
    simp only [Sx.know] at hy
    split at hy
    · rename_i e; exact .inl e
    · exact .inr hy
  refine ⟨fun y hy => (h.de y hy).mono (Le.know s r).k, fun y hy => ?_, fun y hy => ?_, fun y b ws hy c hc => (h.wt y b ws hy c hc).le (Le.know s r)⟩
  · rcases hk y hy with rfl | e
    · exact ht
    · exact h.kt y e
  · rcases hk y hy with rfl | e
    · exact hr
    · exact h.kh y e

/-- What is behind an operation. -/
def Ends (L : List Nd) (T : Int → Prop) (P : Clo → Prop) (o : Op) (s s' : Sx) : Prop := Goes L o s s' ∧ Inv L s' P ∧ Snd L T s' ∧ Le s s'
structure Lev (L : List Nd) (T : Int → Prop) (m : Nat) : Prop where
  ask : ∀ s P r, mu L s ≤ m → hasB L.length r = true → Inv L s P → Snd L T s → ∃ s', Ends L T P (.ask r) s s' ∧ (s'.A r).isSome = true
  reach : ∀ s P r, mu L s ≤ m → Just L T s (.reach r, []) → Inv L s (addP (.reach r, []) P) → Snd L T s → ∃ s', Ends L T P (.reach r) s s' ∧ s'.der r = true
  learn : ∀ s P r, mu L s ≤ m → Just L T s (.learn r, []) → Inv L s (addP (.learn r, []) P) → Snd L T s → ∃ s', Ends L T P (.learn r) s s' ∧ s'.K r = true
  when_ : ∀ s P t rs, mu L s ≤ m → Just L T s (t, rs) → Inv L s (addP (t, rs) P) → Snd L T s → ∃ s', Ends L T P (.when_ t rs) s s'

section
variable {L : List Nd} {T : Int → Prop} {m : Nat}
theorem lev_when (ha : ∀ s P r, mu L s ≤ m → hasB L.length r = true → Inv L s P → Snd L T s → ∃ s', Ends L T P (.ask r) s s' ∧ (s'.A r).isSome = true)
    (hr : ∀ s P r, mu L s ≤ m → Just L T s (.reach r, []) → Inv L s (addP (.reach r, []) P) → Snd L T s → ∃ s', Ends L T P (.reach r) s s' ∧ s'.der r = true)
    (hl : ∀ s P r, mu L s ≤ m → Just L T s (.learn r, []) → Inv L s (addP (.learn r, []) P) → Snd L T s → ∃ s', Ends L T P (.learn r) s s' ∧ s'.K r = true) :
    ∀ (rs : List Int) (s : Sx) (P : Clo → Prop) (t : Thn), mu L s ≤ m → Just L T s (t, rs) → Inv L s (addP (t, rs) P) → Snd L T s → ∃ s', whenR (fun r => Goes L (.ask r)) (Goes L (.thn t)) t rs s s' ∧ Inv L s' P ∧ Snd L T s' ∧ Le s s'
  | [], s, P, .reach r, hm, hj, hi, hs => by
    obtain ⟨s', ⟨⟨n, h1⟩, h2⟩, _⟩ := hr s P r hm hj hi hs
    exact ⟨s', ⟨n + 1, h1⟩, h2⟩
  | [], s, P, .learn r, hm, hj, hi, hs => by
    obtain ⟨s', ⟨⟨n, h1⟩, h2⟩, _⟩ := hl s P r hm hj hi hs
    exact ⟨s', ⟨n + 1, h1⟩, h2⟩
  | x :: rs, s, P, t, hm, hj, hi, hs => by
    obtain ⟨s1, ⟨h1, h2, h3, h4⟩, h5⟩ := ha s (addP (t, x :: rs) P) x hm (hj.1 x (by simp)) hi hs
    by_cases e : s1.der x = true
    · obtain ⟨s', g1, g2, g3, g4⟩ := lev_when ha hr hl rs s1 P t (Nat.le_trans (mu_le h4) hm) ((hj.le h4).tail h3 e) (h2.skip e) h3
      exact ⟨s', ⟨s1, h1, by rw [if_pos e]; exact g1⟩, g2, g3, h4.trans g4⟩
    · obtain ⟨ws, hw⟩ := der_false h5 e
      have hw' : s1.wait x (t, rs) = s1.put x (false, ws ++ [(t, rs)]) := by unfold Sx.wait Sx.der Sx.ws; rw [hw]
      refine ⟨s1.put x (false, ws ++ [(t, rs)]), ⟨s1, h1, by rw [if_neg e, hw']⟩, h2.wait hw, ?_, h4.trans (Le.put_old hw)⟩
      have hj1 := hj.le h4
      refine h3.put_old hw (fun e => by simp at e) (fun c hc => ?_)
      rcases List.mem_append.1 hc with e' | e'
      · exact .inl e'
      · simp at e'
        subst e'
        exact .inr hj1
theorem lev_all (hw : ∀ s P t rs, mu L s ≤ m → Just L T s (t, rs) → Inv L s (addP (t, rs) P) → Snd L T s → ∃ s', Ends L T P (.when_ t rs) s s') :
    ∀ (l : List Clo) (s : Sx) (P : Clo → Prop), mu L s ≤ m → (∀ c ∈ l, Just L T s c) → Inv L s (fun c => c ∈ l ∨ P c) → Snd L T s → ∃ s', allR (fun c => Goes L (.when_ c.1 c.2)) l s s' ∧ Inv L s' P ∧ Snd L T s' ∧ Le s s'
  | [], s, P, _, _, hi, hs => ⟨s, rfl, hi.mono fun c hc => by rcases hc with e | e; simp at e; exact e, hs, Le.refl s⟩
  | c :: l, s, P, hm, hj, hi, hs => by
    obtain ⟨s1, h1, h2, h3, h4⟩ := hw s (fun c => c ∈ l ∨ P c) c.1 c.2 hm (hj c (by simp)) (hi.mono fun d hd => by
      rcases hd with e | e
      · rcases List.mem_cons.1 e with e | e
        · exact .inl e
        · exact .inr (.inl e)
      · exact .inr (.inr e)) hs
    obtain ⟨s', g1, g2, g3, g4⟩ := lev_all hw l s1 P (Nat.le_trans (mu_le h4) hm) (fun d hd => (hj d (by simp [hd])).le h4) h2 h3
    exact ⟨s', ⟨s1, h1, g1⟩, g2, g3, h4.trans g4⟩

theorem obl_just (hL : WF L) {s : Sx} {r : Int} (hr : hasB L.length r = true) (ha : (s.A r).isSome = true) : ∀ c ∈ obl L r, Just L T s c := by
  obtain ⟨p1, p2, p3⟩ := nd_has hL hr
  intro c hc
  unfold obl at hc
  split at hc
  · rename_i e
    simp only [List.mem_singleton] at hc
    subst hc
    exact ⟨by simp, hr, ha, fun K' _ _ => .free hr e⟩
  · rename_i e
    split at hc
    · rename_i e1
      split at hc
      · rename_i e2
        simp only [List.mem_singleton] at hc
        subst hc
        exact ⟨by simp, hr, ha, fun K' _ _ => .own hr e1 e2⟩
      · simp at hc
    · rename_i e1
      split at hc
      · rename_i e3
        simp only [List.mem_cons, List.not_mem_nil, or_false] at hc
        rcases hc with rfl | rfl
        · exact ⟨fun x hx => by
            simp only [List.mem_cons, List.not_mem_nil, or_false] at hx
            rcases hx with rfl | rfl
            · exact p1
            · exact pubR_has p2, hr, ha, fun K' _ hx => can_dhA hL hr e3 (hx _ (by simp)) (hx _ (by simp))⟩
        · exact ⟨fun x hx => by
            simp only [List.mem_cons, List.not_mem_nil, or_false] at hx
            rcases hx with rfl | rfl
            · exact p2
            · exact pubR_has p1, hr, ha, fun K' _ hx => can_dhB hL hr e3 (hx _ (by simp)) (hx _ (by simp))⟩
      · rename_i e3
        simp only [List.mem_singleton] at hc
        subst hc
        refine ⟨fun x hx => ?_, hr, ha, fun K' _ hx => .parts hr (fun h => e (.inl h)) e1 e3 (fun h => e (.inr h)) (hx _ (by simp)) (hx _ (by simp)) (hx _ (by simp))⟩
        simp only [List.mem_cons, List.not_mem_nil, or_false] at hx
        rcases hx with rfl | rfl | rfl
        · exact p1
        · exact p2
        · exact p3

theorem lev_compose (hL : WF L) (h : Lev L T m) {s : Sx} {P : Clo → Prop} {r : Int} (hm : mu L s ≤ m) (hr : hasB L.length r = true) (ha : (s.A r).isSome = true) (hi : Inv L s (fun c => c ∈ obl L r ∨ P c)) (hs : Snd L T s) : ∃ s', Ends L T P (.compose r) s s' := by
  have hj := obl_just (T := T) hL hr ha
  unfold obl at hi hj
  by_cases e : (nd L r).k = 0 ∨ (nd L r).k = 9
  · rw [if_pos e] at hi hj
    obtain ⟨s', ⟨⟨n, h1⟩, h2⟩, _⟩ := h.reach s P r hm (hj _ (by simp)) (hi.mono fun c hc => hc.imp (fun e => by simpa using e) id) hs
    exact ⟨s', ⟨n + 1, by unfold Run; rw [if_pos e]; exact h1⟩, h2⟩
  · rw [if_neg e] at hi hj
    by_cases e1 : (nd L r).k = 1
    · rw [if_pos e1] at hi hj
      by_cases e2 : 4294967296 ≤ (nd L r).n
      · rw [if_pos e2] at hi hj
        obtain ⟨s', ⟨⟨n, h1⟩, h2⟩, _⟩ := h.reach s P r hm (hj _ (by simp)) (hi.mono fun c hc => hc.imp (fun e => by simpa using e) id) hs
        exact ⟨s', ⟨n + 1, by unfold Run; rw [if_neg e, if_pos e1, if_pos e2]; exact h1⟩, h2⟩
      · rw [if_neg e2] at hi
        exact ⟨s, ⟨1, by unfold Run; rw [if_neg e, if_pos e1, if_neg e2]⟩, hi.mono fun c hc => by rcases hc with e | e; simp at e; exact e, hs, Le.refl s⟩
    · rw [if_neg e1] at hi hj
      by_cases e3 : (nd L r).k = 3
      · rw [if_pos e3] at hi hj
        obtain ⟨s1, ⟨n1, h1⟩, h2, h3, h4⟩ := h.when_ s (addP (.reach r, [(nd L r).b, pubR L (nd L r).a]) P) (.reach r) [(nd L r).a, pubR L (nd L r).b] hm (hj _ (by simp)) (hi.mono fun c hc => by
          rcases hc with e | e
          · simp only [List.mem_cons, List.not_mem_nil, or_false] at e
            rcases e with e | e
            · exact .inl e
            · exact .inr (.inl e)
          · exact .inr (.inr e)) hs
        obtain ⟨s2, ⟨n2, g1⟩, g2, g3, g4⟩ := h.when_ s1 P _ _ (Nat.le_trans (mu_le h4) hm) ((hj (.reach r, [(nd L r).b, pubR L (nd L r).a]) (by simp)).le h4) h2 h3
        exact ⟨s2, ⟨n1 + n2 + 1, by unfold Run; rw [if_neg e, if_neg e1, if_pos e3]; exact ⟨s1, Run.mono (by omega) h1, Run.mono (by omega) g1⟩⟩, g2, g3, h4.trans g4⟩
      · rw [if_neg e3] at hi hj
        obtain ⟨s', ⟨n, h1⟩, h2⟩ := h.when_ s P (.reach r) [(nd L r).a, (nd L r).b, (nd L r).c] hm (hj _ (by simp)) (hi.mono fun c hc => hc.imp (fun e => by simpa using e) id) hs
        exact ⟨s', ⟨n + 1, by unfold Run; rw [if_neg e, if_neg e1, if_neg e3]; exact h1⟩, h2⟩

theorem lev_next (hL : WF L) (hT : Shut L T) (h : ∀ k, k < m → Lev L T k) : Lev L T m := by
  have hask : ∀ s P r, mu L s ≤ m → hasB L.length r = true → Inv L s P → Snd L T s → ∃ s', Ends L T P (.ask r) s s' ∧ (s'.A r).isSome = true := fun s P r hm hr hi hs => by
    cases hA : s.A r with
    | some x => exact ⟨s, ⟨⟨1, by unfold Run; rw [hA]⟩, hi, hs, Le.refl s⟩, by rw [hA]; rfl⟩
    | none =>
      by_cases hk : s.K r = true
      · refine ⟨s.put r (true, []), ⟨⟨1, by unfold Run; rw [hA]; simp only; rw [if_pos hk]; trivial⟩, hi.put hA (fun _ e => e) (fun _ c hc => .inl ?_) (fun _ => rfl), hs.put_new hA (fun _ => .known hr hk), Le.put_new hA⟩, by rw [put_A]; rfl⟩
        unfold obl at hc
        have : c.1 = .reach r := by
          split at hc
          · simp only [List.mem_singleton] at hc; subst hc; rfl
          · split at hc
            · split at hc
              · simp only [List.mem_singleton] at hc; subst hc; rfl
              · simp at hc
            · split at hc
              · simp only [List.mem_cons, List.not_mem_nil, or_false] at hc; rcases hc with rfl | rfl <;> rfl
              · simp only [List.mem_singleton] at hc; subst hc; rfl
        rw [this]; exact put_der
      · have hle := Le.put_new (b := false) hA
        have hlt := mu_lt (L := L) hle hr (.inl ⟨by rw [hA]; rfl, by rw [put_A]; rfl⟩)
        have hi' : Inv L (s.put r (false, [])) (fun c => c ∈ obl L r ∨ P c) := hi.put hA (fun _ e => .inr e) (fun _ c hc => .inr (.inr ⟨[], c.2, rfl, by simp, .inl hc⟩)) (fun e => absurd e hk)
        obtain ⟨s', ⟨n, h1⟩, h2, h3, h4⟩ := lev_compose hL (h _ (Nat.lt_of_lt_of_le hlt hm)) (Nat.le_refl _) hr (by rw [put_A]; rfl) hi' (hs.put_new hA (fun e => by simp at e))
        exact ⟨s', ⟨⟨n + 1, by unfold Run; rw [hA]; simp only; rw [if_neg hk, if_pos hr]; exact h1⟩, h2, h3, hle.trans h4⟩, h4.a r (by rw [put_A]; rfl)⟩
  have hreach : ∀ s P r, mu L s ≤ m → Just L T s (.reach r, []) → Inv L s (addP (.reach r, []) P) → Snd L T s → ∃ s', Ends L T P (.reach r) s s' ∧ s'.der r = true := fun s P r hm hj hi hs => by
    obtain ⟨_, hr, ha, hc⟩ := hj
    by_cases hd : s.der r = true
    · obtain ⟨ws, hw⟩ := der_iff.1 hd
      exact ⟨s, ⟨⟨1, by unfold Run; rw [hw]⟩, hi.past hd, hs, Le.refl s⟩, hd⟩
    · obtain ⟨ws, hw⟩ := der_false ha hd
      have hle : Le s (s.put r (true, ws)) := Le.put_old hw
      have hlt := mu_lt (L := L) hle hr (.inr (.inl ⟨by simpa using hd, put_der⟩))
      have hs' : Snd L T (s.put r (true, ws)) := hs.put_old hw (fun _ => hc _ (fun _ e => e) (by simp)) (fun c e => .inl e)
      obtain ⟨s', g1, g2, g3, g4⟩ := lev_all (h _ (Nat.lt_of_lt_of_le hlt hm)).when_ ws _ P (Nat.le_refl _) (fun c hc' => ((hs.wt r _ _ hw c hc').le hle).tail hs' put_der) (hi.reach hw) hs'
      obtain ⟨n, g5⟩ := all_goes g1
      exact ⟨s', ⟨⟨n + 1, by unfold Run; rw [hw]; exact g5⟩, g2, g3, hle.trans g4⟩, g4.d put_der⟩
  have hlearn : ∀ s P r, mu L s ≤ m → Just L T s (.learn r, []) → Inv L s (addP (.learn r, []) P) → Snd L T s → ∃ s', Ends L T P (.learn r) s s' ∧ s'.K r = true := fun s P r hm hj hi hs => by
    obtain ⟨_, hr, ht⟩ := hj
    have ht := ht (by simp)
    by_cases hk : s.K r = true
    · exact ⟨s, ⟨⟨1, by unfold Run; rw [if_pos hk]⟩, hi.past hk, hs, Le.refl s⟩, hk⟩
    · have hk' : (s.know r).K r = true := by simp [Sx.know]
      have hle := Le.know s r
      have hlt := mu_lt (L := L) hle hr (.inr (.inr ⟨by simpa using hk, hk'⟩))
      obtain ⟨p1, p2, p3⟩ := nd_has hL hr
      have hlev := h _ (Nat.lt_of_lt_of_le hlt hm)
      have hs0 := hs.know hr ht
      obtain ⟨Q, hQ⟩ : ∃ Q : Clo → Prop, Q = fun c => ((nd L r).k = 7 ∧ c = (.learn (nd L r).c, [(nd L r).a]) ∨ (nd L r).k = 8 ∧ (c = (.learn (nd L r).a, []) ∨ c = (.learn (nd L r).b, []))) ∨ P c := ⟨_, rfl⟩
      have hi0 : Inv L (s.know r) (addP (.reach r, []) Q) := hi.know.mono fun c hc => by rw [hQ]; exact hc
      obtain ⟨s1, ⟨⟨n1, a1⟩, a2, a3, a4⟩, a5⟩ := hlev.ask (s.know r) (addP (.reach r, []) Q) r (Nat.le_refl _) hr hi0 hs0
      obtain ⟨s2, ⟨⟨n2, b1⟩, b2, b3, b4⟩, b5⟩ := hlev.reach s1 Q r (mu_le a4) ⟨by simp, hr, a5, fun K' hK _ => .known hr (hK r (a4.k r hk'))⟩ a2 a3
      have hl2 := a4.trans b4
      have hm2 := mu_le (L := L) hl2
      have hT' := hT r hr ht
      subst hQ
      by_cases e8 : (nd L r).k = 8
      · obtain ⟨s3, ⟨⟨n3, c1⟩, c2, c3, c4⟩, _⟩ := hlev.learn s2 (addP (.learn (nd L r).b, []) P) (nd L r).a hm2 ⟨by simp, p1, fun _ => (hT'.1 e8).1⟩ (b2.mono fun c hc => by
          rcases hc with (e | e) | e
          · rw [e8] at e; simp at e
          · rcases e.2 with e | e
            · exact .inl e
            · exact .inr (.inl e)
          · exact .inr (.inr e)) b3
        obtain ⟨s4, ⟨⟨n4, d1⟩, d2, d3, d4⟩, _⟩ := hlev.learn s3 P (nd L r).b (Nat.le_trans (mu_le c4) hm2) ⟨by simp, p2, fun _ => (hT'.1 e8).2⟩ c2 c3
        refine ⟨s4, ⟨⟨n1 + n2 + n3 + n4 + 1, ?_⟩, d2, d3, hle.trans (hl2.trans (c4.trans d4))⟩, (hl2.trans (c4.trans d4)).k r hk'⟩
        unfold Run
        rw [if_neg hk]
        simp only [if_pos e8]
        exact ⟨s1, s2, Run.mono (by omega) a1, Run.mono (by omega) b1, s3, Run.mono (by omega) c1, Run.mono (by omega) d1⟩
      · by_cases e7 : (nd L r).k = 7
        · obtain ⟨s3, ⟨n3, c1⟩, c2, c3, c4⟩ := hlev.when_ s2 P (.learn (nd L r).c) [(nd L r).a] hm2 ⟨by simpa using p1, p3, fun hx => hT'.2 e7 (hx _ (by simp))⟩ (b2.mono fun c hc => by
            rcases hc with (e | e) | e
            · exact .inl e.2
            · exact absurd e.1 e8
            · exact .inr e) b3
          refine ⟨s3, ⟨⟨n1 + n2 + n3 + 1, ?_⟩, c2, c3, hle.trans (hl2.trans c4)⟩, (hl2.trans c4).k r hk'⟩
          unfold Run
          rw [if_neg hk]
          simp only [if_neg e8, if_pos e7]
          exact ⟨s1, s2, Run.mono (by omega) a1, Run.mono (by omega) b1, Run.mono (by omega) c1⟩
        · refine ⟨s2, ⟨⟨n1 + n2 + 1, ?_⟩, b2.mono fun c hc => by
            rcases hc with (e | e) | e
            · exact absurd e.1 e7
            · exact absurd e.1 e8
            · exact e, b3, hle.trans hl2⟩, hl2.k r hk'⟩
          unfold Run
          rw [if_neg hk]
          simp only [if_neg e8, if_neg e7]
          exact ⟨s1, s2, Run.mono (by omega) a1, Run.mono (by omega) b1, rfl⟩
  exact ⟨hask, hreach, hlearn, fun s P t rs hm hj hi hs => by
    obtain ⟨s', h1, h2⟩ := lev_when hask hreach hlearn rs s P t hm hj hi hs
    exact ⟨s', goes_when h1, h2⟩⟩
theorem lev_any (hL : WF L) (hT : Shut L T) (m : Nat) : Lev L T m := by
  induction m using Nat.strongRecOn with
  | ind m ih => exact lev_next hL hT ih
end

/-- At the end: what was asked for can be made just if it is found so. -/
theorem asked_can {L : List Nd} (hL : WF L) {s : Sx} {P : Clo → Prop} (hP : ∀ r rs, ¬ P (.reach r, rs)) (hi : Inv L s P) {r : Int} (hc : Can L (fun x => s.K x = true) r) : (s.A r).isSome = true → s.der r = true := by
  have key : ∀ {r : Int} {rs : List Int}, Held s P (.reach r, rs) → (∀ x ∈ rs, (s.A x).isSome = true → s.der x = true) → s.der r = true := fun {r rs} h hx => by
    rcases h with e | ⟨pre, x, post, ws, h1, _, h3, _⟩ | ⟨pre, post, _, _, h3⟩
    · exact e
    · have h4 := hx x (by rw [show rs = pre ++ x :: post from h1]; simp) (by rw [h3]; rfl)
      obtain ⟨w', hw⟩ := der_iff.1 h4
      rw [h3] at hw; simp at hw
    · exact absurd h3 (hP _ _)
  have kn : ∀ {r : Int}, s.K r = true → (s.A r).isSome = true → s.der r = true := fun h1 h2 => by
    rcases hi.kn _ h1 h2 with e | e
    · exact e
    · exact absurd e (hP _ _)
  have z : (s.A 0).isSome = true → s.der 0 = true := fun h => key (hi.ob 0 h (has_zero hL) (.reach 0, []) (by unfold obl; rw [nd_zero hL]; simp [zN])) (by simp)
  have pub : ∀ {p x : Int}, hasB L.length p = true → nd L p = ⟨2, 0, x, 0, 0⟩ → ((s.A x).isSome = true → s.der x = true) → (s.A p).isSome = true → s.der p = true := fun {p x} hp hn hx h => by
    refine key (hi.ob p h hp (.reach p, [x, 0, 0]) (by unfold obl; rw [hn]; simp)) (fun y hy => ?_)
    simp only [List.mem_cons, List.not_mem_nil, or_false, or_self] at hy
    rcases hy with rfl | rfl
    · exact hx
    · exact z
  have pubd : ∀ {x : Int}, ((s.A x).isSome = true → s.der x = true) → (s.A (pubR L x)).isSome = true → s.der (pubR L x) = true := fun {x} hx => by
    rcases pubR_cases L x with e | e
    · rw [e.1]; exact hx
    · exact pub e.1 e.2 hx
  induction hc with
  | known h hk => exact kn hk
  | @free r h hk => exact fun ha => key (hi.ob _ ha h (.reach r, []) (by unfold obl; rw [if_pos hk]; simp)) (by simp)
  | @own r h hk hn => exact fun ha => key (hi.ob _ ha h (.reach r, []) (by unfold obl; rw [if_neg (by omega), if_pos hk, if_pos hn]; simp)) (by simp)
  | @dh r h hk _ _ iha ihb =>
    exact fun ha => key (hi.ob _ ha h (.reach r, [(nd L r).a, pubR L (nd L r).b]) (by unfold obl; rw [if_neg (by omega), if_neg (by omega), if_pos hk]; simp)) (fun x hx => by
      simp only [List.mem_cons, List.not_mem_nil, or_false] at hx
      rcases hx with rfl | rfl
      · exact iha
      · exact pubd ihb)
  | @dhA r p h hk _ hp hpk hpn iha =>
    exact fun ha => key (hi.ob _ ha h (.reach r, [(nd L r).a, pubR L (nd L r).b]) (by unfold obl; rw [if_neg (by omega), if_neg (by omega), if_pos hk]; simp)) (fun x hx => by
      simp only [List.mem_cons, List.not_mem_nil, or_false] at hx
      rcases hx with rfl | rfl
      · exact iha
      · rw [pubR_at hL hp hpn]; exact kn hpk)
  | @dhB r p h hk _ hp hpk hpn ihb =>
    exact fun ha => key (hi.ob _ ha h (.reach r, [(nd L r).b, pubR L (nd L r).a]) (by unfold obl; rw [if_neg (by omega), if_neg (by omega), if_pos hk]; simp)) (fun x hx => by
      simp only [List.mem_cons, List.not_mem_nil, or_false] at hx
      rcases hx with rfl | rfl
      · exact ihb
      · rw [pubR_at hL hp hpn]; exact kn hpk)
  | @parts r h h0 h1 h3 h9 _ _ _ iha ihb ihc =>
    exact fun ha => key (hi.ob _ ha h (.reach r, [(nd L r).a, (nd L r).b, (nd L r).c]) (by unfold obl; rw [if_neg (by omega), if_neg h1, if_neg h3]; simp)) (fun x hx => by
      simp only [List.mem_cons, List.not_mem_nil, or_false] at hx
      rcases hx with rfl | rfl | rfl
      · exact iha
      · exact ihb
      · exact ihc)
end Go.Proofs.YtlckajnbmkkpeaaDoor

/- Layer 3 in plain mathematics: what a search answers, and what is known when more is learned. No program is named. -/
namespace Go.Proofs.YtlckajnbmkkpeaaDoor

def s0 (K : Int → Bool) : Sx := ⟨K, fun _ => none⟩
theorem s0_snd {L : List Nd} {T : Int → Prop} {K : Int → Bool} (hT : ∀ r, K r = true → T r) (hK : ∀ r, K r = true → hasB L.length r = true) : Snd L T (s0 K) :=
  ⟨fun r h => by simp [s0, Sx.der] at h, hT, hK, fun r b ws h => by simp [s0] at h⟩
theorem s0_inv {L : List Nd} {K : Int → Bool} {P : Clo → Prop} (h7 : ∀ r, K r = true → (nd L r).k = 7 → K (nd L r).c = true ∨ P (.learn (nd L r).c, [(nd L r).a])) (h8 : ∀ r, K r = true → (nd L r).k = 8 → (K (nd L r).a = true ∨ P (.learn (nd L r).a, [])) ∧ (K (nd L r).b = true ∨ P (.learn (nd L r).b, []))) : Inv L (s0 K) P := by
  refine ⟨fun r h => by simp [s0] at h, fun r _ h => by simp [s0] at h, fun r h1 h2 => ?_, fun r h1 h2 => ⟨?_, ?_⟩⟩
  · exact (h7 r h1 h2).elim .inl fun e => .inr (.inr ⟨[], _, rfl, by simp, e⟩)
  · exact (h8 r h1 h2).1.elim .inl fun e => .inr (.inr ⟨[], _, rfl, by simp, e⟩)
  · exact (h8 r h1 h2).2.elim .inl fun e => .inr (.inr ⟨[], _, rfl, by simp, e⟩)

/-- A search asks for a ref: what it finds. -/
theorem can_search {L : List Nd} (hL : WF L) {K : Int → Bool} (hK : ∀ r, K r = true → hasB L.length r = true) (hS : Shut L fun r => K r = true) {r : Int} (hr : hasB L.length r = true) :
    ∃ s', Goes L (.ask r) (s0 K) s' ∧ s'.K = K ∧ (s'.der r = true ↔ Can L (fun x => K x = true) r) := by
  have hi : Inv L (s0 K) (fun c => ∃ y, c.1 = .learn y) := s0_inv (fun r _ _ => .inr ⟨_, rfl⟩) (fun r _ _ => ⟨.inr ⟨_, rfl⟩, .inr ⟨_, rfl⟩⟩)
  obtain ⟨s', ⟨h1, h2, h3, h4⟩, h5⟩ := (lev_any hL hS (mu L (s0 K))).ask (s0 K) _ r (Nat.le_refl _) hr hi (s0_snd (fun _ h => h) hK)
  have hKe : s'.K = K := funext fun y => by
    have e1 := h4.k y
    have e2 := h3.kt y
    cases hx : s'.K y <;> cases hy : K y
    · rfl
    · have := e1 hy; rw [hx] at this; cases this
    · have := e2 hx; rw [hy] at this; cases this
    · rfl
  refine ⟨s', h1, hKe, fun h => ?_, fun h => ?_⟩
  · have := h3.de r h; rw [hKe] at this; exact this
  · exact asked_can hL (fun r rs h => by obtain ⟨y, hy⟩ := h; cases hy) h2 (by rw [hKe]; exact h) h5

/-- A ref is learned: the open Seals wait for their keys, then it is made known: what is known then. -/
theorem learn_search {L : List Nd} (hL : WF L) {K : Int → Bool} (hK : ∀ r, K r = true → hasB L.length r = true) (hS : Shut L fun r => K r = true) {r : Int} (hr : hasB L.length r = true) {l : List Int} (hl : ∀ x ∈ l, K x = true ∧ (nd L x).k = 7) (hl' : ∀ x, K x = true → (nd L x).k = 7 → K (nd L x).c = true ∨ x ∈ l) :
    ∃ s1 s2, allR (fun c => Goes L (.when_ c.1 c.2)) (l.map fun x => (.learn (nd L x).c, [(nd L x).a])) (s0 K) s1 ∧ Goes L (.learn r) s1 s2 ∧ (∀ y, s2.K y = true ↔ cl L (fun x => K x = true ∨ x = r) y) ∧ Shut L (fun y => s2.K y = true) ∧ (∀ y, s2.K y = true → hasB L.length y = true) := by
  have hT := cl_shut L (fun x => K x = true ∨ x = r)
  have hKT : ∀ x, K x = true → cl L (fun x => K x = true ∨ x = r) x := fun x hx => cl_in (.inl hx)
  have hi : Inv L (s0 K) (fun c => c ∈ (l.map fun x => ((.learn (nd L x).c, [(nd L x).a]) : Clo)) ∨ False) := s0_inv (fun x h1 h2 => (hl' x h1 h2).imp id fun e => .inl (List.mem_map.2 ⟨x, e, rfl⟩)) (fun x h1 h2 => by
    have := (hS x (hK x h1) h1).1 h2
    exact ⟨.inl this.1, .inl this.2⟩)
  have hlev := lev_any hL hT (mu L (s0 K))
  obtain ⟨s1, g1, g2, g3, g4⟩ := lev_all hlev.when_ _ (s0 K) (fun _ => False) (Nat.le_refl _) (fun c hc => by
    obtain ⟨x, hx, rfl⟩ := List.mem_map.1 hc
    obtain ⟨h1, h2⟩ := hl x hx
    obtain ⟨p1, _, p3⟩ := nd_has hL (hK x h1)
    exact ⟨by simpa using p1, p3, fun h => (hT x (hK x h1) (hKT x h1)).2 h2 (h _ (by simp))⟩) hi (s0_snd hKT hK)
  obtain ⟨s2, ⟨f1, f2, f3, f4⟩, f5⟩ := hlev.learn s1 (fun _ => False) r (mu_le g4) ⟨by simp, hr, fun _ => cl_in (.inr rfl)⟩ (g2.mono fun c h => h.elim) g3
  have hsh : Shut L (fun y => s2.K y = true) := fun y hy hk => by
    refine ⟨fun h8 => ?_, fun h7 hc => ?_⟩
    · have key : ∀ z, Held s2 (fun _ => False) (.learn z, []) → s2.K z = true := fun z h => by
        rcases h with e | ⟨pre, x, post, ws, e, _⟩ | ⟨_, _, _, _, e⟩
        · exact e
        · have e : ([] : List Int) = pre ++ x :: post := e
          simp at e
        · exact e.elim
      exact ⟨key _ (f2.pa y hk h8).1, key _ (f2.pa y hk h8).2⟩
    · rcases f2.se y hk h7 with e | ⟨pre, x, post, ws, e, h1, h2, _⟩ | ⟨_, _, _, _, e⟩
      · exact e
      · have e : [(nd L y).a] = pre ++ x :: post := e
        have hx : x = (nd L y).a := by
          cases pre with
          | nil => simp at e; exact e.1.symm
          | cons a t => simp at e
        subst hx
        have hd := asked_can hL (fun _ _ h => h.elim) f2 hc (by rw [h2]; rfl)
        obtain ⟨w', hw⟩ := der_iff.1 hd
        rw [h2] at hw; simp at hw
      · exact e.elim
  exact ⟨s1, s2, g1, f1, fun y => ⟨f3.kt y, fun h => cl_least hsh (fun x hx => by
    rcases hx with e | rfl
    · exact f4.k x (g4.k x e)
    · exact f5) h⟩, hsh, f3.kh⟩
end Go.Proofs.YtlckajnbmkkpeaaDoor

/- Layer 3 in plain mathematics: the document's own answer for what can be made. No program is named. -/
namespace Go.Proofs.YtlckajnbmkkpeaaDoor

/-- Is the public key of a term known, or can the term be made? -/
def rpub (L : List Nd) (k out : List Bool) (x : Int) : Bool := out.getD x.toNat false || (List.range L.length).any fun i => k.getD i false && (decide ((L.getD i zN).k = 2) && decide ((L.getD i zN).a = x))
/-- Whether the next term can be made. -/
def rstep (L : List Nd) (k out : List Bool) (i : Nat) : Bool :=
  if (L.getD i zN).k = 0 ∨ (L.getD i zN).k = 9 then true
  else if (L.getD i zN).k = 1 then k.getD i false || decide (4294967296 ≤ (L.getD i zN).n)
  else if (L.getD i zN).k = 2 then k.getD i false || out.getD (L.getD i zN).a.toNat false
  else if (L.getD i zN).k = 3 then k.getD i false || (out.getD (L.getD i zN).a.toNat false && rpub L k out (L.getD i zN).b) || (out.getD (L.getD i zN).b.toNat false && rpub L k out (L.getD i zN).a)
  else if (L.getD i zN).k = 7 then k.getD i false || (out.getD (L.getD i zN).a.toNat false && out.getD (L.getD i zN).b.toNat false && out.getD (L.getD i zN).c.toNat false)
  else k.getD i false || (out.getD (L.getD i zN).a.toNat false && out.getD (L.getD i zN).b.toNat false)
def rcan (L : List Nd) (k : List Bool) : Nat → List Bool
  | 0 => []
  | n + 1 => rcan L k n ++ [rstep L k (rcan L k n) n]
theorem rcan_len (L : List Nd) (k : List Bool) : ∀ n, (rcan L k n).length = n
  | 0 => rfl
  | n + 1 => by simp [rcan, rcan_len L k n]
def knB (k : List Bool) : Int → Prop := fun r => 0 ≤ r ∧ k.getD r.toNat false = true

theorem can_iff {L : List Nd} (_hL : WF L) {K : Int → Prop} {r : Int} (hr : hasB L.length r = true) : Can L K r ↔ K r ∨ ((nd L r).k = 0 ∨ (nd L r).k = 9) ∨ ((nd L r).k = 1 ∧ 4294967296 ≤ (nd L r).n) ∨
    ((nd L r).k = 3 ∧ ((Can L K (nd L r).a ∧ (Can L K (nd L r).b ∨ ∃ p, hasB L.length p = true ∧ K p ∧ nd L p = ⟨2, 0, (nd L r).b, 0, 0⟩)) ∨ (Can L K (nd L r).b ∧ (Can L K (nd L r).a ∨ ∃ p, hasB L.length p = true ∧ K p ∧ nd L p = ⟨2, 0, (nd L r).a, 0, 0⟩)))) ∨
    ((nd L r).k ≠ 0 ∧ (nd L r).k ≠ 1 ∧ (nd L r).k ≠ 3 ∧ (nd L r).k ≠ 9 ∧ Can L K (nd L r).a ∧ Can L K (nd L r).b ∧ Can L K (nd L r).c) := by
  constructor
  · intro h
    cases h with
    | known _ hk => exact .inl hk
    | free _ hk => exact .inr (.inl hk)
    | own _ hk hn => exact .inr (.inr (.inl ⟨hk, hn⟩))
    | dh _ hk ha hb => exact .inr (.inr (.inr (.inl ⟨hk, .inl ⟨ha, .inl hb⟩⟩)))
    | dhA _ hk ha hp hpk hpn => exact .inr (.inr (.inr (.inl ⟨hk, .inl ⟨ha, .inr ⟨_, hp, hpk, hpn⟩⟩⟩)))
    | dhB _ hk hb hp hpk hpn => exact .inr (.inr (.inr (.inl ⟨hk, .inr ⟨hb, .inr ⟨_, hp, hpk, hpn⟩⟩⟩)))
    | parts _ h0 h1 h3 h9 ha hb hc => exact .inr (.inr (.inr (.inr ⟨h0, h1, h3, h9, ha, hb, hc⟩)))
  · rintro (h | h | h | ⟨hk, h⟩ | ⟨h0, h1, h3, h9, ha, hb, hc⟩)
    · exact .known hr h
    · exact .free hr h
    · exact .own hr h.1 h.2
    · rcases h with ⟨ha, hb | ⟨p, hp, hpk, hpn⟩⟩ | ⟨hb, ha | ⟨p, hp, hpk, hpn⟩⟩
      · exact .dh hr hk ha hb
      · exact .dhA hr hk ha hp hpk hpn
      · exact .dh hr hk ha hb
      · exact .dhB hr hk hb hp hpk hpn
    · exact .parts hr h0 h1 h3 h9 ha hb hc

theorem rpub_iff {L : List Nd} (hL : WF L) {k out : List Bool} {x : Int} {A : Prop} (hx : out.getD x.toNat false = true ↔ A) : rpub L k out x = true ↔ A ∨ ∃ p, hasB L.length p = true ∧ knB k p ∧ nd L p = ⟨2, 0, x, 0, 0⟩ := by
  unfold rpub
  rw [Bool.or_eq_true, hx]
  refine or_congr Iff.rfl ?_
  rw [List.any_eq_true]
  constructor
  · rintro ⟨i, hi, h⟩
    simp only [Bool.and_eq_true, decide_eq_true_eq] at h
    have hb : hasB L.length (i : Int) = true := hasB_iff.2 ⟨by omega, by have := List.mem_range.1 hi; omega⟩
    have hn := nd_pub hL hb (show (nd L (i : Int)).k = 2 from h.2.1)
    rw [show (nd L (i : Int)).a = x from h.2.2] at hn
    exact ⟨i, hb, ⟨by omega, h.1⟩, hn⟩
  · rintro ⟨p, hp, hk, hn⟩
    have h := hasB_iff.1 hp
    refine ⟨p.toNat, List.mem_range.2 (by omega), ?_⟩
    have e : L.getD p.toNat zN = ⟨2, 0, x, 0, 0⟩ := hn
    rw [e, hk.2]
    simp
theorem rstep_iff {L : List Nd} (hL : WF L) {k out : List Bool} {n : Nat} (hn : n < L.length) (ho : ∀ i : Nat, i < n → (out.getD i false = true ↔ Can L (knB k) i)) : rstep L k out n = true ↔ Can L (knB k) n := by
  have hb : hasB L.length (n : Int) = true := hasB_iff.2 ⟨by omega, by omega⟩
  rw [can_iff hL hb]
  have e : nd L (n : Int) = L.getD n zN := rfl
  obtain ⟨g1, g2, g3⟩ := nd_good hL hb
  have hp := hL.parts n hn
  have kB : knB k (n : Int) ↔ k.getD n false = true := ⟨fun h => h.2, fun h => ⟨by omega, h⟩⟩
  rw [e] at g1 g2 g3 ⊢
  rw [kB]
  unfold rstep
  obtain ⟨d, hd⟩ : ∃ d, d = L.getD n zN := ⟨_, rfl⟩
  rw [← hd] at g1 g2 g3 hp ⊢
  have pt : ∀ p : Int, inAt p n → d.k ≠ 0 → (out.getD p.toNat false = true ↔ Can L (knB k) p) := fun p h h0 => by
    have hn0 : 0 < n := by
      rcases Nat.eq_zero_or_pos n with z | z
      · subst z
        have := nd_zero hL
        rw [show nd L 0 = L.getD 0 zN from rfl, ← hd] at this
        rw [this] at h0; exact absurd rfl h0
      · exact z
    have h' := ho p.toNat (by unfold inAt at h; omega)
    rw [h', show ((p.toNat : Nat) : Int) = p by unfold inAt at h; omega]
  by_cases k0 : d.k = 0 ∨ d.k = 9
  · rw [if_pos k0]
    exact ⟨fun _ => .inr (.inl k0), fun _ => rfl⟩
  · rw [if_neg k0]
    have n0 : d.k ≠ 0 := fun h => k0 (.inl h)
    have n9 : d.k ≠ 9 := fun h => k0 (.inr h)
    have pa := pt d.a hp.1 n0
    have pb := pt d.b hp.2.1 n0
    have pc := pt d.c hp.2.2 n0
    by_cases k1 : d.k = 1
    · rw [if_pos k1, Bool.or_eq_true, decide_eq_true_eq]
      constructor
      · rintro (h | h)
        · exact .inl h
        · exact .inr (.inr (.inl ⟨k1, h⟩))
      · rintro (h | h | h | h | h)
        · exact .inl h
        · exact absurd h k0
        · exact .inr h.2
        · omega
        · omega
    · rw [if_neg k1]
      unfold partsOk partOk at g2
      by_cases k2 : d.k = 2
      · rw [if_pos k2, Bool.or_eq_true, pa]
        rw [k2] at g2
        simp [many] at g2
        have z := can_zero hL (knB k)
        constructor
        · rintro (h | h)
          · exact .inl h
          · exact .inr (.inr (.inr (.inr ⟨n0, k1, by omega, n9, h, by rw [g2.2.1]; exact z, by rw [g2.2.2]; exact z⟩)))
        · rintro (h | h | h | h | h)
          · exact .inl h
          · exact absurd h k0
          · omega
          · omega
          · exact .inr h.2.2.2.2.1
      · rw [if_neg k2]
        by_cases k3 : d.k = 3
        · rw [if_pos k3]
          simp only [Bool.or_eq_true, Bool.and_eq_true, pa, pb, rpub_iff hL pa, rpub_iff hL pb]
          constructor
          · rintro ((h | h) | h)
            · exact .inl h
            · exact .inr (.inr (.inr (.inl ⟨k3, .inl h⟩)))
            · exact .inr (.inr (.inr (.inl ⟨k3, .inr h⟩)))
          · rintro (h | h | h | h | h)
            · exact .inl (.inl h)
            · exact absurd h k0
            · omega
            · rcases h.2 with h | h
              · exact .inl (.inr h)
              · exact .inr h
            · exact absurd k3 h.2.2.1
        · rw [if_neg k3]
          by_cases k7 : d.k = 7
          · rw [if_pos k7]
            simp only [Bool.or_eq_true, Bool.and_eq_true, pa, pb, pc]
            constructor
            · rintro (h | h)
              · exact .inl h
              · exact .inr (.inr (.inr (.inr ⟨n0, k1, k3, n9, h.1.1, h.1.2, h.2⟩)))
            · rintro (h | h | h | h | h)
              · exact .inl h
              · exact absurd h k0
              · omega
              · omega
              · exact .inr ⟨⟨h.2.2.2.2.1, h.2.2.2.2.2.1⟩, h.2.2.2.2.2.2⟩
          · rw [if_neg k7]
            have hm2 : many d.k = 2 := by
              unfold many at g1 ⊢
              split at g1 <;> (try split at g1) <;> (try split at g1) <;> (try split at g1) <;> simp_all <;> omega
            rw [hm2] at g2
            simp at g2
            have z := can_zero hL (knB k)
            simp only [Bool.or_eq_true, Bool.and_eq_true, pa, pb]
            constructor
            · rintro (h | h)
              · exact .inl h
              · exact .inr (.inr (.inr (.inr ⟨n0, k1, k3, n9, h.1, h.2, by rw [g2.2.2]; exact z⟩)))
            · rintro (h | h | h | h | h)
              · exact .inl h
              · exact absurd h k0
              · omega
              · omega
              · exact .inr ⟨h.2.2.2.2.1, h.2.2.2.2.2.1⟩
theorem rcan_iff {L : List Nd} (hL : WF L) (k : List Bool) : ∀ n, n ≤ L.length → ∀ i : Nat, i < n → ((rcan L k n).getD i false = true ↔ Can L (knB k) i)
  | 0, _, i, hi => by omega
  | n + 1, hn, i, hi => by
    have ih := rcan_iff hL k n (by omega)
    have hl := rcan_len L k n
    rw [rcan]
    rcases Nat.lt_or_ge i n with h | h
    · rw [List.getD_eq_getElem?_getD, List.getElem?_append_left (by omega), ← List.getD_eq_getElem?_getD]; exact ih i h
    · obtain rfl : i = n := by omega
      rw [List.getD_eq_getElem?_getD, List.getElem?_append_right (by omega), hl, Nat.sub_self]
      exact rstep_iff hL (by omega) ih
end Go.Proofs.YtlckajnbmkkpeaaDoor

/- Layer 3 in plain mathematics: the document's own answer for what is known, with all that comes of it. No program is named. -/
namespace Go.Proofs.YtlckajnbmkkpeaaDoor

/-- What comes of the term at a place, in a round. -/
def rpick (L : List Nd) (can out : List Bool) (i : Nat) : List Bool :=
  let o1 := if out.getD i false = true ∧ (L.getD i zN).k = 8 then (out.set (L.getD i zN).a.toNat true).set (L.getD i zN).b.toNat true else out
  if o1.getD i false = true ∧ (L.getD i zN).k = 7 ∧ can.getD (L.getD i zN).a.toNat false = true then o1.set (L.getD i zN).c.toNat true else o1
def rpicks (L : List Nd) (can out : List Bool) : Nat → List Bool
  | 0 => out
  | n + 1 => rpick L can (rpicks L can out n) n
def rround (L : List Nd) (out : List Bool) : List Bool := rpicks L (rcan L out L.length) out L.length
def rclose (L : List Nd) (out : List Bool) : Nat → List Bool
  | 0 => out
  | n + 1 => rround L (rclose L out n)

theorem rpick_len (L : List Nd) (can out : List Bool) (i : Nat) : (rpick L can out i).length = out.length := by
  unfold rpick; simp only; split <;> split <;> simp
theorem rpicks_len (L : List Nd) (can out : List Bool) : ∀ n, (rpicks L can out n).length = out.length
  | 0 => rfl
  | n + 1 => by rw [rpicks, rpick_len, rpicks_len L can out n]
theorem rround_len (L : List Nd) (out : List Bool) : (rround L out).length = out.length := rpicks_len _ _ _ _
theorem rclose_len (L : List Nd) (out : List Bool) : ∀ n, (rclose L out n).length = out.length
  | 0 => rfl
  | n + 1 => by rw [rclose, rround_len, rclose_len L out n]

theorem set_at {l : List Bool} {i j : Nat} : (l.set i true).getD j false = true ↔ l.getD j false = true ∨ (j = i ∧ i < l.length) := by
  rw [List.getD_eq_getElem?_getD, List.getD_eq_getElem?_getD, List.getElem?_set]
  by_cases e : i = j
  · subst e
    by_cases h : i < l.length
    · simp [h]
    · simp [h]
  · simp [e, Ne.symm e]
/-- What a place adds. -/
theorem rpick_at {L : List Nd} {can out : List Bool} {i j : Nat} : (rpick L can out i).getD j false = true ↔ out.getD j false = true ∨
    (out.getD i false = true ∧ (L.getD i zN).k = 8 ∧ ((j = (L.getD i zN).a.toNat ∨ j = (L.getD i zN).b.toNat) ∧ j < out.length)) ∨
    (out.getD i false = true ∧ (L.getD i zN).k = 7 ∧ can.getD (L.getD i zN).a.toNat false = true ∧ j = (L.getD i zN).c.toNat ∧ j < out.length) := by
  unfold rpick
  simp only
  by_cases h8 : out.getD i false = true ∧ (L.getD i zN).k = 8
  · rw [if_pos h8, if_neg (by rw [h8.2]; omega)]
    rw [set_at, set_at, List.length_set]
    constructor
    · rintro ((h | h) | h)
      · exact .inl h
      · exact .inr (.inl ⟨h8.1, h8.2, .inl h.1, by omega⟩)
      · exact .inr (.inl ⟨h8.1, h8.2, .inr h.1, by omega⟩)
    · rintro (h | ⟨_, _, h, hl⟩ | ⟨_, h, _⟩)
      · exact .inl (.inl h)
      · rcases h with h | h
        · exact .inl (.inr ⟨h, by omega⟩)
        · exact .inr ⟨h, by omega⟩
      · omega
  · rw [if_neg h8]
    split
    · rename_i h7
      rw [set_at]
      constructor
      · rintro (h | h)
        · exact .inl h
        · exact .inr (.inr ⟨h7.1, h7.2.1, h7.2.2, h.1, by omega⟩)
      · rintro (h | h | h)
        · exact .inl h
        · exact absurd ⟨h.1, h.2.1⟩ h8
        · exact .inr ⟨h.2.2.2.1, by omega⟩
    · rename_i h7
      constructor
      · exact .inl
      · rintro (h | h | h)
        · exact h
        · exact absurd ⟨h.1, h.2.1⟩ h8
        · exact absurd ⟨h.1, h.2.1, h.2.2.1⟩ h7
theorem rpicks_up {L : List Nd} {can out : List Bool} {j : Nat} (h : out.getD j false = true) : ∀ n, (rpicks L can out n).getD j false = true
  | 0 => h
  | n + 1 => rpick_at.2 (.inl (rpicks_up h n))
theorem rpicks_mono {L : List Nd} {can out : List Bool} {j m : Nat} : ∀ {n}, m ≤ n → (rpicks L can out m).getD j false = true → (rpicks L can out n).getD j false = true
  | 0, h, h1 => by obtain rfl : m = 0 := by omega
                   exact h1
  | n + 1, h, h1 => by
    rcases Nat.lt_or_ge m (n + 1) with e | e
    · exact rpick_at.2 (.inl (rpicks_mono (by omega) h1))
    · obtain rfl : m = n + 1 := by omega
      exact h1
theorem rround_up {L : List Nd} {out : List Bool} {j : Nat} (h : out.getD j false = true) : (rround L out).getD j false = true := rpicks_up h _
theorem rclose_up {L : List Nd} {out : List Bool} {j : Nat} (h : out.getD j false = true) : ∀ n, (rclose L out n).getD j false = true
  | 0 => h
  | n + 1 => rround_up (rclose_up h n)

theorem getD_lt {l : List Bool} {i : Nat} (h : l.getD i false = true) : i < l.length := by
  rcases Nat.lt_or_ge i l.length with e | e
  · exact e
  · rw [List.getD_eq_getElem?_getD, List.getElem?_eq_none e] at h; simp at h
/-- A round stays inside whatever is shut. -/
theorem rround_in {L : List Nd} (hL : WF L) {S : Int → Prop} (hS : Shut L S) {out : List Bool} (_hl : out.length = L.length) (hin : ∀ r, knB out r → S r) : ∀ r, knB (rround L out) r → S r := by
  have hcan : ∀ x : Int, hasB L.length x = true → (rcan L out L.length).getD x.toNat false = true → Can L S x := fun x hx h => by
    have h' := hasB_iff.1 hx
    have := (rcan_iff hL out L.length (Nat.le_refl _) x.toNat (by omega)).1 h
    rw [show ((x.toNat : Nat) : Int) = x by omega] at this
    exact this.mono hin
  have key : ∀ n, n ≤ L.length → ∀ r, knB (rpicks L (rcan L out L.length) out n) r → S r := by
    intro n
    induction n with
    | zero => exact fun _ r h => hin r h
    | succ n ih =>
      intro hn r ⟨h0, h⟩
      have hb : hasB L.length (n : Int) = true := hasB_iff.2 ⟨by omega, by omega⟩
      obtain ⟨pa, pb, pc⟩ := nd_has hL hb
      have e : nd L (n : Int) = L.getD n zN := rfl
      rw [e] at pa pb pc
      have nn : ∀ {p : Int}, hasB L.length p = true → r.toNat = p.toNat → r = p := fun hp h => by have := hasB_iff.1 hp; omega
      rcases rpick_at.1 h with h | ⟨h1, h2, h3, _⟩ | ⟨h1, h2, h3, h4, _⟩
      · exact ih (by omega) r ⟨h0, h⟩
      · have hs := (hS n hb (ih (by omega) n ⟨by omega, h1⟩)).1 h2
        rcases h3 with h3 | h3
        · rw [nn pa h3]; exact hs.1
        · rw [nn pb h3]; exact hs.2
      · rw [nn pc h4]
        exact (hS n hb (ih (by omega) n ⟨by omega, h1⟩)).2 h2 (hcan _ pa h3)
  exact key L.length (Nat.le_refl _)
theorem rclose_in {L : List Nd} (hL : WF L) {S : Int → Prop} (hS : Shut L S) {out : List Bool} (hl : out.length = L.length) (hin : ∀ r, knB out r → S r) : ∀ n r, knB (rclose L out n) r → S r
  | 0 => hin
  | n + 1 => rround_in hL hS ((rclose_len L out n).trans hl) (rclose_in hL hS hl hin n)
/-- Where a round adds nothing, nothing more can be taken out. -/
theorem rround_shut {L : List Nd} (hL : WF L) {out : List Bool} (hl : out.length = L.length) (hfix : ∀ j, (rround L out).getD j false = true → out.getD j false = true) : Shut L (knB out) := by
  intro r hr hk
  have h' := hasB_iff.1 hr
  obtain ⟨i, rfl⟩ : ∃ i : Nat, r = i := ⟨r.toNat, by omega⟩
  obtain ⟨pa, pb, pc⟩ := nd_has hL hr
  have pa' := hasB_iff.1 pa
  have pb' := hasB_iff.1 pb
  have pc' := hasB_iff.1 pc
  have e : nd L (i : Int) = L.getD i zN := rfl
  have hi : (rpicks L (rcan L out L.length) out i).getD i false = true := rpicks_up hk.2 i
  have hlen := rpicks_len L (rcan L out L.length) out i
  have step : ∀ j, (rpicks L (rcan L out L.length) out (i + 1)).getD j false = true → out.getD j false = true := fun j h => hfix j (rpicks_mono (by omega) h)
  refine ⟨fun h8 => ⟨⟨pa'.1, step _ (rpick_at.2 (.inr (.inl ⟨hi, h8, .inl rfl, by rw [hlen]; omega⟩)))⟩, ⟨pb'.1, step _ (rpick_at.2 (.inr (.inl ⟨hi, h8, .inr rfl, by rw [hlen]; omega⟩)))⟩⟩, fun h7 hc => ⟨pc'.1, step _ (rpick_at.2 (.inr (.inr ⟨hi, h7, ?_, rfl, by rw [hlen]; omega⟩)))⟩⟩
  rw [← e]
  refine (rcan_iff hL out L.length (Nat.le_refl _) _ (by omega)).2 ?_
  rw [show (((nd L (i : Int)).a.toNat : Nat) : Int) = (nd L (i : Int)).a by omega]
  exact hc

/-- How many are known. -/
def kcnt (l : List Bool) : Nat := l.count true
theorem kcnt_le : ∀ {l m : List Bool}, l.length = m.length → (∀ j, l.getD j false = true → m.getD j false = true) → kcnt l ≤ kcnt m
  | [], [], _, _ => Nat.le_refl _
  | x :: l, y :: m, h, hj => by
    have h1 := kcnt_le (l := l) (m := m) (by simpa using h) fun j hh => by simpa using hj (j + 1) (by simpa using hh)
    have h0 := hj 0
    unfold kcnt at h1 ⊢
    cases x <;> cases y <;> simp_all <;> omega
theorem kcnt_lt : ∀ {l m : List Bool}, l.length = m.length → (∀ j, l.getD j false = true → m.getD j false = true) → (∃ j, m.getD j false = true ∧ ¬ l.getD j false = true) → kcnt l < kcnt m
  | [], [], _, _, ⟨j, h, _⟩ => by simp at h
  | x :: l, y :: m, h, hj, ⟨i, h1, h2⟩ => by
    have hlt : l.length = m.length := by simpa using h
    have hj' : ∀ j, l.getD j false = true → m.getD j false = true := fun j hh => by simpa using hj (j + 1) (by simpa using hh)
    have h0 := hj 0
    cases i with
    | zero =>
      have := kcnt_le hlt hj'
      unfold kcnt at this ⊢
      cases x <;> cases y <;> simp_all <;> omega
    | succ i =>
      have := kcnt_lt hlt hj' ⟨i, by simpa using h1, by simpa using h2⟩
      unfold kcnt at this ⊢
      cases x <;> cases y <;> simp_all <;> omega
theorem kcnt_top (l : List Bool) : kcnt l ≤ l.length := List.count_le_length
theorem kcnt_all : ∀ {l : List Bool}, l.length ≤ kcnt l → ∀ j, j < l.length → l.getD j false = true
  | [], _, j, hj => by simp at hj
  | x :: l, h, j, hj => by
    have h1 := kcnt_top l
    unfold kcnt at h h1
    cases x with
    | false => simp at h; omega
    | true =>
      simp at h
      cases j with
      | zero => rfl
      | succ j => simpa using kcnt_all (l := l) (by unfold kcnt; omega) j (by simpa using hj)
theorem rclose_grow {L : List Nd} (hL : WF L) {out : List Bool} (hl : out.length = L.length) : ∀ n, Shut L (knB (rclose L out n)) ∨ n ≤ kcnt (rclose L out n)
  | 0 => .inr (Nat.zero_le _)
  | n + 1 => by
    have hln := (rclose_len L out n).trans hl
    by_cases hfix : ∀ j, (rround L (rclose L out n)).getD j false = true → (rclose L out n).getD j false = true
    · have hs := rround_shut hL hln hfix
      refine .inl ?_
      have e : knB (rclose L out (n + 1)) = knB (rclose L out n) := funext fun r => propext ⟨fun h => ⟨h.1, hfix _ h.2⟩, fun h => ⟨h.1, rround_up h.2⟩⟩
      rw [e]; exact hs
    · have hx : ∃ j, (rround L (rclose L out n)).getD j false = true ∧ ¬ (rclose L out n).getD j false = true := by
        false_or_by_contra
        rename_i hc
        exact hfix fun j h => by
          false_or_by_contra
          rename_i h'
          exact hc ⟨j, h, h'⟩
      have hlt := kcnt_lt (rround_len L (rclose L out n)).symm (fun j h => rround_up h) hx
      rcases rclose_grow hL hl n with hs | hs
      · obtain ⟨j, h1, h2⟩ := hx
        have := rround_in hL hs hln (fun r h => h) (j : Int) ⟨by omega, h1⟩
        exact absurd this.2 h2
      · exact .inr (by show n + 1 ≤ kcnt (rround L (rclose L out n)); omega)
/-- As many rounds as terms are enough. -/
theorem rclose_iff {L : List Nd} (hL : WF L) {out : List Bool} (hl : out.length = L.length) (r : Int) : knB (rclose L out L.length) r ↔ cl L (knB out) r := by
  constructor
  · exact rclose_in hL (cl_shut L _) hl (fun r h => cl_in h) L.length r
  · intro h
    have hln := (rclose_len L out L.length).trans hl
    have hb : ∀ x, knB out x → knB (rclose L out L.length) x := fun x hx => ⟨hx.1, rclose_up hx.2 _⟩
    rcases rclose_grow hL hl L.length with hs | hs
    · exact cl_least hs hb h
    · have hall := kcnt_all (l := rclose L out L.length) (by omega)
      refine cl_least (S := fun x => knB (rclose L out L.length) x) ?_ hb h
      intro x hx _
      obtain ⟨pa, pb, pc⟩ := nd_has hL hx
      have f : ∀ {p : Int}, hasB L.length p = true → knB (rclose L out L.length) p := fun hp => by
        have := hasB_iff.1 hp
        exact ⟨this.1, hall _ (by omega)⟩
      exact ⟨fun _ => ⟨f pa, f pb⟩, fun _ _ => f pc⟩

/-- What the document has known, behind a row of refs. -/
def rlearn (L : List Nd) : List Int → List Bool → List Bool
  | [], k => k
  | x :: l, k => rlearn L l (if hasB L.length x = true then rclose L (k.set x.toNat true) L.length else k)
theorem rlearn_len (L : List Nd) : ∀ (l : List Int) (k : List Bool), (rlearn L l k).length = k.length
  | [], _ => rfl
  | x :: l, k => by
    rw [rlearn, rlearn_len L l]
    split
    · rw [rclose_len, List.length_set]
    · rfl
theorem rlearn_iff {L : List Nd} (hL : WF L) : ∀ (l pre : List Int) (k : List Bool), k.length = L.length → (∀ r, knB k r ↔ lrn L pre r) → ∀ r, knB (rlearn L l k) r ↔ lrn L (pre ++ l) r
  | [], pre, k, _, h, r => by rw [List.append_nil]; exact h r
  | x :: l, pre, k, hl, h, r => by
    rw [rlearn, show pre ++ x :: l = (pre ++ [x]) ++ l by simp]
    by_cases hx : hasB L.length x = true
    · rw [if_pos hx]
      have h' := hasB_iff.1 hx
      refine rlearn_iff hL l (pre ++ [x]) _ (by rw [rclose_len, List.length_set]; exact hl) (fun y => ?_) r
      rw [rclose_iff hL (by rw [List.length_set]; exact hl), lrn_snoc hx]
      have e : knB (k.set x.toNat true) = fun y => lrn L pre y ∨ y = x := funext fun y => propext (by
        unfold knB
        rw [set_at]
        constructor
        · rintro ⟨h0, h1 | h1⟩
          · exact .inl ((h y).1 ⟨h0, h1⟩)
          · exact .inr (by omega)
        · rintro (h1 | rfl)
          · have := (h y).2 h1
            exact ⟨this.1, .inl this.2⟩
          · exact ⟨h'.1, .inr ⟨rfl, by omega⟩⟩)
      rw [e]
    · rw [if_neg hx]
      refine rlearn_iff hL l (pre ++ [x]) k hl (fun y => ?_) r
      rw [h y, lrn_skip (by simpa using hx)]
theorem rlearn_any {L : List Nd} (hL : WF L) (l : List Int) (r : Int) : knB (rlearn L l (List.replicate L.length false)) r ↔ lrn L l r := by
  have := rlearn_iff hL l [] (List.replicate L.length false) (by simp) (fun r => ⟨fun h => by
    have := h.2
    rw [List.getD_eq_getElem?_getD, List.getElem?_replicate] at this
    split at this <;> simp at this, fun h => absurd h (lrn_nil L r)⟩) r
  simpa using this
end Go.Proofs.YtlckajnbmkkpeaaDoor

/- Layer 3 in plain mathematics: how much may wait in a search. No program is named. -/
namespace Go.Proofs.YtlckajnbmkkpeaaDoor

theorem sum_upd {f g : Nat → Nat} {j : Nat} (h : ∀ i, i ≠ j → f i = g i) : ∀ n, j < n → ((List.range n).map f).sum + g j = ((List.range n).map g).sum + f j
  | 0, hj => by omega
  | n + 1, hj => by
    simp only [List.range_succ, List.map_append, List.map_cons, List.map_nil, List.sum_append, List.sum_cons, List.sum_nil]
    rcases Nat.lt_or_ge j n with e | e
    · have := sum_upd h n e
      have := h n (by omega)
      omega
    · obtain rfl : j = n := by omega
      have : ((List.range j).map f) = ((List.range j).map g) := List.map_congr_left fun i hi => h i (by have := List.mem_range.1 hi; omega)
      rw [this]; omega
def wgC (b : Bool) (c : Clo) : Nat := 1 + (if b = true then 0 else c.2.length)
def phA : Option (Bool × List Clo) → Nat
  | none => 4
  | some (b, ws) => (ws.map (wgC b)).sum
def phI (s : Sx) (i : Nat) : Nat := phA (s.A i) + (if s.K i = true then 0 else 1)
/-- How much waits, or may come to wait. -/
def phi (L : List Nd) (s : Sx) : Nat := ((List.range L.length).map (phI s)).sum
def slack : Op → Nat
  | .compose _ => 4
  | .when_ _ rs => rs.length
  | _ => 0

section
variable {L : List Nd} {s : Sx} {r : Int}
theorem phi_put (x : Bool × List Clo) (hr : hasB L.length r = true) : phi L (s.put r x) + phA (s.A r) = phi L s + phA (some x) := by
  obtain ⟨h0, h1⟩ := hasB_iff.1 hr
  obtain ⟨j, rfl⟩ : ∃ j : Nat, r = j := ⟨r.toNat, by omega⟩
  have := sum_upd (f := phI (s.put j x)) (g := phI s) (j := j) (fun i hi => by
    unfold phI
    rw [put_other (by omega)]
    rfl) L.length (by omega)
  unfold phi
  have e1 : phI (s.put j x) j = phA (some x) + (if s.K j = true then 0 else 1) := by
    unfold phI; rw [put_A]; rfl
  have e2 : phI s j = phA (s.A j) + (if s.K j = true then 0 else 1) := rfl
  omega
theorem phi_put_out (x : Bool × List Clo) (hr : ¬ hasB L.length r = true) : phi L (s.put r x) = phi L s := by
  unfold phi
  congr 1
  refine List.map_congr_left fun i hi => ?_
  unfold phI
  rw [put_other (fun e => hr (hasB_iff.2 ⟨by omega, by have := List.mem_range.1 hi; omega⟩))]
  rfl
theorem phi_know (hr : hasB L.length r = true) (hk : ¬ s.K r = true) : phi L (s.know r) + 1 = phi L s := by
  obtain ⟨h0, h1⟩ := hasB_iff.1 hr
  obtain ⟨j, rfl⟩ : ∃ j : Nat, r = j := ⟨r.toNat, by omega⟩
  have := sum_upd (f := phI (s.know j)) (g := phI s) (j := j) (fun i hi => by
    have e : (s.know j).K i = s.K i := by simp only [Sx.know]; rw [if_neg (by omega)]
    unfold phI; rw [e]; rfl) L.length (by omega)
  unfold phi
  have e1 : phI (s.know j) j = phA (s.A j) := by unfold phI Sx.know; simp
  have e2 : phI s j = phA (s.A j) + 1 := by unfold phI; rw [if_neg hk]
  omega
theorem phi_know_out (hr : ¬ hasB L.length r = true) : phi L (s.know r) = phi L s := by
  unfold phi
  congr 1
  refine List.map_congr_left fun i hi => ?_
  have e : (s.know r).K i = s.K i := by simp only [Sx.know]; rw [if_neg (fun e => hr (hasB_iff.2 ⟨by omega, by have := List.mem_range.1 hi; omega⟩))]
  unfold phI; rw [e]; rfl
theorem nd_out (hL : WF L) (hr : ¬ hasB L.length r = true) : nd L r = zN := by
  rcases Int.lt_or_le r 0 with h | h
  · have := nd_zero hL
    unfold nd at this ⊢
    rw [show r.toNat = (0 : Int).toNat by omega]; exact this
  · unfold nd
    rw [List.getD_eq_getElem?_getD, List.getElem?_eq_none (by
      rcases Nat.lt_or_ge r.toNat L.length with e | e
      · exact absurd (hasB_iff.2 ⟨h, by omega⟩) hr
      · exact e)]
    rfl
end
theorem sum_true (ws : List Clo) : (ws.map (wgC true)).sum = ws.length := by
  induction ws with
  | nil => rfl
  | cons c l ih => simp [wgC, ih]; omega
theorem sum_false (ws : List Clo) : (ws.map (wgC false)).sum = ws.length + (ws.map fun c => c.2.length).sum := by
  induction ws with
  | nil => rfl
  | cons c l ih => simp [wgC, ih]; omega

/-- All that a search speaks of is there. -/
def tOk (L : List Nd) : Thn → Prop
  | .reach r => hasB L.length r = true
  | .learn r => hasB L.length r = true
def cOk (L : List Nd) (c : Clo) : Prop := tOk L c.1 ∧ ∀ x ∈ c.2, hasB L.length x = true
def oOk (L : List Nd) : Op → Prop
  | .ask r => hasB L.length r = true
  | .compose r => hasB L.length r = true
  | .when_ t rs => cOk L (t, rs)
  | .thn t => tOk L t
  | .reach r => hasB L.length r = true
  | .learn r => hasB L.length r = true
structure Ok (L : List Nd) (s : Sx) : Prop where
  a : ∀ r, (s.A r).isSome = true → hasB L.length r = true
  k : ∀ r, s.K r = true → hasB L.length r = true
  w : ∀ r b ws, s.A r = some (b, ws) → ∀ c ∈ ws, cOk L c
theorem Ok.put {L : List Nd} {s : Sx} (h : Ok L s) {r : Int} (hr : hasB L.length r = true) {b : Bool} {ws : List Clo} (hw : ∀ c ∈ ws, cOk L c) : Ok L (s.put r (b, ws)) := by
  refine ⟨fun y hy => ?_, h.k, fun y b' ws' hy => ?_⟩
  · by_cases e : y = r
    · subst e; exact hr
    · rw [put_other e] at hy; exact h.a y hy
  · by_cases e : y = r
    · subst e; rw [put_A] at hy; injection hy with hy; injection hy with _ hy; subst hy; exact hw
    · rw [put_other e] at hy; exact h.w y b' ws' hy
theorem Ok.know {L : List Nd} {s : Sx} (h : Ok L s) {r : Int} (hr : hasB L.length r = true) : Ok L (s.know r) := by
  refine ⟨h.a, fun y hy => ?_, h.w⟩
  simp only [Sx.know] at hy
  split at hy
  · rename_i e; subst e; exact hr
  · exact h.k y hy
theorem Ok.ws {L : List Nd} {s : Sx} (h : Ok L s) (r : Int) : ∀ c ∈ s.ws r, cOk L c := by
  intro c hc
  unfold Sx.ws at hc
  split at hc
  · rename_i b l e; exact h.w r b l e c hc
  · simp at hc
/-- What an operation comes to. -/
structure Fine (L : List Nd) (k : Nat) (s s' : Sx) : Prop where
  ok : Ok L s'
  le : Le s s'
  ph : phi L s' ≤ phi L s + k
theorem Fine.same {L : List Nd} {k : Nat} {s : Sx} (h : Ok L s) : Fine L k s s := ⟨h, Le.refl s, Nat.le_add_right _ _⟩
theorem Fine.trans {L : List Nd} {j k : Nat} {s s1 s2 : Sx} (h : Fine L j s s1) (h' : Fine L k s1 s2) : Fine L (j + k) s s2 := ⟨h'.ok, h.le.trans h'.le, by have := h.ph; have := h'.ph; omega⟩
theorem Fine.mono {L : List Nd} {j k : Nat} {s s1 : Sx} (h : Fine L j s s1) (hk : j ≤ k) : Fine L k s s1 := ⟨h.ok, h.le, by have := h.ph; omega⟩
theorem Sx.wait_eq {s : Sx} {r : Int} {ws : List Clo} (h : s.A r = some (false, ws)) (c : Clo) : s.wait r c = s.put r (false, ws ++ [c]) := by
  unfold Sx.wait Sx.der Sx.ws; rw [h]
theorem fine_wait {L : List Nd} {s : Sx} (h : Ok L s) {r : Int} (ha : (s.A r).isSome = true) (hd : ¬ s.der r = true) {c : Clo} (hc : cOk L c) : Fine L (1 + c.2.length) s (s.wait r c) := by
  obtain ⟨ws, hw⟩ := der_false ha hd
  have hr := h.a r ha
  rw [Sx.wait_eq hw]
  refine ⟨h.put hr fun x hx => ?_, Le.put_old hw, ?_⟩
  · rcases List.mem_append.1 hx with e | e
    · exact h.w r _ _ hw x e
    · simp at e; subst e; exact hc
  · have := phi_put (L := L) (s := s) (false, ws ++ [c]) hr
    rw [hw] at this
    simp [phA, wgC] at this
    omega
section
variable {L : List Nd}
theorem fine_when {ask : Int → Sx → Sx → Prop} {fin : Sx → Sx → Prop} {t : Thn} (ht : tOk L t) (ha : ∀ r s s', Ok L s → hasB L.length r = true → ask r s s' → Fine L 0 s s' ∧ (s'.A r).isSome = true) (hf : ∀ s s', Ok L s → fin s s' → Fine L 0 s s') : ∀ (rs : List Int) (s s' : Sx), Ok L s → (∀ x ∈ rs, hasB L.length x = true) → whenR ask fin t rs s s' → Fine L rs.length s s'
  | [], s, s', ho, _, h => hf _ _ ho h
  | r :: rs, s, s', ho, hrs, ⟨s1, h1, h2⟩ => by
    obtain ⟨f1, ha1⟩ := ha _ _ _ ho (hrs r (by simp)) h1
    have hrs' : ∀ x ∈ rs, hasB L.length x = true := fun x hx => hrs x (by simp [hx])
    split at h2
    · exact (f1.trans (fine_when ht ha hf rs _ _ f1.ok hrs' h2)).mono (by simp)
    · rename_i hd
      subst h2
      exact (f1.trans (fine_wait f1.ok ha1 hd (c := (t, rs)) ⟨ht, hrs'⟩)).mono (by simp only [List.length_cons]; omega)
theorem fine_all {f : Clo → Sx → Sx → Prop} (hf : ∀ c s s', Ok L s → cOk L c → f c s s' → Fine L c.2.length s s') : ∀ (l : List Clo) (s s' : Sx), Ok L s → (∀ c ∈ l, cOk L c) → allR f l s s' → Fine L (l.map fun c => c.2.length).sum s s'
  | [], s, s', ho, _, h => by rw [show s' = s from h]; exact Fine.same ho
  | c :: l, s, s', ho, hl, ⟨s1, h1, h2⟩ => by
    have f1 := hf _ _ _ ho (hl c (by simp)) h1
    exact (f1.trans (fine_all hf l _ _ f1.ok (fun x hx => hl x (by simp [hx])) h2)).mono (by simp)
theorem fine_reach {s : Sx} {r : Int} {ws : List Clo} (ho : Ok L s) (e : s.A r = some (false, ws)) : Ok L (s.put r (true, ws)) ∧ Le s (s.put r (true, ws)) ∧ phi L (s.put r (true, ws)) + (ws.map fun c => c.2.length).sum = phi L s := by
  have hr := ho.a r (by rw [e]; rfl)
  refine ⟨ho.put hr (ho.w r _ _ e), Le.put_old e, ?_⟩
  have := phi_put (L := L) (s := s) (true, ws) hr
  rw [e] at this
  simp only [phA, sum_true, sum_false] at this
  omega
theorem fine_ask {s : Sx} {r : Int} (ho : Ok L s) (hr : hasB L.length r = true) (e : s.A r = none) (b : Bool) : Ok L (s.put r (b, [])) ∧ Le s (s.put r (b, [])) ∧ phi L (s.put r (b, [])) + 4 = phi L s := by
  refine ⟨ho.put hr (by simp), Le.put_new e, ?_⟩
  have := phi_put (L := L) (s := s) (b, []) hr
  rw [e] at this
  simpa [phA] using this
/-- No operation has more wait than it may; what was found stays. -/
theorem run_fine (hL : WF L) : ∀ (n : Nat) (o : Op) (s s' : Sx), Ok L s → oOk L o → Run L n o s s' → Fine L (slack o) s s' ∧ ∀ r, o = .ask r → (s'.A r).isSome = true
  | 0, _, _, _, _, _, h => h.elim
  | n + 1, .ask r, s, s', ho, hr, h => by
    have hr : hasB L.length r = true := hr
    unfold Run at h
    simp only [slack]
    split at h
    · rename_i e
      subst h
      exact ⟨Fine.same ho, fun y hy => by injection hy with hy; subst hy; rw [e]; rfl⟩
    · rename_i e
      split at h
      · obtain ⟨f1, f2, f3⟩ := fine_ask ho hr e true
        subst h
        exact ⟨⟨f1, f2, by omega⟩, fun y hy => by injection hy with hy; subst hy; rw [put_A]; rfl⟩
      · obtain ⟨f1, f2, f3⟩ := fine_ask ho hr e false
        obtain ⟨g, _⟩ := run_fine hL n (.compose r) _ _ f1 hr h
        refine ⟨⟨g.ok, f2.trans g.le, by have := g.ph; simp only [slack] at this; omega⟩, fun y hy => by injection hy with hy; subst hy; exact g.le.a _ (by rw [put_A]; rfl)⟩
  | n + 1, .compose r, s, s', ho, hr, h => by
    have hr : hasB L.length r = true := hr
    obtain ⟨pa, pb, pc⟩ := nd_has hL hr
    unfold Run at h
    simp only [slack]
    refine ⟨?_, fun _ e => by cases e⟩
    split at h
    · exact (run_fine hL n (.reach r) _ _ ho hr h).1.mono (by simp [slack])
    · split at h
      · split at h
        · exact (run_fine hL n (.reach r) _ _ ho hr h).1.mono (by simp [slack])
        · rw [h]; exact Fine.same ho
      · split at h
        · obtain ⟨s1, h1, h2⟩ := h
          have f1 := (run_fine hL n (.when_ (.reach r) [(nd L r).a, pubR L (nd L r).b]) _ _ ho ⟨hr, by simpa using ⟨pa, pubR_has pb⟩⟩ h1).1
          have f2 := (run_fine hL n (.when_ (.reach r) [(nd L r).b, pubR L (nd L r).a]) _ _ f1.ok ⟨hr, by simpa using ⟨pb, pubR_has pa⟩⟩ h2).1
          exact (f1.trans f2).mono (by simp [slack])
        · exact (run_fine hL n (.when_ (.reach r) [(nd L r).a, (nd L r).b, (nd L r).c]) _ _ ho ⟨hr, by simpa using ⟨pa, pb, pc⟩⟩ h).1.mono (by simp [slack])
  | n + 1, .when_ t rs, s, s', ho, hr, h => by
    unfold Run at h
    exact ⟨fine_when hr.1 (fun r s s' ho hr h => by have := run_fine hL n (.ask r) _ _ ho hr h; exact ⟨this.1, this.2 r rfl⟩) (fun s s' ho h => (run_fine hL n (.thn t) _ _ ho hr.1 h).1) rs s s' ho hr.2 h, fun _ e => by cases e⟩
  | n + 1, .thn (.reach r), s, s', ho, hr, h => by unfold Run at h; exact ⟨(run_fine hL n (.reach r) _ _ ho hr h).1, fun _ e => by cases e⟩
  | n + 1, .thn (.learn r), s, s', ho, hr, h => by unfold Run at h; exact ⟨(run_fine hL n (.learn r) _ _ ho hr h).1, fun _ e => by cases e⟩
  | n + 1, .reach r, s, s', ho, hr, h => by
    unfold Run at h
    simp only [slack]
    refine ⟨?_, fun _ e => by cases e⟩
    split at h
    · exact h.elim
    · rw [h]; exact Fine.same ho
    · rename_i ws e
      obtain ⟨f1, f2, f3⟩ := fine_reach ho e
      have g := fine_all (fun c s s' ho hc h => (run_fine hL n (.when_ c.1 c.2) _ _ ho hc h).1) _ _ _ f1 (ho.w r _ _ e) h
      exact ⟨g.ok, f2.trans g.le, by have := g.ph; omega⟩
  | n + 1, .learn r, s, s', ho, hr, h => by
    have hr : hasB L.length r = true := hr
    obtain ⟨pa, pb, pc⟩ := nd_has hL hr
    unfold Run at h
    simp only [slack]
    refine ⟨?_, fun _ e => by cases e⟩
    split at h
    · rw [h]; exact Fine.same ho
    · rename_i hk
      obtain ⟨s1, s2, h1, h2, h3⟩ := h
      have e0 := phi_know (L := L) hr hk
      have f1 := (run_fine hL n (.ask r) _ _ (ho.know hr) hr h1).1
      have f2 := (run_fine hL n (.reach r) _ _ f1.ok hr h2).1
      have key : ∀ {j : Nat} {s3 : Sx}, Fine L j s2 s3 → j ≤ 1 → Fine L 0 s s3 := fun f hj => by
        have g := (f1.trans f2).trans f
        exact ⟨g.ok, (Le.know s r).trans g.le, by have := g.ph; simp only [slack] at this; omega⟩
      split at h3
      · obtain ⟨s3, h4, h5⟩ := h3
        have f4 := (run_fine hL n (.learn (nd L r).a) _ _ f2.ok pa h4).1
        have f5 := (run_fine hL n (.learn (nd L r).b) _ _ f4.ok pb h5).1
        exact key (f4.trans f5) (by simp [slack])
      · split at h3
        · exact key (run_fine hL n (.when_ (.learn (nd L r).c) [(nd L r).a]) _ _ f2.ok ⟨pc, by simpa using pa⟩ h3).1 (by simp [slack])
        · exact key (j := 0) (by rw [h3]; exact Fine.same f2.ok) (by omega)
end
theorem phi_s0 (L : List Nd) (K : Int → Bool) : phi L (s0 K) ≤ 5 * L.length := by
  have : ∀ l : List Nat, (l.map (phI (s0 K))).sum ≤ 5 * l.length := by
    intro l
    induction l with
    | nil => simp
    | cons i l ih =>
      have : phI (s0 K) i ≤ 5 := by unfold phI s0; simp only [phA]; split <;> omega
      simp only [List.map_cons, List.sum_cons, List.length_cons]; omega
  have := this (List.range L.length)
  rw [List.length_range] at this
  exact this
theorem phA_ws {s : Sx} {r : Int} {b : Bool} {ws : List Clo} (e : s.A r = some (b, ws)) : ws.length ≤ phA (s.A r) := by
  rw [e]
  cases b
  · simp only [phA, sum_false]; omega
  · simp only [phA, sum_true]; omega
theorem phi_ws {L : List Nd} {s : Sx} {r : Int} {b : Bool} {ws : List Clo} (hr : hasB L.length r = true) (e : s.A r = some (b, ws)) : ws.length ≤ phi L s := by
  have h1 := phA_ws e
  have := phi_put (L := L) (s := s) (true, []) hr
  have e2 : phA (some ((true, []) : Bool × List Clo)) = 0 := rfl
  omega
end Go.Proofs.YtlckajnbmkkpeaaDoor
