/- Layer 3 in plain mathematics: what can be made of what is known, and what is known when more is learned. No program is named. -/
import Derived.Test.YtljjpcbldfhffaaDoorPa
namespace Go.Proofs.YtljjpcbldfhffaaDoor

/-- What can be made of what is known. -/
inductive Can (L : List Nd) (K : Int → Prop) : Int → Prop
  | known {r : Int} (h : hasB L.length r = true) (hk : K r) : Can L K r
  | free {r : Int} (h : hasB L.length r = true) (hk : (nd L r).k = 0 ∨ (nd L r).k = 9) : Can L K r
  | own {r : Int} (h : hasB L.length r = true) (hk : (nd L r).k = 1) (hn : 4294967296 ≤ (nd L r).n) : Can L K r
  | dh {r : Int} (h : hasB L.length r = true) (hk : (nd L r).k = 3) (ha : Can L K (nd L r).a) (hb : Can L K (nd L r).b) : Can L K r
  | dhA {r p : Int} (h : hasB L.length r = true) (hk : (nd L r).k = 3) (ha : Can L K (nd L r).a) (hp : hasB L.length p = true) (hpk : K p) (hpn : nd L p = ⟨2, 0, (nd L r).b, 0, 0⟩) : Can L K r
  | dhB {r p : Int} (h : hasB L.length r = true) (hk : (nd L r).k = 3) (hb : Can L K (nd L r).b) (hp : hasB L.length p = true) (hpk : K p) (hpn : nd L p = ⟨2, 0, (nd L r).a, 0, 0⟩) : Can L K r
  | parts {r : Int} (h : hasB L.length r = true) (h0 : (nd L r).k ≠ 0) (h1 : (nd L r).k ≠ 1) (h3 : (nd L r).k ≠ 3) (h9 : (nd L r).k ≠ 9) (ha : Can L K (nd L r).a) (hb : Can L K (nd L r).b) (hc : Can L K (nd L r).c) : Can L K r

theorem Can.mono {L : List Nd} {K K' : Int → Prop} (hK : ∀ x, K x → K' x) {r : Int} (h : Can L K r) : Can L K' r := by
  induction h with
  | known h hk => exact .known h (hK _ hk)
  | free h hk => exact .free h hk
  | own h hk hn => exact .own h hk hn
  | dh h hk _ _ ha hb => exact .dh h hk ha hb
  | dhA h hk _ hp hpk hpn ha => exact .dhA h hk ha hp (hK _ hpk) hpn
  | dhB h hk _ hp hpk hpn hb => exact .dhB h hk hb hp (hK _ hpk) hpn
  | parts h h0 h1 h3 h9 _ _ _ ha hb hc => exact .parts h h0 h1 h3 h9 ha hb hc
theorem Can.has {L : List Nd} {K : Int → Prop} {r : Int} (h : Can L K r) : hasB L.length r = true := by cases h <;> assumption

/-- Nothing more can be taken out of it. -/
def Shut (L : List Nd) (S : Int → Prop) : Prop := ∀ r, hasB L.length r = true → S r → ((nd L r).k = 8 → S (nd L r).a ∧ S (nd L r).b) ∧ ((nd L r).k = 7 → Can L S (nd L r).a → S (nd L r).c)
/-- What is known, with all that can be taken out of it. -/
def cl (L : List Nd) (K : Int → Prop) (r : Int) : Prop := ∀ S, Shut L S → (∀ x, K x → S x) → S r
theorem cl_in {L : List Nd} {K : Int → Prop} {r : Int} (h : K r) : cl L K r := fun _ _ hK => hK _ h
theorem cl_shut (L : List Nd) (K : Int → Prop) : Shut L (cl L K) := fun r hr h =>
  ⟨fun hk => ⟨fun S hS hK => ((hS r hr (h S hS hK)).1 hk).1, fun S hS hK => ((hS r hr (h S hS hK)).1 hk).2⟩,
   fun hk hc S hS hK => (hS r hr (h S hS hK)).2 hk (hc.mono fun _ hx => hx S hS hK)⟩
theorem cl_least {L : List Nd} {K S : Int → Prop} (hS : Shut L S) (hK : ∀ x, K x → S x) {r : Int} (h : cl L K r) : S r := h S hS hK
theorem cl_mono {L : List Nd} {K K' : Int → Prop} (hK : ∀ x, K x → K' x) {r : Int} (h : cl L K r) : cl L K' r := fun S hS h' => h S hS fun x hx => h' x (hK x hx)
/-- What is known behind a row of refs that are learned. -/
def lrn (L : List Nd) (refs : List Int) : Int → Prop := cl L fun x => x ∈ refs ∧ hasB L.length x = true
theorem lrn_nil (L : List Nd) (r : Int) : ¬ lrn L [] r := fun h => h (fun _ => False) (fun _ _ h => h.elim) (fun x hx => by simp at hx)
theorem lrn_snoc {L : List Nd} {refs : List Int} {x : Int} (hx : hasB L.length x = true) (r : Int) : lrn L (refs ++ [x]) r ↔ cl L (fun y => lrn L refs y ∨ y = x) r := by
  constructor
  · exact fun h => cl_least (cl_shut _ _) (fun y hy => cl_in (by
      rcases List.mem_append.1 hy.1 with e | e
      · exact .inl (cl_in ⟨e, hy.2⟩)
      · exact .inr (by simpa using e))) h
  · exact fun h => cl_least (cl_shut _ _) (fun y hy => by
      rcases hy with hy | rfl
      · exact cl_mono (fun z hz => ⟨List.mem_append_left _ hz.1, hz.2⟩) hy
      · exact cl_in ⟨by simp, hx⟩) h
theorem lrn_skip {L : List Nd} {refs : List Int} {x : Int} (hx : hasB L.length x = false) (r : Int) : lrn L (refs ++ [x]) r ↔ lrn L refs r := by
  constructor
  · exact fun h => cl_mono (fun y hy => by
      rcases List.mem_append.1 hy.1 with e | e
      · exact ⟨e, hy.2⟩
      · simp at e; subst e; simp [hx] at hy) h
  · exact fun h => cl_mono (fun y hy => ⟨List.mem_append_left _ hy.1, hy.2⟩) h
theorem has_shut (L : List Nd) (h : WF L) : Shut L (fun x => hasB L.length x = true) := fun r hr _ => by
  obtain ⟨h0, h1⟩ := hasB_iff.1 hr
  have hp := partsOk_held h.pos (right_iff.1 (h.good r.toNat (by omega))).2.1
  rw [show L.getD r.toNat zN = nd L r from rfl] at hp
  exact ⟨fun _ => ⟨hasB_iff.2 hp.1, hasB_iff.2 hp.2.1⟩, fun _ _ => hasB_iff.2 hp.2.2⟩
theorem lrn_has {L : List Nd} (h : WF L) {refs : List Int} {r : Int} (hr : lrn L refs r) : hasB L.length r = true := cl_least (has_shut L h) (fun _ hx => hx.2) hr

section
variable {L : List Nd} (h : WF L) {r : Int} (hr : hasB L.length r = true)
include h hr
theorem nd_good : 0 ≤ many (nd L r).k ∧ partsOk L.length (nd L r) = true ∧ numOk (nd L r) = true := by
  obtain ⟨h0, h1⟩ := hasB_iff.1 hr
  have := right_iff.1 (h.good r.toNat (by omega))
  exact ⟨this.1, this.2.1, this.2.2.1⟩
theorem nd_has : hasB L.length (nd L r).a = true ∧ hasB L.length (nd L r).b = true ∧ hasB L.length (nd L r).c = true := by
  have hp := partsOk_held h.pos (nd_good h hr).2.1
  exact ⟨hasB_iff.2 hp.1, hasB_iff.2 hp.2.1, hasB_iff.2 hp.2.2⟩
theorem nd_pub (hk : (nd L r).k = 2) : nd L r = ⟨2, 0, (nd L r).a, 0, 0⟩ := by
  obtain ⟨_, h2, h3⟩ := nd_good h hr
  unfold partsOk partOk at h2
  unfold numOk at h3
  rw [hk] at h2 h3
  simp [many] at h2 h3
  exact Nd.ext5 hk h3 rfl h2.2.1 h2.2.2
end
theorem has_zero {L : List Nd} (h : WF L) : hasB L.length 0 = true := hasB_iff.2 ⟨by omega, by have := h.pos; omega⟩
theorem nd_zero {L : List Nd} (h : WF L) : nd L 0 = zN := by
  have := h.toWFp.head
  unfold nd; simp [List.getD, this]
theorem can_zero {L : List Nd} (h : WF L) (K : Int → Prop) : Can L K 0 := .free (has_zero h) (.inl (by rw [nd_zero h]; rfl))

/-- The ref that is derivable if the Pub of a secret is public. -/
def pubR (L : List Nd) (x : Int) : Int := match ix ⟨2, 0, x, 0, 0⟩ L with
  | some i => (i : Int)
  | none => x
theorem pubR_cases (L : List Nd) (x : Int) : (pubR L x = x ∧ ∀ p, hasB L.length p = true → nd L p ≠ ⟨2, 0, x, 0, 0⟩) ∨ (hasB L.length (pubR L x) = true ∧ nd L (pubR L x) = ⟨2, 0, x, 0, 0⟩) := by
  unfold pubR
  cases hx : ix ⟨2, 0, x, 0, 0⟩ L with
  | none => exact .inl ⟨rfl, fun p hp => ix_none hx p.toNat (by have := hasB_iff.1 hp; omega)⟩
  | some i => exact .inr ⟨hasB_iff.2 ⟨by simp, by have := (ix_some hx).1; simpa using this⟩, by simpa [nd] using (ix_some hx).2.1⟩
theorem pubR_has {L : List Nd} {x : Int} (hx : hasB L.length x = true) : hasB L.length (pubR L x) = true := by
  rcases pubR_cases L x with h | h
  · rw [h.1]; exact hx
  · exact h.1
theorem pubR_at {L : List Nd} (h : WF L) {x p : Int} (hp : hasB L.length p = true) (hn : nd L p = ⟨2, 0, x, 0, 0⟩) : pubR L x = p := by
  rcases pubR_cases L x with e | e
  · exact absurd hn (e.2 p hp)
  · have h1 := hasB_iff.1 hp
    have h2 := hasB_iff.1 e.1
    have := h.nodup p.toNat (pubR L x).toNat (by omega) (by omega) (by show nd L p = nd L (pubR L x); rw [hn, e.2])
    omega
theorem can_pub {L : List Nd} (_h : WF L) {K : Int → Prop} {p x : Int} (hn : nd L p = ⟨2, 0, x, 0, 0⟩) (hc : Can L K p) : K p ∨ Can L K x := by
  cases hc with
  | known _ hk => exact .inl hk
  | free _ hk => rw [hn] at hk; simp at hk
  | own _ hk => rw [hn] at hk; simp at hk
  | dh _ hk => rw [hn] at hk; simp at hk
  | dhA _ hk => rw [hn] at hk; simp at hk
  | dhB _ hk => rw [hn] at hk; simp at hk
  | parts _ _ _ _ _ ha => rw [hn] at ha; exact .inr ha
theorem can_dhA {L : List Nd} (h : WF L) {K : Int → Prop} {r : Int} (hr : hasB L.length r = true) (hk : (nd L r).k = 3) (ha : Can L K (nd L r).a) (hb : Can L K (pubR L (nd L r).b)) : Can L K r := by
  rcases pubR_cases L (nd L r).b with e | e
  · rw [e.1] at hb; exact .dh hr hk ha hb
  · rcases can_pub h e.2 hb with e' | e'
    · exact .dhA hr hk ha e.1 e' e.2
    · exact .dh hr hk ha e'
theorem can_dhB {L : List Nd} (h : WF L) {K : Int → Prop} {r : Int} (hr : hasB L.length r = true) (hk : (nd L r).k = 3) (ha : Can L K (nd L r).b) (hb : Can L K (pubR L (nd L r).a)) : Can L K r := by
  rcases pubR_cases L (nd L r).a with e | e
  · rw [e.1] at hb; exact .dh hr hk hb ha
  · rcases can_pub h e.2 hb with e' | e'
    · exact .dhB hr hk ha e.1 e' e.2
    · exact .dh hr hk e' ha
end Go.Proofs.YtljjpcbldfhffaaDoor
