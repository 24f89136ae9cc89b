/- Layer 2 in plain mathematics: a text that is a term's is not read only where an arena is full. No program is named. -/
import Derived.Test.YtmnmjekpndeemaaGreatDoorUc
namespace Go.Proofs.YtmnmjekpndeemaaGreatDoor

theorem mk_three {lim : Nat} {L : List Nd} {d : Nd} (hr : right L d = true) : mkE lim L d = 0 ∨ mkE lim L d = 3 := by
  unfold mkE
  rw [if_pos hr]
  split
  · exact .inl rfl
  · split
    · exact .inr rfl
    · exact .inl rfl
theorem car_full {lim : Nat} {own : List Nd} (hw : WF own) (hm : lim ≤ 65536) : ∀ (t D : List Int) (M : List Nd) (f : Int → Option Int), Iso own M D (fz f) → fz f 0 = 0 → (∀ y x, f y = some x → 0 ≤ x ∧ x ≤ 65536) → WF M → M.length ≤ lim → Ord own (D ++ t) → Acc own (D ++ t) → (car lim own t M f).2.2 = 0 ∨ (car lim own t M f).2.2 = 3
  | [], D, M, f, _, _, _, _, _, _, _ => .inl rfl
  | x :: t, D, M, f, h, h0, hf, hM, hl, ho, ha => by
    have hxa := ha.has x (by simp)
    have hx' := hasB_iff.1 hxa
    obtain ⟨i, rfl⟩ : ∃ i : Nat, x = i := ⟨x.toNat, by omega⟩
    have hok := cnode_ok hw hf (x := i) (by omega)
    have hp : ∀ p ∈ prt (nd own i), p ∈ D := fun p hp => by
      have h1 := ho D.length (by simp) p (by rw [List.getElem_append_right (by omega)]; simpa using hp)
      rwa [List.take_left' rfl] at h1
    have hr := h.right hw hM h0 hxa hp
    unfold car
    by_cases hE : mkE lim M (cnode own f i) = 0
    · rw [if_pos hE]
      obtain ⟨_, j, hj1, hj2, hj3, hj4, _, hj6⟩ := mk_at hM hok hE
      have hxD : (i : Int) ∉ D := by
        have := ha.nodup
        rw [List.nodup_append] at this
        exact fun hx => this.2.2 _ hx _ (by simp) rfl
      have h2 := h.snoc (M' := mkL lim M (cnode own f i)) hw hxa hxD hp (r := mkR lim M (cnode own f i)) (by rw [hj1]; exact hasB_iff.2 ⟨by omega, by omega⟩) (by rw [hj1]; exact hj3) hj6
      have hl2 := mk_len (lim := lim) (d := cnode own f i) (L := M) hl
      have e : D ++ (i : Int) :: t = (D ++ [(i : Int)]) ++ t := by simp
      rw [e] at ho ha
      exact car_full hw hm t (D ++ [(i : Int)]) _ _ h2 (put_zero hw hM h0 i lim) (by
        intro y z hz
        unfold put1 at hz
        split at hz
        · obtain rfl := Option.some.inj hz; exact mkR_ok hM hok hl hm
        · exact hf y z hz) (mk_wf hM hok) hl2.2.1 ho ha
    · rw [if_neg hE]
      exact mk_three hr
theorem carry_full {lim : Nat} {M own : List Nd} {ref : Int} (hw : WF own) (hM : WF M) (hl : M.length ≤ lim) (hm : lim ≤ 65536) : (carry lim M own ref).2.2 = 0 ∨ (carry lim M own ref).2.2 = 3 :=
  car_full hw hm (rows own ref) [] M f0 ⟨by simp, by simp, by simp, by simp⟩ rfl f0_rng hM hl (rows_ord hw ref) (rows_acc hw ref)

/-- What the law of reading compares. -/
theorem reads_form' {lim : Nat} {M : List Nd} {s : List UInt8} (hs : s.length ≤ 16384) (h : rrd 65536 [zN] s = none) : rdE lim M s = 2 ∧ rdL lim M s = M ∧ rdR lim M s = 0 := by
  rw [rrd_own hs] at h
  unfold rdE rdL rdR
  rw [h]
  exact ⟨rfl, rfl, rfl⟩
theorem reads_long' {lim : Nat} {M : List Nd} {s : List UInt8} (hs : 16384 < s.length) : rdE lim M s = 2 ∧ rdL lim M s = M ∧ rdR lim M s = 0 := by
  have h : pars s = none := by unfold pars; rw [if_pos hs]
  unfold rdE rdL rdR
  rw [h]
  exact ⟨rfl, rfl, rfl⟩
theorem reads_full' {lim : Nat} {M : List Nd} (hM : WF M) (hl : M.length ≤ lim) (hm : lim ≤ 65536) {s : List UInt8} (hs : s.length ≤ 16384) {r : List Nd × Int} (h : rrd 65536 [zN] s = some r) (h' : rrd lim M s = none) : rdE lim M s = 3 ∧ rdL lim M s = M ∧ rdR lim M s = 0 := by
  rw [rrd_own hs] at h
  obtain ⟨own, ref⟩ := r
  obtain ⟨k1, _⟩ := rrd_rd hM hl hm h
  have hne : rdE lim M s ≠ 0 := fun e => by rw [k1 e] at h'; cases h'
  obtain ⟨hw, _, _, _⟩ := pars_ok h
  have eE : rdE lim M s = (carry lim M own ref).2.2 := by unfold rdE; rw [h]
  have hne' : (carry lim M own ref).2.2 ≠ 0 := by rw [← eE]; exact hne
  refine ⟨?_, ?_, ?_⟩
  · rw [eE]
    rcases carry_full (ref := ref) hw hM hl hm with e | e
    · exact absurd e hne'
    · exact e
  · unfold rdL; rw [h]; simp only; rw [if_neg hne']
  · unfold rdR; rw [h]; simp only; rw [if_neg hne']
theorem reads_room' {lim : Nat} {M : List Nd} (hM : WF M) (hl : M.length ≤ lim) (hm : lim ≤ 65536) {s : List UInt8} (hs : s.length ≤ 16384) {r r' : List Nd × Int} (h : rrd 65536 [zN] s = some r) (h' : rrd lim M s = some r') : rdE lim M s = 0 ∧ rdL lim M s = r'.1 ∧ rdR lim M s = r'.2 := by
  rw [rrd_own hs] at h
  obtain ⟨own, ref⟩ := r
  obtain ⟨k1, k2⟩ := rrd_rd hM hl hm h
  by_cases e : rdE lim M s = 0
  · rw [k1 e] at h'
    obtain rfl := Option.some.inj h'
    exact ⟨e, rfl, rfl⟩
  · rw [k2 e] at h'; cases h'
end Go.Proofs.YtmnmjekpndeemaaGreatDoor
