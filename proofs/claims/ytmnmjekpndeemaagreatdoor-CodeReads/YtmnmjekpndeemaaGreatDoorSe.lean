/- Layer 2 in plain mathematics: what is written of a term is read in its own arena as it, and in another one that has space as a term whose text it is. -/
import Derived.Test.YtmnmjekpndeemaaGreatDoorSd
namespace Go.Proofs.YtmnmjekpndeemaaGreatDoor

theorem put_zero {L M : List Nd} {f : Int → Option Int} (hL : WF L) (hM : WF M) (h0 : fz f 0 = 0) (i lim : Nat) : fz (put1 f i (mkR lim M (cnode L f i))) 0 = 0 := by
  rw [fz_put]
  split
  · rename_i e
    have hi0 : i = 0 := by omega
    subst hi0
    have hz : cnode L f (0 : Nat) = zN := by
      have hnd : nd L ((0 : Nat) : Int) = zN := by
        have := hL.toWFp.head
        unfold nd; simp [List.getD, this]
      unfold cnode
      rw [hnd]
      unfold zN fz at *
      simp only
      rw [h0]
    rw [hz]
    have hix : ix zN M = some 0 := by
      have h2 := hM.ix_at (i := 0) hM.toWFp.pos
      have : M.getD 0 zN = zN := by simp [List.getD, hM.toWFp.head]
      rw [this] at h2; exact h2
    rw [(mk_had (lim := lim) hM hix).2.1]; rfl
  · exact h0

/-- Where there is space it is carried over. -/
theorem car_ok {lim : Nat} {own : List Nd} (hw : WF own) (hm : lim ≤ 65536) : ∀ (t D : List Int) (M : List Nd) (f : Int → Option Int), Iso own M D (fz f) → fz f 0 = 0 → (∀ y x, f y = some x → 0 ≤ x ∧ x ≤ 65536) → WF M → M.length + t.length ≤ lim → Ord own (D ++ t) → Acc own (D ++ t) → (car lim own t M f).2.2 = 0 ∧ (car lim own t M f).1.length ≤ M.length + t.length
  | [], D, M, f, _, _, _, _, _, _, _ => ⟨rfl, by simp [car]⟩
  | x :: t, D, M, f, h, h0, hf, hM, hl, ho, ha => by
    have hxa := ha.has x (by simp)
    have hx' := hasB_iff.1 hxa
    obtain ⟨i, rfl⟩ : ∃ i : Nat, x = i := ⟨x.toNat, by omega⟩
    simp only [List.length_cons] at hl
    have hok := cnode_ok hw hf (x := i) (by omega)
    have hp : ∀ p ∈ prt (nd own i), p ∈ D := fun p hp => by
      have h1 := ho D.length (by simp) p (by rw [List.getElem_append_right (by omega)]; simpa using hp)
      rwa [List.take_left' rfl] at h1
    have hE := mk_room (lim := lim) (h.right hw hM h0 hxa hp) (by omega)
    obtain ⟨_, j, hj1, hj2, hj3, hj4, _, hj6⟩ := mk_at hM hok hE
    have hxD : (i : Int) ∉ D := by
      have := ha.nodup
      rw [List.nodup_append] at this
      exact fun hx => this.2.2 _ hx _ (by simp) rfl
    have h2 := h.snoc (M' := mkL lim M (cnode own f i)) hw hxa hxD hp (r := mkR lim M (cnode own f i)) (by rw [hj1]; exact hasB_iff.2 ⟨by omega, by omega⟩) (by rw [hj1]; exact hj3) hj6
    have hl2 := mk_len (lim := lim) (d := cnode own f i) (L := M) (by omega)
    have e : D ++ (i : Int) :: t = (D ++ [(i : Int)]) ++ t := by simp
    rw [e] at ho ha
    have k := car_ok hw hm t (D ++ [(i : Int)]) _ _ h2 (put_zero hw hM h0 i lim) (by
      intro y z hz
      unfold put1 at hz
      split at hz
      · obtain rfl := Option.some.inj hz; exact mkR_ok hM hok (by omega) hm
      · exact hf y z hz) (mk_wf hM hok) (by omega) ho ha
    unfold car
    rw [if_pos hE]
    exact ⟨k.1, by simp only [List.length_cons]; omega⟩
theorem carry_ok {lim : Nat} {M own : List Nd} {ref : Int} (hw : WF own) (hM : WF M) (hm : lim ≤ 65536) (hl : M.length + (rows own ref).length ≤ lim) : (carry lim M own ref).2.2 = 0 ∧ (carry lim M own ref).1.length ≤ M.length + (rows own ref).length :=
  car_ok hw hm (rows own ref) [] M f0 ⟨by simp, by simp, by simp, by simp⟩ rfl f0_rng hM hl (rows_ord hw ref) (rows_acc hw ref)

/-- More terms change no text. -/
theorem txt_ext {L N : List Nd} (hL : WF L) (hN : WF (L ++ N)) {x : Int} (hx : hasB L.length x = true) : txt (L ++ N) x = txt L x := by
  have h : Iso L (L ++ N) (rows L x) id := by
    have hR := rows_acc hL x
    refine ⟨fun y hy => ⟨hR.has y hy, ?_⟩, fun y _ z _ e => e, fun y hy p hp => (rows_ord hL x).closed hy hp, fun y hy => ?_⟩
    · have := hasB_iff.1 (hR.has y hy)
      exact hasB_iff.2 ⟨this.1, by simp; omega⟩
    · have := hasB_iff.1 (hR.has y hy)
      rw [id, nd_append this.1 this.2]
      simp
  exact h.txtE hL hN (rows_self hx)

theorem rd_back {L M : List Nd} (hL : WF L) (hM : WF M) (h1 : L.length ≤ 41) (h2 : M.length ≤ 41) {lim : Nat} (hl : 100 ≤ lim) (hm : lim ≤ 65536) {x : Int} (hx : hasB L.length x = true) (ht : (txt L x).length ≤ 16384) :
    rdE lim M (txt L x) = 0 ∧ txt (rdL lim M (txt L x)) (rdR lim M (txt L x)) = txt L x ∧ hasB (rdL lim M (txt L x)).length (rdR lim M (txt L x)) = true ∧ WF (rdL lim M (txt L x)) ∧ (rdL lim M (txt L x)).length ≤ 100 ∧ ∃ N, rdL lim M (txt L x) = M ++ N := by
  obtain ⟨own, ref, f, hp, hw, hi, hf⟩ := pars_txt hL (by omega) hx ht
  have hs := rows_self hx
  have hr : hasB own.length ref = true := by rw [← hf]; exact (hi.has x hs).2
  have hrl : (rows own ref).length = (rows L x).length := by rw [← hf, hi.rowsE hL hw hs]; simp
  have hRl := (rows_acc hL x).len
  obtain ⟨he, hln⟩ := carry_ok (lim := lim) (ref := ref) hw hM hm (by omega)
  obtain ⟨t1, t2, t3⟩ := carry_txt hw hr hM (by omega) hm he
  obtain ⟨_, _, hN⟩ := carry_iso hw hr hM (by omega) hm he
  have eL : rdL lim M (txt L x) = (carry lim M own ref).1 := by unfold rdL; rw [hp]; simp only; rw [if_pos he]
  have eR : rdR lim M (txt L x) = ((carry lim M own ref).2.1 ref).getD 0 := by unfold rdR; rw [hp]; simp only; rw [if_pos he]
  have eE : rdE lim M (txt L x) = (carry lim M own ref).2.2 := by unfold rdE; rw [hp]
  rw [eL, eR, eE]
  exact ⟨he, t1.trans (pars_ok hp).2.2.1, t2, t3, by omega, hN⟩
theorem rd_own {L : List Nd} (hL : WF L) (h1 : L.length ≤ 41) {x : Int} (hx : hasB L.length x = true) (ht : (txt L x).length ≤ 16384) : rdE 100 L (txt L x) = 0 ∧ rdR 100 L (txt L x) = x := by
  obtain ⟨k1, k2, k3, k4, k5, N, k6⟩ := rd_back hL hL h1 h1 (lim := 100) (Nat.le_refl _) (by omega) hx ht
  refine ⟨k1, ?_⟩
  have hx' : hasB (rdL 100 L (txt L x)).length x = true := by
    have := hasB_iff.1 hx
    rw [k6]; exact hasB_iff.2 ⟨this.1, by simp; omega⟩
  have e := txt_ext (N := N) hL (by rw [← k6]; exact k4) hx
  rw [← k6] at e
  exact txt_inj k4 (by omega) k3 hx' (by rw [k2]; exact ht) (k2.trans e.symm)
theorem pars_nil : pars [] = none := by decide
theorem rd_nil (lim : Nat) (M : List Nd) : rdE lim M [] = 2 ∧ rdL lim M [] = M ∧ rdR lim M [] = 0 := by
  unfold rdE rdL rdR
  rw [pars_nil]; exact ⟨rfl, rfl, rfl⟩
end Go.Proofs.YtmnmjekpndeemaaGreatDoor
