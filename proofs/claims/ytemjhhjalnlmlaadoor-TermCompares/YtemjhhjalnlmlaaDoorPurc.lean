/- The plain mathematics of arenas, continued: what is made stands there; sharing again, and the other way round. -/
import Derived.Test.YtemjhhjalnlmlaaDoorPurb
namespace Go.Proofs.YtemjhhjalnlmlaaDoor

theorem ix_append {d : Nd} {L M : List Nd} {i : Nat} (h : ix d L = some i) : ix d (L ++ M) = some i := by
  obtain ⟨h1, h2, h3⟩ := ix_some h
  have g : ∀ j, j < L.length → (L ++ M).getD j zN = L.getD j zN := fun j hj => by
    rw [List.getD_eq_getElem?_getD, List.getD_eq_getElem?_getD, List.getElem?_append_left hj]
  exact ix_of (by simp; omega) (by rw [g i h1]; exact h2) (fun j hj => by rw [g j (by omega)]; exact h3 j hj)

/-- What is made without an error stands in the arena. -/
theorem mk_at {lim : Nat} {L : List Nd} {d : Nd} (h : WF L) (hok : d.ok) (he : mkE lim L d = 0) :
    right L d = true ∧ ∃ i : Nat, mkR lim L d = i ∧ i < (mkL lim L d).length ∧ (mkL lim L d).getD i zN = d ∧ ix d (mkL lim L d) = some i ∧ right (mkL lim L d) d = true ∧ (∃ M, mkL lim L d = L ++ M) := by
  cases hr : right L d
  · rw [(mk_wrong hr).2.2] at he; exact absurd he (by decide)
  · refine ⟨rfl, ?_⟩
    cases hi : ix d L with
    | some i =>
      rw [(mk_old hr hi).1, (mk_old hr hi).2.1]
      exact ⟨i, rfl, (ix_some hi).1, (ix_some hi).2.1, hi, hr, [], by simp⟩
    | none =>
      by_cases hl : lim ≤ L.length
      · rw [(mk_full hr hi hl).2.2] at he; exact absurd he (by decide)
      · have hm := mk_new hr hi (show L.length < lim by omega)
        have hwf := h.snoc hok hr hi
        rw [hm.1, hm.2.1]
        refine ⟨L.length, rfl, by simp, getD_snoc_new L d, ?_, right_append h.toWFp hwf.toWFp hr, [d], rfl⟩
        have := hwf.ix_at (i := L.length) (by simp)
        rw [getD_snoc_new] at this
        exact this
theorem mk_err {lim : Nat} {L : List Nd} {d : Nd} (h : WF L) (he : mkE lim L d ≠ 0) : mkL lim L d = L ∧ ix d L = none := by
  cases hr : right L d
  · refine ⟨(mk_wrong hr).1, ix_no fun j hj e => ?_⟩
    have := h.good j hj
    rw [e, hr] at this; cases this
  · cases hi : ix d L with
    | some i => rw [(mk_old hr hi).2.2] at he; exact absurd rfl he
    | none =>
      by_cases hl : lim ≤ L.length
      · exact ⟨(mk_full hr hi hl).1, rfl⟩
      · rw [(mk_new hr hi (by omega)).2.2] at he; exact absurd rfl he
theorem mk_had {lim : Nat} {L : List Nd} {d : Nd} (h : WF L) {i : Nat} (hi : ix d L = some i) : mkL lim L d = L ∧ mkR lim L d = i ∧ mkE lim L d = 0 := by
  have hr : right L d = true := by
    have := h.good i (ix_some hi).1
    rw [(ix_some hi).2.1] at this; exact this
  exact mk_old hr hi
theorem mk_room {lim : Nat} {L : List Nd} {d : Nd} (hr : right L d = true) (hl : L.length < lim) : mkE lim L d = 0 := by
  cases hi : ix d L with
  | some i => exact (mk_old hr hi).2.2
  | none => exact (mk_new hr hi hl).2.2

theorem shN_right {L : List Nd} (h : WF L) {x y : Int} (hb : both L x y = true) : right L (shN L x y) = true := by
  have hb' := both_iff.1 hb
  have e1 : hasB L.length x = true := hasB_iff.2 hb'.1
  have e2 : hasB L.length y = true := hasB_iff.2 hb'.2
  have py := (h.toWFp.nd_parts hb'.2.1 hb'.2.2).1
  have e3 : hasB L.length (nd L y).a = true := hasB_iff.2 (by unfold inAt at py; have := h.toWFp.pos; omega)
  rw [right_iff]
  unfold shN
  split
  · rename_i hk
    exact ⟨by simp [many], by simp [partsOk, partOk, many, e1, e2], by simp [numOk], by simpa [lastOk] using hk⟩
  · split
    · rename_i hc
      exact ⟨by simp [many], by simp [partsOk, partOk, many, e1, e3], by simp [numOk], by simpa [lastOk] using hc⟩
    · rename_i hc
      refine ⟨by simp [many], by simp [partsOk, partOk, many, e1, e3], by simp [numOk], ?_⟩
      have := cmp_neg h.toWFp x (nd L y).a
      simp [lastOk]; omega

theorem shN_append {L M : List Nd} (h : WF L) (h' : WF (L ++ M)) {x y : Int} (hb : both L x y = true) : shN (L ++ M) x y = shN L x y := by
  have hb' := both_iff.1 hb
  have py := (h.toWFp.nd_parts hb'.2.1 hb'.2.2).1
  have h3 : both L x (nd L y).a = true := both_iff.2 ⟨hb'.1, by unfold inAt at py; have := h.toWFp.pos; omega⟩
  unfold shN
  rw [nd_append hb'.2.1 hb'.2.2, cmp_append h.toWFp h'.toWFp _ _ h3]

theorem shN_kind (L : List Nd) (x y : Int) : (shN L x y).k = if (nd L y).k = 2 then 3 else 4 := by
  unfold shN
  by_cases h : (nd L y).k = 2
  · rw [if_neg (by simpa using h), if_pos h]; split <;> rfl
  · rw [if_pos h, if_neg h]

/-- Sharing twice. -/
theorem sh_twice {lim : Nat} {L : List Nd} (h : WF L) (hn : L.length ≤ 65536) {x y : Int} (hb : both L x y = true) (he : shE lim L x y = 0) :
    ∃ i : Nat, shR lim L x y = i ∧ i < (shL lim L x y).length ∧ (shL lim L x y).getD i zN = shN L x y ∧ WF (shL lim L x y) ∧ both (shL lim L x y) x y = true ∧ nd (shL lim L x y) y = nd L y ∧ (∃ M, shL lim L x y = L ++ M) ∧
      shL lim (shL lim L x y) x y = shL lim L x y ∧ shR lim (shL lim L x y) x y = i ∧ shE lim (shL lim L x y) x y = 0 := by
  have hb' := both_iff.1 hb
  have e1 : shL lim L x y = mkL lim L (shN L x y) := by unfold shL; rw [if_pos hb]
  have e2 : shR lim L x y = mkR lim L (shN L x y) := by unfold shR; rw [if_pos hb]
  have e3 : shE lim L x y = mkE lim L (shN L x y) := by unfold shE; rw [if_pos hb]
  rw [e3] at he
  obtain ⟨hr, i, h1, h2, h3, h4, h5, M, hM⟩ := mk_at h (shN_ok h hn hb) he
  have hwf : WF (mkL lim L (shN L x y)) := mk_wf h (shN_ok h hn hb)
  have hbM : both (mkL lim L (shN L x y)) x y = true := by rw [hM]; exact both_append hb
  have hs : shN (mkL lim L (shN L x y)) x y = shN L x y := by
    have w2 := hwf; rw [hM] at w2 ⊢; exact shN_append h w2 hb
  refine ⟨i, by rw [e2, h1], by rw [e1]; exact h2, by rw [e1]; exact h3, by rw [e1]; exact hwf, by rw [e1]; exact hbM, by rw [e1, hM]; exact nd_append hb'.2.1 hb'.2.2, ⟨M, by rw [e1, hM]⟩, ?_, ?_, ?_⟩
  · rw [e1]; unfold shL; rw [if_pos hbM, hs]; exact (mk_old h5 h4).1
  · rw [e1]; unfold shR; rw [if_pos hbM, hs]; exact (mk_old h5 h4).2.1
  · rw [e1]; unfold shE; rw [if_pos hbM, hs]; exact (mk_old h5 h4).2.2

theorem sh_both {lim : Nat} {L : List Nd} {x y : Int} (he : shE lim L x y = 0) : both L x y = true := by
  cases hb : both L x y
  · unfold shE at he; rw [hb] at he; simp at he
  · rfl

/-- A secret and another one's public key: the same the other way round. -/
theorem sh_back {lim : Nat} {L : List Nd} (h : WF L) (hn : L.length ≤ 65536) {x y : Int} (he : shE lim L x y = 0) (hk : (nd (shL lim L x y) y).k = 2) (hg : mkE lim (shL lim L x y) ⟨2, 0, x, 0, 0⟩ = 0) (hx : i64ok x) :
    shR lim (mkL lim (shL lim L x y) ⟨2, 0, x, 0, 0⟩) (nd (shL lim L x y) y).a (mkR lim (shL lim L x y) ⟨2, 0, x, 0, 0⟩) = shR lim L x y ∧
    shE lim (mkL lim (shL lim L x y) ⟨2, 0, x, 0, 0⟩) (nd (shL lim L x y) y).a (mkR lim (shL lim L x y) ⟨2, 0, x, 0, 0⟩) = 0 := by
  have hb := sh_both he
  have hb' := both_iff.1 hb
  obtain ⟨i, r1, r2, r3, hw1, hb1, hny, ⟨M, hM⟩, _, _, _⟩ := sh_twice h hn hb he
  obtain ⟨L1, hL1⟩ : ∃ L1, L1 = shL lim L x y := ⟨_, rfl⟩
  rw [← hL1] at hk hg r2 r3 hw1 hb1 hny hM ⊢
  rw [hny] at hk ⊢
  have pok : (⟨2, 0, x, 0, 0⟩ : Nd).ok := ⟨by simp [i64ok], by simp [u64ok], hx, by simp [i64ok], by simp [i64ok]⟩
  obtain ⟨_, j, q1, q2, q3, q4, _, M2, hM2⟩ := mk_at hw1 pok hg
  have hw2 : WF (mkL lim L1 ⟨2, 0, x, 0, 0⟩) := mk_wf hw1 pok
  obtain ⟨L2, hL2⟩ : ∃ L2, L2 = mkL lim L1 ⟨2, 0, x, 0, 0⟩ := ⟨_, rfl⟩
  rw [← hL2] at q2 q3 q4 hM2 hw2 ⊢
  rw [q1, r1]
  have py := (h.toWFp.nd_parts hb'.2.1 hb'.2.2).1
  have ha : 0 ≤ (nd L y).a ∧ (nd L y).a < L.length := by unfold inAt at py; have := h.toWFp.pos; omega
  have hlen : L.length ≤ L2.length := by rw [hM2, hM]; simp
  have hb2 : both L2 (nd L y).a j = true := both_iff.2 ⟨by omega, by omega⟩
  have hndj : nd L2 (j : Int) = ⟨2, 0, x, 0, 0⟩ := by unfold nd; simpa using q3
  have hL2' : L2 = L ++ (M ++ M2) := by rw [hM2, hM, List.append_assoc]
  have hc : cmp L2 (nd L y).a x = cmp L (nd L y).a x := by
    rw [hL2']; exact cmp_append h.toWFp (by rw [← hL2']; exact hw2.toWFp) _ _ (both_iff.2 ⟨ha, hb'.1⟩)
  have hsame : shN L2 (nd L y).a j = shN L x y := by
    unfold shN
    simp only [hndj, hk, hc, ne_eq, not_true_eq_false, if_false]
    have hneg := cmp_neg h.toWFp (nd L y).a x
    by_cases hxa : x = (nd L y).a
    · rw [← hxa, cmp_self]
    · have hz : cmp L x (nd L y).a ≠ 0 := fun e => hxa ((cmp_zero h.toWFp _ _).1 e)
      by_cases hle : cmp L x (nd L y).a ≤ 0
      · rw [if_pos hle, if_neg (by omega)]
      · rw [if_neg hle, if_pos (by omega)]
  have hix1 : ix (shN L x y) L1 = some i := by
    have := hw1.ix_at r2; rw [r3] at this; exact this
  have hix : ix (shN L x y) L2 = some i := by rw [hM2]; exact ix_append hix1
  have hold := mk_had (lim := lim) hw2 hix
  exact ⟨by unfold shR; rw [if_pos hb2, hsame]; exact hold.2.1, by unfold shE; rw [if_pos hb2, hsame]; exact hold.2.2⟩
end Go.Proofs.YtemjhhjalnlmlaaDoor
