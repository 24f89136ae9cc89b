/- Layer 2 in plain mathematics: what is read is read again as the same term, and makes nothing new. -/
import Derived.Test.YtmnmjekpndeemaaGreatDoorSb
namespace Go.Proofs.YtmnmjekpndeemaaGreatDoor

/-- What reading has made so far. -/
def StOk (st : List Nd × List Int) : Prop := WF st.1 ∧ st.1.length ≤ 65536 ∧ ∀ x ∈ st.2, hasB st.1.length x = true
theorem stn_ok {st st' : List Nd × List Int} {ns : List Nat} (h : StOk st) (hn : ∀ x ∈ ns, x < 18446744073709551616) (he : stn 65536 st ns = some st') : StOk st' := by
  unfold stn at he
  obtain ⟨d, hd, he⟩ := Option.bind_eq_some_iff.1 he
  obtain ⟨hw, hl, hr⟩ := h
  have hok := (prow_node (fun x hx => by have := hasB_iff.1 (hr x hx); omega) hn hd).1
  split at he
  · rename_i h0
    obtain rfl := Option.some.inj he
    obtain ⟨_, i, h1, h2, _⟩ := mk_at hw hok h0
    have hln := mk_len (d := d) hl
    refine ⟨mk_wf hw hok, hln.2.1, fun x hx => ?_⟩
    simp only [List.mem_append, List.mem_singleton] at hx
    rcases hx with hx | rfl
    · exact hasB_mono hln.1 (hr x hx)
    · rw [h1]; exact hasB_iff.2 ⟨by omega, by show (i : Int) < ((mkL 65536 st.1 d).length : Nat); omega⟩
  · cases he
theorem stp_ok : ∀ (l : List (List UInt8)) (st st' : List Nd × List Int), StOk st → l.foldl stp (some st) = some st' → StOk st' ∧ st'.2.length = st.2.length + l.length
  | [], st, st', h, he => by simp at he; subst he; exact ⟨h, by simp⟩
  | row :: l, st, st', h, he => by
    simp only [List.foldl_cons] at he
    cases hs : stp (some st) row with
    | none => rw [hs, stp_none] at he; cases he
    | some st1 =>
      rw [hs] at he
      unfold stp at hs
      obtain ⟨ns, hn, hs⟩ := Option.bind_eq_some_iff.1 (show (pall (spl 32 row)).bind (stn 65536 st) = some st1 from hs)
      have h1 := stn_ok h (pall_lt hn) hs
      have h2 := stp_ok l st1 st' h1 he
      refine ⟨h2.1, ?_⟩
      rw [h2.2]
      unfold stn at hs
      obtain ⟨d, _, hs⟩ := Option.bind_eq_some_iff.1 hs
      split at hs
      · obtain rfl := Option.some.inj hs; simp; omega
      · cases hs
theorem pars_ok {s : List UInt8} {own : List Nd} {ref : Int} (h : pars s = some (own, ref)) : WF own ∧ hasB own.length ref = true ∧ txt own ref = s ∧ own.length ≤ 65536 := by
  unfold pars at h
  split at h
  · cases h
  · obtain ⟨st, h1, h2⟩ := Option.bind_eq_some_iff.1 h
    obtain ⟨⟨hw, hl, hr⟩, hlen⟩ := stp_ok _ _ _ ⟨WF.one, by simp, by simp⟩ h1
    split at h2
    · rename_i ht
      obtain ⟨rfl, rfl⟩ := Prod.mk.inj (Option.some.inj h2)
      refine ⟨hw, hr _ ?_, ht, hl⟩
      have hp : 0 < st.2.length := by
        have := List.length_pos_iff.2 (spl_ne 59 (Lib.trimSuffix s [59]))
        rw [hlen]; simp; omega
      rw [getLastD_eq _ hp, List.getD_eq_getElem?_getD, List.getElem?_eq_getElem (show st.2.length - 1 < st.2.length by omega)]
      simp
    · cases h2

theorem rd_twice {lim : Nat} {M : List Nd} (hM : WF M) (hl : M.length ≤ lim) (hm : lim ≤ 65536) (s : List UInt8) :
    rdR lim (rdL lim M s) s = rdR lim M s ∧ rdE lim (rdL lim M s) s = rdE lim M s ∧ rdL lim (rdL lim M s) s = rdL lim M s ∧ (rdE lim M s = 0 → txt (rdL lim M s) (rdR lim M s) = s ∧ hasB (rdL lim M s).length (rdR lim M s) = true) := by
  cases hp : pars s with
  | none => simp [rdR, rdE, rdL, hp]
  | some st =>
    obtain ⟨own, ref⟩ := st
    obtain ⟨hw, hr, ht, ho⟩ := pars_ok hp
    have eL : rdL lim M s = if (carry lim M own ref).2.2 = 0 then (carry lim M own ref).1 else M := by unfold rdL; rw [hp]
    have eR : rdR lim M s = if (carry lim M own ref).2.2 = 0 then ((carry lim M own ref).2.1 ref).getD 0 else 0 := by unfold rdR; rw [hp]
    have eE : rdE lim M s = (carry lim M own ref).2.2 := by unfold rdE; rw [hp]
    by_cases he : (carry lim M own ref).2.2 = 0
    · rw [if_pos he] at eL eR
      obtain ⟨t1, t2, t3⟩ := carry_txt hw hr hM hl hm he
      have hag : carry lim (carry lim M own ref).1 own ref = ((carry lim M own ref).1, (carry lim M own ref).2.1, 0) :=
        car_again hw hm (rows own ref) M (carry lim M own ref).1 f0 f0_rng hM hl (rows_acc hw ref) he t3 ⟨[], by simp [carry]⟩
      rw [eL, eR, eE]
      refine ⟨?_, ?_, ?_, fun _ => ⟨t1.trans ht, t2⟩⟩
      · unfold rdR; rw [hp]; simp only; rw [hag]; rfl
      · unfold rdE; rw [hp]; simp only; rw [hag, he]
      · unfold rdL; rw [hp]; simp only; rw [hag]; rfl
    · rw [if_neg he] at eL eR
      rw [eL]
      exact ⟨rfl, rfl, eL, fun h => absurd (eE ▸ h) he⟩
end Go.Proofs.YtmnmjekpndeemaaGreatDoor
