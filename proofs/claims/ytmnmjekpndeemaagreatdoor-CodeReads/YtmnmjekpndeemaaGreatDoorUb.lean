/- The two readers of layer 2 agree on an arena of their own. No program is named. -/
import Derived.Test.YtmnmjekpndeemaaGreatDoorUa
import Derived.Test.YtmnmjekpndeemaaGreatDoorSd
namespace Go.Proofs.YtmnmjekpndeemaaGreatDoor

theorem rstp_row {lim : Nat} {st : List Nd × List Int} {r : List Nat} (hr : r ≠ []) (h : ∀ x ∈ r, x < 18446744073709551616) : rstp lim (some st) (rbd r) = stn lim st r := by
  obtain ⟨x, l, rfl⟩ : ∃ x l, r = x :: l := by cases r with | nil => exact absurd rfl hr | cons x l => exact ⟨x, l, rfl⟩
  unfold rstp
  simp only [Option.bind_some]
  rw [rbd_split, rall_of (pall_dec _ h) rfl]; rfl
theorem fold_rstp (lim : Nat) : ∀ (t : List (List Nat)) (st : Option (List Nd × List Int)), (∀ r ∈ t, r ≠ [] ∧ ∀ x ∈ r, x < 18446744073709551616) → (t.map rbd).foldl (rstp lim) st = t.foldl (fun st row => st.bind (stn lim · row)) st
  | [], _, _ => rfl
  | r :: t, st, h => by
    simp only [List.map_cons, List.foldl_cons]
    have hr := h r (by simp)
    have e : rstp lim st (rbd r) = st.bind (stn lim · r) := by
      cases st with
      | none => rfl
      | some st => exact rstp_row hr.1 hr.2
    rw [e]
    exact fold_rstp lim t _ (fun q hq => h q (by simp [hq]))
theorem spl_end {c : UInt8} {l : List UInt8} (h : (spl c l).getLastD [] = []) (hn : 1 < (spl c l).length) : ∃ l', l = l' ++ [c] := by
  rcases List.eq_nil_or_concat l with rfl | ⟨l', b, rfl⟩
  · simp [spl] at hn
  · rw [List.concat_eq_append] at h ⊢
    by_cases hb : b = c
    · exact ⟨l', by rw [hb]⟩
    · obtain ⟨m, z, _, h2⟩ := spl_snoc_other c hb l'
      rw [h2] at h
      simp at h
theorem trim_end (l : List UInt8) (c : UInt8) : Lib.trimSuffix (l ++ [c]) [c] = l := by
  unfold Lib.trimSuffix Lib.hasSuffix
  rw [if_pos (by simp)]
  simp
theorem nums_rows {own : List Nd} {ref : Int} (hw : WF own) (hs : own.length ≤ 65536) : ∀ r ∈ nums own ref, r ≠ [] ∧ ∀ x ∈ r, x < 18446744073709551616 := fun r hr => ⟨fun e => by
  unfold nums at hr
  obtain ⟨y, _, rfl⟩ := List.mem_map.1 hr
  simp [rowN] at e, (nums_ok hw hs ref r hr).2⟩
theorem nums_ne {own : List Nd} {ref : Int} (h : hasB own.length ref = true) : nums own ref ≠ [] := fun e => by
  have h1 := List.length_pos_of_mem (rows_self h)
  have := congrArg List.length e
  simp [nums] at this
  rw [this] at h1; simp at h1
/-- A text that is a term's: its rows. -/
theorem spl_txt {own : List Nd} {ref : Int} (h : hasB own.length ref = true) : spl 59 (txt own ref) = (nums own ref).map rbd ++ [[]] := by
  unfold txt
  rw [prn_eq _ (nums_ne h), spl_snoc_same, spl_prn _ (nums_ne h)]
theorem rrd_txt {lim : Nat} {L own : List Nd} {ref : Int} (hw : WF own) (hs : own.length ≤ 65536) (h : hasB own.length ref = true) : rrd lim L (txt own ref) =
    ((nums own ref).foldl (fun st row => st.bind (stn lim · row)) (some (L, []))).bind fun st => if txt st.1 (st.2.getLastD 0) = txt own ref then some (st.1, st.2.getLastD 0) else none := by
  unfold rrd
  rw [spl_txt h, if_pos]
  · rw [List.dropLast_concat, fold_rstp lim _ _ (nums_rows hw hs)]
  · refine ⟨by simp, ?_⟩
    have := List.length_pos_iff.2 (nums_ne h)
    simp; omega
theorem rrd_own {s : List UInt8} (hs : s.length ≤ 16384) : rrd 65536 [zN] s = pars s := by
  cases hp : pars s with
  | some r =>
    obtain ⟨own, ref⟩ := r
    obtain ⟨h1, h2, h3, h4⟩ := pars_ok hp
    subst h3
    rw [rrd_txt h1 h4 h2]
    unfold pars at hp
    rw [if_neg (by omega)] at hp
    have ht : Lib.trimSuffix (txt own ref) [59] = prn' (nums own ref) := trim_prn (nums_ne h2)
    rw [ht, spl_prn _ (nums_ne h2), fold_stp _ _ (nums_rows h1 h4)] at hp
    exact hp
  | none =>
    cases hr : rrd 65536 [zN] s with
    | none => rfl
    | some r =>
      exfalso
      unfold rrd at hr
      split at hr
      · rename_i hc
        obtain ⟨l', rfl⟩ := spl_end hc.1 hc.2
        obtain ⟨st, h1, h2⟩ := Option.bind_eq_some_iff.1 hr
        rw [spl_snoc_same, List.dropLast_concat] at h1
        have h3 := rfold_fold h1
        unfold pars at hp
        rw [if_neg (by omega), trim_end, h3] at hp
        simp only [Option.bind_some] at hp
        rw [h2] at hp
        cases hp
      · cases hr
end Go.Proofs.YtmnmjekpndeemaaGreatDoor
