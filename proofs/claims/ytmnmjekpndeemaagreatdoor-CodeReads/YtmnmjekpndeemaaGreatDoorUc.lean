/- The two readers of layer 2 agree on any arena: rows made one by one, or a term carried over. No program is named. -/
import Derived.Test.YtmnmjekpndeemaaGreatDoorUb
import Derived.Test.YtmnmjekpndeemaaGreatDoorSe
namespace Go.Proofs.YtmnmjekpndeemaaGreatDoor

theorem prow_car {L : List Nd} {R Q : List Int} {f : Int → Option Int} {k : Nat} (hL : WF L) (hR : Acc L R) (hO : Ord L R) (hk : k < R.length) (h0 : fz f 0 = 0) (hQ : Q.length = k) (hq : ∀ j, j < k → fz f (R.getD j 0) = Q.getD j 0) :
    prow Q (rowN L R R[k]) = some (cnode L f R[k]) := by
  obtain ⟨x, hx⟩ : ∃ x, x = R[k] := ⟨_, rfl⟩
  rw [← hx]
  have hxm : x ∈ R := by rw [hx]; exact List.getElem_mem hk
  have hxb := hR.has x hxm
  have b1 := hasB_iff.1 hxb
  have hp : ∀ p ∈ prt (nd L x), p ∈ R.take k := fun p hp' => hO k hk p (by rw [← hx]; exact hp')
  have hpz : ∀ p ∈ R.take k, pz p R < k ∧ Q.getD (pz p R) 0 = fz f p := fun p hp' => by
    obtain ⟨j, hj, hje⟩ := List.mem_iff_getElem.1 hp'
    rw [List.getElem_take] at hje
    simp only [List.length_take] at hj
    have h1 := px_at hR.nodup (x := p) (i := j) (by rw [List.getElem?_eq_getElem (by omega), hje])
    have e : pz p R = j := by unfold pz; rw [h1]; rfl
    rw [e]
    refine ⟨by omega, ?_⟩
    rw [← hq j (by omega), List.getD_eq_getElem?_getD, List.getElem?_eq_getElem (show j < R.length by omega)]
    simp [hje]
  have hg := right_iff.1 (hL.good x.toNat (by omega))
  change 0 ≤ many (nd L x).k ∧ partsOk L.length (nd L x) = true ∧ numOk (nd L x) = true ∧ lastOk L (nd L x) = true at hg
  obtain ⟨kk, hkk, hk10⟩ := kind_nat hg.1
  have hnn := (hL.ok x.toNat (by omega)).2.1
  change u64ok (nd L x).n at hnn
  unfold u64ok at hnn
  have hw := wf_parts hL hxb
  unfold rowN
  rw [prow_cons, if_pos]
  · congr 1
    have hmap : ((prt (nd L x)).map (pz · R)).map (Q.getD · 0) = (prt (nd L x)).map (fz f) := by
      rw [List.map_map]
      exact List.map_congr_left fun p hp' => (hpz p (hp p hp')).2
    rw [hmap, map_getD h0, map_getD h0, map_getD h0, ← hw.1, ← hw.2.1, ← hw.2.2]
    unfold cnode
    refine Nd.ext5 ?_ ?_ rfl rfl rfl
    · simp only; omega
    · simp only; omega
  · refine ⟨⟨by omega, ?_⟩, fun i hi => ?_⟩
    · have := prt_length hg.1
      simp only [List.length_map]
      rw [this]
      congr 1; omega
    · obtain ⟨p, hp', rfl⟩ := List.mem_map.1 hi
      have := (hpz p (hp p hp')).1
      omega

theorem foldn_none (lim : Nat) : ∀ l : List (List Nat), l.foldl (fun (st : Option (List Nd × List Int)) row => st.bind (stn lim · row)) none = none
  | [] => rfl
  | _ :: l => foldn_none lim l

/-- Rows made one by one are what carrying over makes. -/
theorem fold_car {lim : Nat} {own : List Nd} {R : List Int} (hw : WF own) (hR : Acc own R) (hO : Ord own R) (hm : lim ≤ 65536) : ∀ (n k : Nat) (M : List Nd) (Q : List Int) (f : Int → Option Int), n + k = R.length → WF M → M.length ≤ lim → fz f 0 = 0 → (∀ y x, f y = some x → 0 ≤ x ∧ x ≤ 65536) → Q.length = k → (∀ j, j < k → fz f (R.getD j 0) = Q.getD j 0) →
    ((car lim own (R.drop k) M f).2.2 = 0 → ∃ Q', ((R.drop k).map (rowN own R)).foldl (fun st row => st.bind (stn lim · row)) (some (M, Q)) = some ((car lim own (R.drop k) M f).1, Q') ∧ Q'.length = R.length ∧ ∀ j, j < R.length → fz (car lim own (R.drop k) M f).2.1 (R.getD j 0) = Q'.getD j 0) ∧
    ((car lim own (R.drop k) M f).2.2 ≠ 0 → ((R.drop k).map (rowN own R)).foldl (fun st row => st.bind (stn lim · row)) (some (M, Q)) = none)
  | 0, k, M, Q, f, hn, _, _, _, _, hQ, hq => by
    have e : R.drop k = [] := List.drop_eq_nil_iff.2 (by omega)
    rw [e]
    refine ⟨fun _ => ⟨Q, rfl, by omega, fun j hj => hq j (by omega)⟩, fun h => absurd rfl h⟩
  | n + 1, k, M, Q, f, hn, hM, hl, h0, hf, hQ, hq => by
    have hk : k < R.length := by omega
    have hrow := prow_car hw hR hO hk h0 hQ hq
    have hxb := hasB_iff.1 (hR.has _ (List.getElem_mem hk))
    rw [List.drop_eq_getElem_cons hk]
    obtain ⟨i, hi⟩ : ∃ i : Nat, R[k] = i := ⟨R[k].toNat, by omega⟩
    rw [hi] at hrow ⊢
    have hok := cnode_ok hw hf (x := i) (by omega)
    have hst : stn lim (M, Q) (rowN own R i) = if mkE lim M (cnode own f i) = 0 then some (mkL lim M (cnode own f i), Q ++ [mkR lim M (cnode own f i)]) else none := by
      unfold stn
      simp only [hrow, Option.bind_some]
    simp only [List.map_cons, List.foldl_cons, Option.bind_some]
    rw [hst, car]
    by_cases hE : mkE lim M (cnode own f i) = 0
    · rw [if_pos hE, if_pos hE]
      have hl2 := mk_len (d := cnode own f i) hl
      refine fold_car hw hR hO hm n (k + 1) _ _ _ (by omega) (mk_wf hM hok) hl2.2.1 (put_zero hw hM h0 i lim) ?_ (by simp [hQ]) ?_
      · intro y z hz
        unfold put1 at hz
        split at hz
        · obtain rfl := Option.some.inj hz; exact mkR_ok hM hok hl hm
        · exact hf y z hz
      · intro j hj
        rw [fz_put]
        by_cases hjk : j < k
        · have hne : R.getD j 0 ≠ (i : Int) := fun e => by
            rw [List.getD_eq_getElem?_getD, List.getElem?_eq_getElem (show j < R.length by omega)] at e
            have h1 := px_at hR.nodup (x := (i : Int)) (i := j) (by rw [List.getElem?_eq_getElem (by omega)]; simpa using e)
            have h2 := px_at hR.nodup (x := (i : Int)) (i := k) (by rw [List.getElem?_eq_getElem hk, hi])
            rw [h1] at h2
            have := Option.some.inj h2
            omega
          rw [if_neg hne, hq j hjk]
          rw [List.getD_eq_getElem?_getD, List.getD_eq_getElem?_getD, List.getElem?_append_left (by omega)]
        · obtain rfl : j = k := by omega
          have e : R.getD j 0 = (i : Int) := by rw [List.getD_eq_getElem?_getD, List.getElem?_eq_getElem hk]; simpa using hi
          rw [e, if_pos rfl, List.getD_eq_getElem?_getD, List.getElem?_append_right (by omega)]
          simp [hQ]
    · rw [if_neg hE, if_neg hE, foldn_none]
      exact ⟨fun h => absurd h hE, fun _ => rfl⟩

/-- The reference reads what the program reads, in any arena. -/
theorem rrd_rd {lim : Nat} {M : List Nd} (hM : WF M) (hl : M.length ≤ lim) (hm : lim ≤ 65536) {s : List UInt8} {own : List Nd} {ref : Int} (hp : pars s = some (own, ref)) :
    (rdE lim M s = 0 → rrd lim M s = some (rdL lim M s, rdR lim M s)) ∧ (rdE lim M s ≠ 0 → rrd lim M s = none) := by
  obtain ⟨hw, hr, ht, hs⟩ := pars_ok hp
  have eE : rdE lim M s = (carry lim M own ref).2.2 := by unfold rdE; rw [hp]
  subst ht
  have hR := rows_acc hw ref
  obtain ⟨f1, f2⟩ := fold_car hw hR (rows_ord hw ref) hm (rows own ref).length 0 M [] f0 (by omega) hM hl rfl f0_rng rfl (fun j hj => by omega)
  rw [List.drop_zero] at f1 f2
  rw [eE, rrd_txt hw hs hr]
  have hnn : nums own ref = (rows own ref).map (rowN own (rows own ref)) := rfl
  rw [hnn]
  refine ⟨fun he => ?_, fun he => by rw [f2 he]; rfl⟩
  obtain ⟨Q', h1, h2, h3⟩ := f1 he
  have hpos := List.length_pos_of_mem (rows_self hr)
  obtain ⟨m, hmr⟩ := rows_last hr
  have hlast : Q'.getLastD 0 = ((carry lim M own ref).2.1 ref).getD 0 := by
    rw [getLastD_eq Q' (by omega), h2, ← h3 _ (by omega)]
    have e : (rows own ref)[(rows own ref).length - 1]? = some ref := by rw [hmr]; simp
    rw [List.getD_eq_getElem?_getD, e]; rfl
  have eL : rdL lim M (txt own ref) = (carry lim M own ref).1 := by unfold rdL; rw [hp]; simp only; rw [if_pos he]
  have eR : rdR lim M (txt own ref) = ((carry lim M own ref).2.1 ref).getD 0 := by unfold rdR; rw [hp]; simp only; rw [if_pos he]
  rw [h1, Option.bind_some, hlast, eL, eR, if_pos]
  · rfl
  · exact (carry_txt hw hr hM hl hm he).1
end Go.Proofs.YtmnmjekpndeemaaGreatDoor
