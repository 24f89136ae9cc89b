/- Layer 7: the walk of the reference's Check. -/
import Derived.Test.YtahbbojhdkillaaDoorCo
namespace Go.Proofs.YtahbbojhdkillaaDoor
open Go.RowKit Go.Shelf

theorem rsl_nn (p : Pt) (r : Int) (L : List Tk) : 0 ≤ rsl p r L := by
  unfold rsl; split; decide; split <;> decide
theorem sl_nn (p : Pt) (r : Int) (L : List Tk) : 0 ≤ sl p r L := by
  unfold sl; split; exact rsl_nn p r L; decide
theorem rone_nn (p : Pt) (r t : Int) (L : List Tk) : 0 ≤ rone p r t L := by
  unfold rone
  split
  · split; decide; split; exact sl_nn p r L; decide
  · split; decide; split; decide; split <;> decide
theorem rtk_nn (p : Pt) (r : Int) : ∀ (l : List Int) (L : List Tk), 0 ≤ rtk p r L l
  | [], L => sl_nn p r L
  | t :: l, L => by unfold rtk; split; exact rtk_nn p r l _; exact rone_nn p r t L
theorem ahd_at {ms : List Ms} {i k : Nat} : ahd ms i k = flat (ms.take i) ++ ((ms.getD i default).t.take k).map fun t => ((ms.getD i default).fr, t) := rfl
theorem rtk_end {p : Pt} {r : Int} {l : List Int} {i : Nat} {L : List Tk} (h : ¬ i < l.length) : rtk p r L (l.drop i) = sl p r L := by
  rw [List.drop_of_length_le (by omega)]; rfl
set_option maxRecDepth 100000 in
set_option maxHeartbeats 4000000 in
theorem rcheck_any (x : Sl) (p : Pt) (w : World) (hp : PatA w x p) (hr : right p = true) : Calls Tryd.prog 18 #[patV x p] w fun e w' => e = .returned (.tuple #[.int .i64 (ckR p), .int .i64 (ckI p), .int .i64 (ckE p)]) ∧ Below w.heap.size w w' := by
  obtain ⟨bd0, bd1, bdm, bdt, bdf, bd6⟩ := right_bd hr
  have hln : 1 ≤ p.ms.length := by
    simp only [right, Bool.and_eq_true, decide_eq_true_eq] at hr; omega
  have hn65 : (p.ms.length : Int) ≤ 65536 := by omega
  have HB := Lib.hid (bf_new w x p)
  have HONE := Lib.hid (fun i k (hi : i < p.ms.length) (hk : k < (p.ms.getD i default).t.length) wx (hb : Below w.heap.size w wx) => one_any x p i k wx (hp.keep hb) hr hi hk)
  have HKEY := Lib.hid (fun msg at_ (hm : msg ≤ 65536) (ha : at_ ≤ 65536) wx (hb : Below w.heap.size w wx) => key_any x p msg at_ wx (hp.keep hb) hr ha hm)
  have HSEA := Lib.hid (fun (r : Int) (h01 : r = 0 ∨ r = 1) msg at_ (hm : msg ≤ 65536) (ha : at_ ≤ 65536) wx (hb : Below w.heap.size w wx) => sealing_any x p r h01 msg at_ wx (hp.keep hb) hr ha hm)
  have HR := Lib.hid hr
  have HIM := Lib.hid hp.im
  have HBD := Lib.hid (And.intro bdm bdt)
  have HLN := Lib.hid hln
  clear hp hr bd0 bd1 bdm bdt bdf bd6 hln
  obtain ⟨s0, c0, s1, c1, s2, c2⟩ := x
  unfold patV at HONE HKEY HSEA ⊢
  simp only at HB HONE HKEY HSEA HIM ⊢
  obtain ⟨g, o, hs2, -⟩ := HIM.out HLN.out
  subst hs2
  go_enter Tryd.func18, Tryd.ntmps18
  go_wp2_with fail
  go_loopg [5] p.ms.length (fun q u5 wr => ∃ i : Nat, i + q = p.ms.length ∧ u5 = .int .i64 i ∧ Aside (Bf w w.heap.size ⟨s0, c0, s1, c1, some ⟨g, o, none⟩, c2⟩ p wr ∧ ck p = ckG p (flat (p.ms.take i)) (pvF p.ms i) i (p.ms.drop i)))
  case atStart => exact ⟨0, by omega, rfl, (show _ ∧ _ from ⟨HB.out, rfl⟩)⟩
  case round =>
    obtain ⟨i, hiq, rfl, hcv⟩ := hrel
    have HCV := Lib.hid hcv.out; clear hcv
    have HBR := Lib.hid HCV.out.1
    obtain ⟨wo, rfl⟩ : ∃ wo, wo = wr := ⟨_, rfl⟩
    obtain ⟨⟨b0, b1, b2, b3⟩, lb⟩ := HBR.out.cells
    by_cases hlt : i < p.ms.length
    · have HLT := Lib.hid hlt
      have hi2 : (i : Int) < p.ms.length := by omega
      have hml := HBD.out.2 i hlt
      have hmm := right_ms' HR.out (m := p.ms.getD i default) (by rw [List.getD_eq_getElem?_getD, List.getElem?_eq_getElem hlt]; exact List.getElem_mem _)
      have HNX := Lib.hid (ckG_next (p := p) (L := flat (p.ms.take i)) (v := pvF p.ms i) hlt)
      have HFN := Lib.hid (flat_next hlt)
      have HON := Lib.hid (fun k hk wx hb => HONE.out i k hlt hk wx hb)
      have HMS := Lib.hid (fun wx (hb : Below w.heap.size w wx) => (HIM.out.keep hb))
      have HQC : Hid (∃ sx cx, ∀ wx, Below w.heap.size w wx → wx.cell? ⟨g, o + i * 2, none⟩ = some (.int .i64 (p.ms.getD i default).fr) ∧ wx.cell? ⟨g, o + i * 2 + 1, none⟩ = some (.slice sx (p.ms.getD i default).t.length cx) ∧ g < wx.heap.size) := Lib.hid (by
        obtain ⟨g', o', e', hia⟩ := HIM.out (by omega)
        cases e'
        obtain ⟨q0, sx, cx, q1, -⟩ := hia i hlt
        exact ⟨sx, cx, fun wx hb => ⟨(hb.cell (p := ⟨g, o + i * 2, none⟩) (World.block_lt_of_cell? _ _ q0)).trans q0, (hb.cell (p := ⟨g, o + i * 2 + 1, none⟩) (World.block_lt_of_cell? _ _ q1)).trans q1, Nat.lt_of_lt_of_le (World.block_lt_of_cell? _ _ q0) hb.size⟩⟩)
      obtain ⟨sx, cx, hqc⟩ := HQC.out
      obtain ⟨fr, hfr⟩ : ∃ fr, fr = (p.ms.getD i default).fr := ⟨_, rfl⟩
      obtain ⟨ts, hts⟩ : ∃ ts, ts = (p.ms.getD i default).t := ⟨_, rfl⟩
      have HAH := Lib.hid (fun k => ahd_at (ms := p.ms) (i := i) (k := k))
      rw [← hfr, ← hts] at hmm HNX HFN hqc HAH
      rw [← hts] at hml
      have HOE : Hid (∀ k, k < ts.length → ∀ wx, Below w.heap.size w wx → Calls Tryd.prog 28 #[.agg #[.string ⟨p.nm.toArray⟩, .slice s0 p.p0.length c0, .slice s1 p.p1.length c1, .slice (some ⟨g, o, none⟩) p.ms.length c2], .int .i64 i, .int .i64 k] wx fun e w' => e = .returned (.int .i64 (rone p fr (ts.getD k 0) (flat (p.ms.take i) ++ (ts.take k).map fun t => (fr, t)))) ∧ Below wx.heap.size wx w') := Lib.hid (fun k hk wx hb => by
        have h := HON.out k (by rw [← hts]; exact hk) wx hb
        rw [← hfr, ← hts, HAH.out k] at h
        exact h)
      have HFI : Hid (fr = (p.ms.getD i default).fr) := Lib.hid hfr
      have HMM := Lib.hid hmm
      have HQ := Lib.hid hqc
      obtain ⟨m, hm⟩ : ∃ m, m = ts.length := ⟨_, rfl⟩
      rw [← hm] at HQ HOE hml
      have hm65 : (m : Int) ≤ 65536 := by omega
      have HM := Lib.hid hm
      clear hfr hts hmm hqc hm HQC HON HMS
      have HCK := Lib.hid (HCV.out.2.trans HNX.out)
      obtain ⟨q0, q1, lg⟩ := HQ.out _ HBR.out.bel
      rcases Nat.eq_zero_or_pos i with h0 | h0
      · have HPV : Hid (pvF p.ms i ≠ some fr) := Lib.hid (by rw [h0]; unfold pvF; simp)
        have hz0 : ¬ (0 : Int) < i := by omega
        have hz1 : ¬ 0 < i := by omega
        clear h0
        go_wp2_with fail
        go_quiet (fail)
        have HBQ := Lib.hid (fun nq => HBR.out.keep (belowN (q := nq) (Below.refl _ _)))
        go_wp2_with fail
        have HIT : Hid (∀ nqv, Bf w w.heap.size ⟨s0, c0, s1, c1, some ⟨g, o, none⟩, c2⟩ p (wo.drewN nqv) ∧ rtk p fr (flat (p.ms.take i)) ts = rtk p fr (flat (p.ms.take i) ++ (ts.take 0).map fun t => (fr, t)) (ts.drop 0)) := Lib.hid (fun nqv => ⟨HBQ.out nqv, by simp⟩)
        clear b0 b1 b2 b3 lb q0 q1 lg
        go_loopg [6] m (fun q u6 wr => ∃ k : Nat, k + q = m ∧ u6 = .int .i64 k ∧ Aside (Bf w w.heap.size ⟨s0, c0, s1, c1, some ⟨g, o, none⟩, c2⟩ p wr ∧ rtk p fr (flat (p.ms.take i)) ts = rtk p fr (flat (p.ms.take i) ++ (ts.take k).map fun t => (fr, t)) (ts.drop k)))
        case atStart => exact ⟨0, by omega, rfl, HIT.out _⟩
        case round =>
          obtain ⟨k, hkq, rfl, hk⟩ := hrel
          have HK := Lib.hid hk.out; clear hk
          have HBK := Lib.hid HK.out.1
          obtain ⟨⟨b0, b1, b2, b3⟩, lb⟩ := HBK.out.cells
          obtain ⟨q0, q1, lg⟩ := HQ.out _ HBK.out.bel
          by_cases hkl : k < m
          · have hk2 : (k : Int) < m := by omega
            have HO1 := Lib.hid (HOE.out k hkl wr HBK.out.bel)
            have HRN := Lib.hid (rtk_next (p := p) (r := fr) (L := flat (p.ms.take i) ++ (ts.take k).map fun t => (fr, t)) (show k < ts.length by have := HM.out; omega))
            have HMX := Lib.hid (map_next (r := fr) (L := flat (p.ms.take i)) (show k < ts.length by have := HM.out; omega))
            have hnn := rone_nn p fr (ts.getD k 0) (flat (p.ms.take i) ++ (ts.take k).map fun t => (fr, t))
            obtain ⟨v, hv⟩ : ∃ v, v = rone p fr (ts.getD k 0) (flat (p.ms.take i) ++ (ts.take k).map fun t => (fr, t)) := ⟨_, rfl⟩
            rw [← hv] at HO1 HRN hnn
            clear hv
            go_wp2_with fail
            go_at_call 28
            refine HO1.out.mono ?_
            rintro e w5 ⟨rfl, hb5⟩
            have HB5 := Lib.hid (HBK.out.keep hb5)
            clear hb5 b0 b1 b2 b3 lb q0 q1 lg
            obtain ⟨⟨b0, b1, b2, b3⟩, lb⟩ := HB5.out.cells
            obtain ⟨q0, q1, lg⟩ := HQ.out _ HB5.out.bel
            by_cases hz : v = 0
            · have HST : Hid (rtk p fr (flat (p.ms.take i)) ts = rtk p fr (flat (p.ms.take i) ++ (ts.take (k + 1)).map fun t => (fr, t)) (ts.drop (k + 1))) := Lib.hid (by
                have h := HRN.out
                rw [if_pos hz, ← HMX.out] at h
                exact HK.out.2.trans h)
              subst hz
              clear hnn
              go_wp2_with fail
              go_roundg (m - (k + 1))
              case measure => omega
              case rel => exact ⟨k + 1, by omega, by go_num, (show _ ∧ _ from ⟨HB5.out, HST.out⟩)⟩
            · have HV := Lib.hid (ck_out HR.out (v := v) (i := i) (by
                have h := HRN.out
                rw [if_neg hz] at h
                have h2 := HK.out.2.trans h
                rw [HCK.out, if_neg HPV.out, h2, if_neg hz]) hz)
              have hv2 : (0 : Int) < v := by omega
              clear hz hnn
              go_wp2_with fail
              go_ret3
              exact ⟨by rw [HV.out.1, HV.out.2.1, HV.out.2.2]; rfl, HB5.out.bel⟩
          · have hk2 : ¬ (k : Int) < m := by omega
            have HSL : Hid (rtk p fr (flat (p.ms.take i)) ts = sl p fr (ahd p.ms i m)) := Lib.hid (by
              have h := HK.out.2
              rw [rtk_end (by have := HM.out; omega)] at h
              rw [HAH.out m]
              have e : ts.take k = ts.take m := by rw [List.take_of_length_le (by have := HM.out; omega), List.take_of_length_le (by have := HM.out; omega)]
              rw [e] at h; exact h)
            have HKE := Lib.hid (fun wx hb => HKEY.out i m (by have := HLT.out; omega) (by omega) wx hb)
            have HSE := Lib.hid (fun wx hb => HSEA.out fr HMM.out.1 i m (by have := HLT.out; omega) (by omega) wx hb)
            have hnn := rsl_nn p fr (ahd p.ms i m)
            obtain ⟨v, hv⟩ : ∃ v, v = rsl p fr (ahd p.ms i m) := ⟨_, rfl⟩
            obtain ⟨ky, hky⟩ : ∃ ky, ky = rkey p (ahd p.ms i m) := ⟨_, rfl⟩
            have HSV : Hid (sl p fr (ahd p.ms i m) = if ky then v else 0) := Lib.hid (by unfold sl; rw [hv, hky])
            rw [← hv] at HSE hnn
            rw [← hky] at HKE
            clear hv hky
            go_wp2_with fail
            cases ky with
            | false =>
              have HZ : Hid (rtk p fr (flat (p.ms.take i)) ts = 0) := Lib.hid (by rw [HSL.out, HSV.out]; rfl)
              clear hnn
              refine wp_region_noPanic ?_
              refine wp_region_held_drew (S := (fun w' => w'.cell? ⟨w.heap.size, 0, none⟩ = some (.string ⟨p.nm.toArray⟩) ∧ w'.cell? ⟨w.heap.size, 1, none⟩ = some (.slice s0 p.p0.length c0) ∧ w'.cell? ⟨w.heap.size, 2, none⟩ = some (.slice s1 p.p1.length c1) ∧ w'.cell? ⟨w.heap.size, 3, none⟩ = some (.slice (some ⟨g, o, none⟩) p.ms.length c2) ∧ w'.cell? ⟨g, o + i * 2, none⟩ = some (.int .i64 fr))) (by kernel_rfl) ?_ (fun hHeld => ?_)
              · exact ⟨b0, b1, b2, b3, q0⟩
              refine wpAnyH_take (i := 0) (v := ?_) rfl (by kernel_rfl) (by kernel_rfl) (by kernel_rfl) (fun _ _ _ h => h) (Or.inl ⟨by rfl, ?_⟩) (by assumption) ?_
              rotate_left
              · (intro w hSw; (try dsimp only at hSw); go_simp; try with_reducible rfl)
              try simp only [List.getElem_toArray, List.getElem_cons_succ, List.getElem_cons_zero, Act.put, List.setIfInBounds_toArray, List.set_cons_zero, List.set_cons_succ]
              refine wpAnyH_take (i := 1) (v := ?_) rfl (by kernel_rfl) (by kernel_rfl) (by kernel_rfl) (fun _ _ _ h => h) (Or.inl ⟨by rfl, ?_⟩) (by assumption) ?_
              rotate_left
              · (intro w hSw; (try dsimp only at hSw); go_simp; try with_reducible rfl)
              try simp only [List.getElem_toArray, List.getElem_cons_succ, List.getElem_cons_zero, Act.put, List.setIfInBounds_toArray, List.set_cons_zero, List.set_cons_succ]
              refine wpAnyH_take (i := 2) (v := ?_) rfl (by kernel_rfl) (by kernel_rfl) (by kernel_rfl) (fun _ _ _ h => h) (Or.inl ⟨by rfl, ?_⟩) (by assumption) ?_
              rotate_left
              · (intro w hSw; (try dsimp only at hSw); go_simp; try with_reducible rfl)
              try simp only [List.getElem_toArray, List.getElem_cons_succ, List.getElem_cons_zero, Act.put, List.setIfInBounds_toArray, List.set_cons_zero, List.set_cons_succ]
              refine wpAnyH_ready (rs := [3]) (by kernel_rfl) (by simp) ?_
              refine AllReadyH.cons rfl (fun K hK => ?_) AllReadyH.nil
              go_simp
              refine (HKE.out _ (HBK.out.keep (Below.refl _ _).drew).bel).mono ?_
              rintro e v11 ⟨rfl, hb11⟩
              have HV11 := Lib.hid ((HBK.out.keep (Below.refl _ _).drew).keep hb11)
              clear hb11 b0 b1 b2 b3 lb q0 q1 lg
              obtain ⟨⟨b0, b1, b2, b3⟩, lb⟩ := HV11.out.cells
              obtain ⟨q0, q1, lg⟩ := HQ.out _ HV11.out.bel
              go_wp2_with fail
              refine hK.out _ _ ?_ (fun hHeld => ?_)
              · exact ⟨b0, b1, b2, b3, q0⟩
              clear hK K
              try simp only [List.getElem_toArray, List.getElem_cons_succ, List.getElem_cons_zero, Act.put, List.setIfInBounds_toArray, List.set_cons_zero, List.set_cons_succ]
              refine wpAnyH_take (i := 4) (v := ?_) rfl (by kernel_rfl) (by kernel_rfl) (by kernel_rfl) (fun _ _ _ h => h) (Or.inl ⟨by rfl, ?_⟩) (by assumption) ?_
              rotate_left
              · (intro w hSw; (try dsimp only at hSw); go_simp; try with_reducible rfl)
              try simp only [List.getElem_toArray, List.getElem_cons_succ, List.getElem_cons_zero, Act.put, List.setIfInBounds_toArray, List.set_cons_zero, List.set_cons_succ]
              refine wpAnyH_take (i := 5) (v := undef) rfl (by kernel_rfl) (by kernel_rfl) (by kernel_rfl) (fun _ _ _ h => h) (Or.inr ⟨by rfl, rfl⟩) (by assumption) ?_
              try simp only [List.getElem_toArray, List.getElem_cons_succ, List.getElem_cons_zero, Act.put, List.setIfInBounds_toArray, List.set_cons_zero, List.set_cons_succ]
              refine wpAnyH_take (i := 6) (v := undef) rfl (by kernel_rfl) (by kernel_rfl) (by kernel_rfl) (fun _ _ _ h => h) (Or.inr ⟨by rfl, rfl⟩) (by assumption) ?_
              try simp only [List.getElem_toArray, List.getElem_cons_succ, List.getElem_cons_zero, Act.put, List.setIfInBounds_toArray, List.set_cons_zero, List.set_cons_succ]
              refine wpAnyH_take (i := 7) (v := undef) rfl (by kernel_rfl) (by kernel_rfl) (by kernel_rfl) (fun _ _ _ h => h) (Or.inr ⟨by rfl, rfl⟩) (by assumption) ?_
              try simp only [List.getElem_toArray, List.getElem_cons_succ, List.getElem_cons_zero, Act.put, List.setIfInBounds_toArray, List.set_cons_zero, List.set_cons_succ]
              refine wpAnyH_take (i := 8) (v := undef) rfl (by kernel_rfl) (by kernel_rfl) (by kernel_rfl) (fun _ _ _ h => h) (Or.inr ⟨by rfl, rfl⟩) (by assumption) ?_
              try simp only [List.getElem_toArray, List.getElem_cons_succ, List.getElem_cons_zero, Act.put, List.setIfInBounds_toArray, List.set_cons_zero, List.set_cons_succ]
              refine wpAnyH_take (i := 9) (v := undef) rfl (by kernel_rfl) (by kernel_rfl) (by kernel_rfl) (fun _ _ _ h => h) (Or.inr ⟨by rfl, rfl⟩) (by assumption) ?_
              try simp only [List.getElem_toArray, List.getElem_cons_succ, List.getElem_cons_zero, Act.put, List.setIfInBounds_toArray, List.set_cons_zero, List.set_cons_succ]
              refine wpAnyH_take (i := 10) (v := undef) rfl (by kernel_rfl) (by kernel_rfl) (by kernel_rfl) (fun _ _ _ h => h) (Or.inr ⟨by rfl, rfl⟩) (by assumption) ?_
              try simp only [List.getElem_toArray, List.getElem_cons_succ, List.getElem_cons_zero, Act.put, List.setIfInBounds_toArray, List.set_cons_zero, List.set_cons_succ]
              refine wpAnyH_take (i := 11) (v := undef) rfl (by kernel_rfl) (by kernel_rfl) (by kernel_rfl) (fun _ _ _ h => h) (Or.inr ⟨by rfl, rfl⟩) (by assumption) ?_
              try simp only [List.getElem_toArray, List.getElem_cons_succ, List.getElem_cons_zero, Act.put, List.setIfInBounds_toArray, List.set_cons_zero, List.set_cons_succ]
              refine wpAnyH_take (i := 12) (v := undef) rfl (by kernel_rfl) (by kernel_rfl) (by kernel_rfl) (fun _ _ _ h => h) (Or.inr ⟨by rfl, rfl⟩) (by assumption) ?_
              try simp only [List.getElem_toArray, List.getElem_cons_succ, List.getElem_cons_zero, Act.put, List.setIfInBounds_toArray, List.set_cons_zero, List.set_cons_succ]
              refine wpAnyH_take (i := 13) (v := undef) rfl (by kernel_rfl) (by kernel_rfl) (by kernel_rfl) (fun _ _ _ h => h) (Or.inr ⟨by rfl, rfl⟩) (by assumption) ?_
              try simp only [List.getElem_toArray, List.getElem_cons_succ, List.getElem_cons_zero, Act.put, List.setIfInBounds_toArray, List.set_cons_zero, List.set_cons_succ]
              refine wpAnyH_take (i := 14) (v := undef) rfl (by kernel_rfl) (by kernel_rfl) (by kernel_rfl) (fun _ _ _ h => h) (Or.inr ⟨by rfl, rfl⟩) (by assumption) ?_
              try simp only [List.getElem_toArray, List.getElem_cons_succ, List.getElem_cons_zero, Act.put, List.setIfInBounds_toArray, List.set_cons_zero, List.set_cons_succ]
              refine wpAnyH_take (i := 15) (v := undef) rfl (by kernel_rfl) (by kernel_rfl) (by kernel_rfl) (fun _ _ _ h => h) (Or.inr ⟨by rfl, rfl⟩) (by assumption) ?_
              try simp only [List.getElem_toArray, List.getElem_cons_succ, List.getElem_cons_zero, Act.put, List.setIfInBounds_toArray, List.set_cons_zero, List.set_cons_succ]
              refine wpAnyH_take (i := 16) (v := ?_) rfl (by kernel_rfl) (by kernel_rfl) (by kernel_rfl) (fun _ _ _ h => h) (Or.inl ⟨by rfl, ?_⟩) (by assumption) ?_
              rotate_left
              · (intro w hSw; (try dsimp only at hSw); go_simp; try with_reducible rfl)
              try simp only [List.getElem_toArray, List.getElem_cons_succ, List.getElem_cons_zero, Act.put, List.setIfInBounds_toArray, List.set_cons_zero, List.set_cons_succ]
              refine wpAnyH_done (by kernel_rfl) ?_ _
              refine NoPanic.normal ?_
              go_wp2_with fail
              go_roundg (p.ms.length - (i + 1))
              case measure => omega
              case rel =>
                have hnx := HCK.out
                rw [if_neg HPV.out, if_pos HZ.out, ← HFN.out] at hnx
                exact ⟨i + 1, by omega, by go_num, (show _ ∧ _ from ⟨HV11.out, by rw [hnx]; congr 1; unfold pvF; rw [if_neg (by omega), Nat.add_sub_cancel, HFI.out]⟩)⟩
            | true =>
              by_cases hz : v = 0
              · have HZ : Hid (rtk p fr (flat (p.ms.take i)) ts = 0) := Lib.hid (by rw [HSL.out, HSV.out, hz]; rfl)
                subst hz
                clear hnn
                refine wp_region_noPanic ?_
                refine wp_region_held_drew (S := (fun w' => w'.cell? ⟨w.heap.size, 0, none⟩ = some (.string ⟨p.nm.toArray⟩) ∧ w'.cell? ⟨w.heap.size, 1, none⟩ = some (.slice s0 p.p0.length c0) ∧ w'.cell? ⟨w.heap.size, 2, none⟩ = some (.slice s1 p.p1.length c1) ∧ w'.cell? ⟨w.heap.size, 3, none⟩ = some (.slice (some ⟨g, o, none⟩) p.ms.length c2) ∧ w'.cell? ⟨g, o + i * 2, none⟩ = some (.int .i64 fr))) (by kernel_rfl) ?_ (fun hHeld => ?_)
                · exact ⟨b0, b1, b2, b3, q0⟩
                refine wpAnyH_take (i := 0) (v := ?_) rfl (by kernel_rfl) (by kernel_rfl) (by kernel_rfl) (fun _ _ _ h => h) (Or.inl ⟨by rfl, ?_⟩) (by assumption) ?_
                rotate_left
                · (intro w hSw; (try dsimp only at hSw); go_simp; try with_reducible rfl)
                try simp only [List.getElem_toArray, List.getElem_cons_succ, List.getElem_cons_zero, Act.put, List.setIfInBounds_toArray, List.set_cons_zero, List.set_cons_succ]
                refine wpAnyH_take (i := 1) (v := ?_) rfl (by kernel_rfl) (by kernel_rfl) (by kernel_rfl) (fun _ _ _ h => h) (Or.inl ⟨by rfl, ?_⟩) (by assumption) ?_
                rotate_left
                · (intro w hSw; (try dsimp only at hSw); go_simp; try with_reducible rfl)
                try simp only [List.getElem_toArray, List.getElem_cons_succ, List.getElem_cons_zero, Act.put, List.setIfInBounds_toArray, List.set_cons_zero, List.set_cons_succ]
                refine wpAnyH_take (i := 2) (v := ?_) rfl (by kernel_rfl) (by kernel_rfl) (by kernel_rfl) (fun _ _ _ h => h) (Or.inl ⟨by rfl, ?_⟩) (by assumption) ?_
                rotate_left
                · (intro w hSw; (try dsimp only at hSw); go_simp; try with_reducible rfl)
                try simp only [List.getElem_toArray, List.getElem_cons_succ, List.getElem_cons_zero, Act.put, List.setIfInBounds_toArray, List.set_cons_zero, List.set_cons_succ]
                refine wpAnyH_ready (rs := [3]) (by kernel_rfl) (by simp) ?_
                refine AllReadyH.cons rfl (fun K hK => ?_) AllReadyH.nil
                go_simp
                refine (HKE.out _ (HBK.out.keep (Below.refl _ _).drew).bel).mono ?_
                rintro e v11 ⟨rfl, hb11⟩
                have HV11 := Lib.hid ((HBK.out.keep (Below.refl _ _).drew).keep hb11)
                clear hb11 b0 b1 b2 b3 lb q0 q1 lg
                obtain ⟨⟨b0, b1, b2, b3⟩, lb⟩ := HV11.out.cells
                obtain ⟨q0, q1, lg⟩ := HQ.out _ HV11.out.bel
                go_wp2_with fail
                refine hK.out _ _ ?_ (fun hHeld => ?_)
                · exact ⟨b0, b1, b2, b3, q0⟩
                clear hK K
                try simp only [List.getElem_toArray, List.getElem_cons_succ, List.getElem_cons_zero, Act.put, List.setIfInBounds_toArray, List.set_cons_zero, List.set_cons_succ]
                refine wpAnyH_take (i := 4) (v := ?_) rfl (by kernel_rfl) (by kernel_rfl) (by kernel_rfl) (fun _ _ _ h => h) (Or.inl ⟨by rfl, ?_⟩) (by assumption) ?_
                rotate_left
                · (intro w hSw; (try dsimp only at hSw); go_simp; try with_reducible rfl)
                try simp only [List.getElem_toArray, List.getElem_cons_succ, List.getElem_cons_zero, Act.put, List.setIfInBounds_toArray, List.set_cons_zero, List.set_cons_succ]
                refine wpAnyH_take (i := 5) (v := ?_) rfl (by kernel_rfl) (by kernel_rfl) (by kernel_rfl) (fun _ _ _ h => h) (Or.inl ⟨by rfl, ?_⟩) (by assumption) ?_
                rotate_left
                · (intro w hSw; (try dsimp only at hSw); go_simp; try with_reducible rfl)
                try simp only [List.getElem_toArray, List.getElem_cons_succ, List.getElem_cons_zero, Act.put, List.setIfInBounds_toArray, List.set_cons_zero, List.set_cons_succ]
                refine wpAnyH_take (i := 6) (v := ?_) rfl (by kernel_rfl) (by kernel_rfl) (by kernel_rfl) (fun _ _ _ h => h) (Or.inl ⟨by rfl, ?_⟩) (by assumption) ?_
                rotate_left
                · (intro w hSw; (try dsimp only at hSw); go_simp; try with_reducible rfl)
                try simp only [List.getElem_toArray, List.getElem_cons_succ, List.getElem_cons_zero, Act.put, List.setIfInBounds_toArray, List.set_cons_zero, List.set_cons_succ]
                refine wpAnyH_take (i := 7) (v := ?_) rfl (by kernel_rfl) (by kernel_rfl) (by kernel_rfl) (fun _ _ _ h => h) (Or.inl ⟨by rfl, ?_⟩) (by assumption) ?_
                rotate_left
                · (intro w hSw; (try dsimp only at hSw); go_simp; try with_reducible rfl)
                try simp only [List.getElem_toArray, List.getElem_cons_succ, List.getElem_cons_zero, Act.put, List.setIfInBounds_toArray, List.set_cons_zero, List.set_cons_succ]
                refine wpAnyH_take (i := 8) (v := ?_) rfl (by kernel_rfl) (by kernel_rfl) (by kernel_rfl) (fun _ _ _ h => h) (Or.inl ⟨by rfl, ?_⟩) (by assumption) ?_
                rotate_left
                · (intro w hSw; (try dsimp only at hSw); go_simp; try with_reducible rfl)
                try simp only [List.getElem_toArray, List.getElem_cons_succ, List.getElem_cons_zero, Act.put, List.setIfInBounds_toArray, List.set_cons_zero, List.set_cons_succ]
                refine wpAnyH_take (i := 9) (v := ?_) rfl (by kernel_rfl) (by kernel_rfl) (by kernel_rfl) (fun _ _ _ h => h) (Or.inl ⟨by rfl, ?_⟩) (by assumption) ?_
                rotate_left
                · (intro w hSw; (try dsimp only at hSw); go_simp; try with_reducible rfl)
                try simp only [List.getElem_toArray, List.getElem_cons_succ, List.getElem_cons_zero, Act.put, List.setIfInBounds_toArray, List.set_cons_zero, List.set_cons_succ]
                refine wpAnyH_take (i := 10) (v := ?_) rfl (by kernel_rfl) (by kernel_rfl) (by kernel_rfl) (fun _ _ _ h => h) (Or.inl ⟨by rfl, ?_⟩) (by assumption) ?_
                rotate_left
                · (intro w hSw; (try dsimp only at hSw); go_simp; try with_reducible rfl)
                try simp only [List.getElem_toArray, List.getElem_cons_succ, List.getElem_cons_zero, Act.put, List.setIfInBounds_toArray, List.set_cons_zero, List.set_cons_succ]
                refine wpAnyH_take (i := 11) (v := ?_) rfl (by kernel_rfl) (by kernel_rfl) (by kernel_rfl) (fun _ _ _ h => h) (Or.inl ⟨by rfl, ?_⟩) (by assumption) ?_
                rotate_left
                · (intro w hSw; (try dsimp only at hSw); go_simp; try with_reducible rfl)
                try simp only [List.getElem_toArray, List.getElem_cons_succ, List.getElem_cons_zero, Act.put, List.setIfInBounds_toArray, List.set_cons_zero, List.set_cons_succ]
                refine wpAnyH_take (i := 12) (v := ?_) rfl (by kernel_rfl) (by kernel_rfl) (by kernel_rfl) (fun _ _ _ h => h) (Or.inl ⟨by rfl, ?_⟩) (by assumption) ?_
                rotate_left
                · (intro w hSw; (try dsimp only at hSw); go_simp; try with_reducible rfl)
                try simp only [List.getElem_toArray, List.getElem_cons_succ, List.getElem_cons_zero, Act.put, List.setIfInBounds_toArray, List.set_cons_zero, List.set_cons_succ]
                refine wpAnyH_take (i := 13) (v := ?_) rfl (by kernel_rfl) (by kernel_rfl) (by kernel_rfl) (fun _ _ _ h => h) (Or.inl ⟨by rfl, ?_⟩) (by assumption) ?_
                rotate_left
                · (intro w hSw; (try dsimp only at hSw); go_simp; try with_reducible rfl)
                try simp only [List.getElem_toArray, List.getElem_cons_succ, List.getElem_cons_zero, Act.put, List.setIfInBounds_toArray, List.set_cons_zero, List.set_cons_succ]
                refine wpAnyH_ready (rs := [14]) (by kernel_rfl) (by simp) ?_
                refine AllReadyH.cons rfl (fun K hK => ?_) AllReadyH.nil
                go_simp
                refine (HSE.out _ HV11.out.bel).mono ?_
                rintro e v12 ⟨rfl, hb12⟩
                have HV12 := Lib.hid (HV11.out.keep hb12)
                clear hb12 b0 b1 b2 b3 lb q0 q1 lg
                obtain ⟨⟨b0, b1, b2, b3⟩, lb⟩ := HV12.out.cells
                obtain ⟨q0, q1, lg⟩ := HQ.out _ HV12.out.bel
                go_wp2_with fail
                refine hK.out _ _ ?_ (fun hHeld => ?_)
                · exact ⟨b0, b1, b2, b3, q0⟩
                clear hK K
                try simp only [List.getElem_toArray, List.getElem_cons_succ, List.getElem_cons_zero, Act.put, List.setIfInBounds_toArray, List.set_cons_zero, List.set_cons_succ]
                refine wpAnyH_take (i := 15) (v := ?_) rfl (by kernel_rfl) (by kernel_rfl) (by kernel_rfl) (fun _ _ _ h => h) (Or.inl ⟨by rfl, ?_⟩) (by assumption) ?_
                rotate_left
                · (intro w hSw; (try dsimp only at hSw); go_simp; try with_reducible rfl)
                try simp only [List.getElem_toArray, List.getElem_cons_succ, List.getElem_cons_zero, Act.put, List.setIfInBounds_toArray, List.set_cons_zero, List.set_cons_succ]
                refine wpAnyH_take (i := 16) (v := ?_) rfl (by kernel_rfl) (by kernel_rfl) (by kernel_rfl) (fun _ _ _ h => h) (Or.inl ⟨by rfl, ?_⟩) (by assumption) ?_
                rotate_left
                · (intro w hSw; (try dsimp only at hSw); go_simp; try with_reducible rfl)
                try simp only [List.getElem_toArray, List.getElem_cons_succ, List.getElem_cons_zero, Act.put, List.setIfInBounds_toArray, List.set_cons_zero, List.set_cons_succ]
                refine wpAnyH_done (by kernel_rfl) ?_ _
                refine NoPanic.normal ?_
                go_wp2_with fail
                go_roundg (p.ms.length - (i + 1))
                case measure => omega
                case rel =>
                  have hnx := HCK.out
                  rw [if_neg HPV.out, if_pos HZ.out, ← HFN.out] at hnx
                  exact ⟨i + 1, by omega, by go_num, (show _ ∧ _ from ⟨HV12.out, by rw [hnx]; congr 1; unfold pvF; rw [if_neg (by omega), Nat.add_sub_cancel, HFI.out]⟩)⟩
              · have HVV := Lib.hid (ck_out HR.out (v := v) (i := i) (by rw [HCK.out, if_neg HPV.out, HSL.out, HSV.out]; simp [hz]) hz)
                have hv2 : (0 : Int) < v := by omega
                clear hz hnn
                refine wp_region_noPanic ?_
                refine wp_region_held_drew (S := (fun w' => w'.cell? ⟨w.heap.size, 0, none⟩ = some (.string ⟨p.nm.toArray⟩) ∧ w'.cell? ⟨w.heap.size, 1, none⟩ = some (.slice s0 p.p0.length c0) ∧ w'.cell? ⟨w.heap.size, 2, none⟩ = some (.slice s1 p.p1.length c1) ∧ w'.cell? ⟨w.heap.size, 3, none⟩ = some (.slice (some ⟨g, o, none⟩) p.ms.length c2) ∧ w'.cell? ⟨g, o + i * 2, none⟩ = some (.int .i64 fr))) (by kernel_rfl) ?_ (fun hHeld => ?_)
                · exact ⟨b0, b1, b2, b3, q0⟩
                refine wpAnyH_take (i := 0) (v := ?_) rfl (by kernel_rfl) (by kernel_rfl) (by kernel_rfl) (fun _ _ _ h => h) (Or.inl ⟨by rfl, ?_⟩) (by assumption) ?_
                rotate_left
                · (intro w hSw; (try dsimp only at hSw); go_simp; try with_reducible rfl)
                try simp only [List.getElem_toArray, List.getElem_cons_succ, List.getElem_cons_zero, Act.put, List.setIfInBounds_toArray, List.set_cons_zero, List.set_cons_succ]
                refine wpAnyH_take (i := 1) (v := ?_) rfl (by kernel_rfl) (by kernel_rfl) (by kernel_rfl) (fun _ _ _ h => h) (Or.inl ⟨by rfl, ?_⟩) (by assumption) ?_
                rotate_left
                · (intro w hSw; (try dsimp only at hSw); go_simp; try with_reducible rfl)
                try simp only [List.getElem_toArray, List.getElem_cons_succ, List.getElem_cons_zero, Act.put, List.setIfInBounds_toArray, List.set_cons_zero, List.set_cons_succ]
                refine wpAnyH_take (i := 2) (v := ?_) rfl (by kernel_rfl) (by kernel_rfl) (by kernel_rfl) (fun _ _ _ h => h) (Or.inl ⟨by rfl, ?_⟩) (by assumption) ?_
                rotate_left
                · (intro w hSw; (try dsimp only at hSw); go_simp; try with_reducible rfl)
                try simp only [List.getElem_toArray, List.getElem_cons_succ, List.getElem_cons_zero, Act.put, List.setIfInBounds_toArray, List.set_cons_zero, List.set_cons_succ]
                refine wpAnyH_ready (rs := [3]) (by kernel_rfl) (by simp) ?_
                refine AllReadyH.cons rfl (fun K hK => ?_) AllReadyH.nil
                go_simp
                refine (HKE.out _ (HBK.out.keep (Below.refl _ _).drew).bel).mono ?_
                rintro e v11 ⟨rfl, hb11⟩
                have HV11 := Lib.hid ((HBK.out.keep (Below.refl _ _).drew).keep hb11)
                clear hb11 b0 b1 b2 b3 lb q0 q1 lg
                obtain ⟨⟨b0, b1, b2, b3⟩, lb⟩ := HV11.out.cells
                obtain ⟨q0, q1, lg⟩ := HQ.out _ HV11.out.bel
                go_wp2_with fail
                refine hK.out _ _ ?_ (fun hHeld => ?_)
                · exact ⟨b0, b1, b2, b3, q0⟩
                clear hK K
                try simp only [List.getElem_toArray, List.getElem_cons_succ, List.getElem_cons_zero, Act.put, List.setIfInBounds_toArray, List.set_cons_zero, List.set_cons_succ]
                refine wpAnyH_take (i := 4) (v := ?_) rfl (by kernel_rfl) (by kernel_rfl) (by kernel_rfl) (fun _ _ _ h => h) (Or.inl ⟨by rfl, ?_⟩) (by assumption) ?_
                rotate_left
                · (intro w hSw; (try dsimp only at hSw); go_simp; try with_reducible rfl)
                try simp only [List.getElem_toArray, List.getElem_cons_succ, List.getElem_cons_zero, Act.put, List.setIfInBounds_toArray, List.set_cons_zero, List.set_cons_succ]
                refine wpAnyH_take (i := 5) (v := ?_) rfl (by kernel_rfl) (by kernel_rfl) (by kernel_rfl) (fun _ _ _ h => h) (Or.inl ⟨by rfl, ?_⟩) (by assumption) ?_
                rotate_left
                · (intro w hSw; (try dsimp only at hSw); go_simp; try with_reducible rfl)
                try simp only [List.getElem_toArray, List.getElem_cons_succ, List.getElem_cons_zero, Act.put, List.setIfInBounds_toArray, List.set_cons_zero, List.set_cons_succ]
                refine wpAnyH_take (i := 6) (v := ?_) rfl (by kernel_rfl) (by kernel_rfl) (by kernel_rfl) (fun _ _ _ h => h) (Or.inl ⟨by rfl, ?_⟩) (by assumption) ?_
                rotate_left
                · (intro w hSw; (try dsimp only at hSw); go_simp; try with_reducible rfl)
                try simp only [List.getElem_toArray, List.getElem_cons_succ, List.getElem_cons_zero, Act.put, List.setIfInBounds_toArray, List.set_cons_zero, List.set_cons_succ]
                refine wpAnyH_take (i := 7) (v := ?_) rfl (by kernel_rfl) (by kernel_rfl) (by kernel_rfl) (fun _ _ _ h => h) (Or.inl ⟨by rfl, ?_⟩) (by assumption) ?_
                rotate_left
                · (intro w hSw; (try dsimp only at hSw); go_simp; try with_reducible rfl)
                try simp only [List.getElem_toArray, List.getElem_cons_succ, List.getElem_cons_zero, Act.put, List.setIfInBounds_toArray, List.set_cons_zero, List.set_cons_succ]
                refine wpAnyH_take (i := 8) (v := ?_) rfl (by kernel_rfl) (by kernel_rfl) (by kernel_rfl) (fun _ _ _ h => h) (Or.inl ⟨by rfl, ?_⟩) (by assumption) ?_
                rotate_left
                · (intro w hSw; (try dsimp only at hSw); go_simp; try with_reducible rfl)
                try simp only [List.getElem_toArray, List.getElem_cons_succ, List.getElem_cons_zero, Act.put, List.setIfInBounds_toArray, List.set_cons_zero, List.set_cons_succ]
                refine wpAnyH_take (i := 9) (v := ?_) rfl (by kernel_rfl) (by kernel_rfl) (by kernel_rfl) (fun _ _ _ h => h) (Or.inl ⟨by rfl, ?_⟩) (by assumption) ?_
                rotate_left
                · (intro w hSw; (try dsimp only at hSw); go_simp; try with_reducible rfl)
                try simp only [List.getElem_toArray, List.getElem_cons_succ, List.getElem_cons_zero, Act.put, List.setIfInBounds_toArray, List.set_cons_zero, List.set_cons_succ]
                refine wpAnyH_take (i := 10) (v := ?_) rfl (by kernel_rfl) (by kernel_rfl) (by kernel_rfl) (fun _ _ _ h => h) (Or.inl ⟨by rfl, ?_⟩) (by assumption) ?_
                rotate_left
                · (intro w hSw; (try dsimp only at hSw); go_simp; try with_reducible rfl)
                try simp only [List.getElem_toArray, List.getElem_cons_succ, List.getElem_cons_zero, Act.put, List.setIfInBounds_toArray, List.set_cons_zero, List.set_cons_succ]
                refine wpAnyH_take (i := 11) (v := ?_) rfl (by kernel_rfl) (by kernel_rfl) (by kernel_rfl) (fun _ _ _ h => h) (Or.inl ⟨by rfl, ?_⟩) (by assumption) ?_
                rotate_left
                · (intro w hSw; (try dsimp only at hSw); go_simp; try with_reducible rfl)
                try simp only [List.getElem_toArray, List.getElem_cons_succ, List.getElem_cons_zero, Act.put, List.setIfInBounds_toArray, List.set_cons_zero, List.set_cons_succ]
                refine wpAnyH_take (i := 12) (v := ?_) rfl (by kernel_rfl) (by kernel_rfl) (by kernel_rfl) (fun _ _ _ h => h) (Or.inl ⟨by rfl, ?_⟩) (by assumption) ?_
                rotate_left
                · (intro w hSw; (try dsimp only at hSw); go_simp; try with_reducible rfl)
                try simp only [List.getElem_toArray, List.getElem_cons_succ, List.getElem_cons_zero, Act.put, List.setIfInBounds_toArray, List.set_cons_zero, List.set_cons_succ]
                refine wpAnyH_take (i := 13) (v := ?_) rfl (by kernel_rfl) (by kernel_rfl) (by kernel_rfl) (fun _ _ _ h => h) (Or.inl ⟨by rfl, ?_⟩) (by assumption) ?_
                rotate_left
                · (intro w hSw; (try dsimp only at hSw); go_simp; try with_reducible rfl)
                try simp only [List.getElem_toArray, List.getElem_cons_succ, List.getElem_cons_zero, Act.put, List.setIfInBounds_toArray, List.set_cons_zero, List.set_cons_succ]
                refine wpAnyH_ready (rs := [14]) (by kernel_rfl) (by simp) ?_
                refine AllReadyH.cons rfl (fun K hK => ?_) AllReadyH.nil
                go_simp
                refine (HSE.out _ HV11.out.bel).mono ?_
                rintro e v12 ⟨rfl, hb12⟩
                have HV12 := Lib.hid (HV11.out.keep hb12)
                clear hb12 b0 b1 b2 b3 lb q0 q1 lg
                obtain ⟨⟨b0, b1, b2, b3⟩, lb⟩ := HV12.out.cells
                obtain ⟨q0, q1, lg⟩ := HQ.out _ HV12.out.bel
                go_wp2_with fail
                refine hK.out _ _ ?_ (fun hHeld => ?_)
                · exact ⟨b0, b1, b2, b3, q0⟩
                clear hK K
                try simp only [List.getElem_toArray, List.getElem_cons_succ, List.getElem_cons_zero, Act.put, List.setIfInBounds_toArray, List.set_cons_zero, List.set_cons_succ]
                refine wpAnyH_take (i := 15) (v := ?_) rfl (by kernel_rfl) (by kernel_rfl) (by kernel_rfl) (fun _ _ _ h => h) (Or.inl ⟨by rfl, ?_⟩) (by assumption) ?_
                rotate_left
                · (intro w hSw; (try dsimp only at hSw); go_simp; try with_reducible rfl)
                try simp only [List.getElem_toArray, List.getElem_cons_succ, List.getElem_cons_zero, Act.put, List.setIfInBounds_toArray, List.set_cons_zero, List.set_cons_succ]
                refine wpAnyH_take (i := 16) (v := ?_) rfl (by kernel_rfl) (by kernel_rfl) (by kernel_rfl) (fun _ _ _ h => h) (Or.inl ⟨by rfl, ?_⟩) (by assumption) ?_
                rotate_left
                · (intro w hSw; (try dsimp only at hSw); go_simp; try with_reducible rfl)
                try simp only [List.getElem_toArray, List.getElem_cons_succ, List.getElem_cons_zero, Act.put, List.setIfInBounds_toArray, List.set_cons_zero, List.set_cons_succ]
                refine wpAnyH_done (by kernel_rfl) ?_ _
                refine NoPanic.normal ?_
                go_wp2_with fail
                refine wp_region_noPanic ?_
                refine wp_region_held_drew (S := (fun w' => w'.cell? ⟨w.heap.size, 0, none⟩ = some (.string ⟨p.nm.toArray⟩) ∧ w'.cell? ⟨w.heap.size, 1, none⟩ = some (.slice s0 p.p0.length c0) ∧ w'.cell? ⟨w.heap.size, 2, none⟩ = some (.slice s1 p.p1.length c1) ∧ w'.cell? ⟨w.heap.size, 3, none⟩ = some (.slice (some ⟨g, o, none⟩) p.ms.length c2) ∧ w'.cell? ⟨g, o + i * 2, none⟩ = some (.int .i64 fr))) (by kernel_rfl) ?_ (fun hHeld => ?_)
                · exact ⟨b0, b1, b2, b3, q0⟩
                refine wpAnyH_take (i := 0) (v := ?_) rfl (by kernel_rfl) (by kernel_rfl) (by kernel_rfl) (fun _ _ _ h => h) (Or.inl ⟨by rfl, ?_⟩) (by assumption) ?_
                rotate_left
                · (intro w hSw; (try dsimp only at hSw); go_simp; try with_reducible rfl)
                try simp only [List.getElem_toArray, List.getElem_cons_succ, List.getElem_cons_zero, Act.put, List.setIfInBounds_toArray, List.set_cons_zero, List.set_cons_succ]
                refine wpAnyH_take (i := 1) (v := ?_) rfl (by kernel_rfl) (by kernel_rfl) (by kernel_rfl) (fun _ _ _ h => h) (Or.inl ⟨by rfl, ?_⟩) (by assumption) ?_
                rotate_left
                · (intro w hSw; (try dsimp only at hSw); go_simp; try with_reducible rfl)
                try simp only [List.getElem_toArray, List.getElem_cons_succ, List.getElem_cons_zero, Act.put, List.setIfInBounds_toArray, List.set_cons_zero, List.set_cons_succ]
                refine wpAnyH_take (i := 2) (v := ?_) rfl (by kernel_rfl) (by kernel_rfl) (by kernel_rfl) (fun _ _ _ h => h) (Or.inl ⟨by rfl, ?_⟩) (by assumption) ?_
                rotate_left
                · (intro w hSw; (try dsimp only at hSw); go_simp; try with_reducible rfl)
                try simp only [List.getElem_toArray, List.getElem_cons_succ, List.getElem_cons_zero, Act.put, List.setIfInBounds_toArray, List.set_cons_zero, List.set_cons_succ]
                refine wpAnyH_take (i := 3) (v := ?_) rfl (by kernel_rfl) (by kernel_rfl) (by kernel_rfl) (fun _ _ _ h => h) (Or.inl ⟨by rfl, ?_⟩) (by assumption) ?_
                rotate_left
                · (intro w hSw; (try dsimp only at hSw); go_simp; try with_reducible rfl)
                try simp only [List.getElem_toArray, List.getElem_cons_succ, List.getElem_cons_zero, Act.put, List.setIfInBounds_toArray, List.set_cons_zero, List.set_cons_succ]
                refine wpAnyH_take (i := 4) (v := ?_) rfl (by kernel_rfl) (by kernel_rfl) (by kernel_rfl) (fun _ _ _ h => h) (Or.inl ⟨by rfl, ?_⟩) (by assumption) ?_
                rotate_left
                · (intro w hSw; (try dsimp only at hSw); go_simp; try with_reducible rfl)
                try simp only [List.getElem_toArray, List.getElem_cons_succ, List.getElem_cons_zero, Act.put, List.setIfInBounds_toArray, List.set_cons_zero, List.set_cons_succ]
                refine wpAnyH_take (i := 5) (v := ?_) rfl (by kernel_rfl) (by kernel_rfl) (by kernel_rfl) (fun _ _ _ h => h) (Or.inl ⟨by rfl, ?_⟩) (by assumption) ?_
                rotate_left
                · (intro w hSw; (try dsimp only at hSw); go_simp; try with_reducible rfl)
                try simp only [List.getElem_toArray, List.getElem_cons_succ, List.getElem_cons_zero, Act.put, List.setIfInBounds_toArray, List.set_cons_zero, List.set_cons_succ]
                refine wpAnyH_take (i := 6) (v := ?_) rfl (by kernel_rfl) (by kernel_rfl) (by kernel_rfl) (fun _ _ _ h => h) (Or.inl ⟨by rfl, ?_⟩) (by assumption) ?_
                rotate_left
                · (intro w hSw; (try dsimp only at hSw); go_simp; try with_reducible rfl)
                try simp only [List.getElem_toArray, List.getElem_cons_succ, List.getElem_cons_zero, Act.put, List.setIfInBounds_toArray, List.set_cons_zero, List.set_cons_succ]
                refine wpAnyH_take (i := 7) (v := ?_) rfl (by kernel_rfl) (by kernel_rfl) (by kernel_rfl) (fun _ _ _ h => h) (Or.inl ⟨by rfl, ?_⟩) (by assumption) ?_
                rotate_left
                · (intro w hSw; (try dsimp only at hSw); go_simp; try with_reducible rfl)
                try simp only [List.getElem_toArray, List.getElem_cons_succ, List.getElem_cons_zero, Act.put, List.setIfInBounds_toArray, List.set_cons_zero, List.set_cons_succ]
                refine wpAnyH_take (i := 8) (v := ?_) rfl (by kernel_rfl) (by kernel_rfl) (by kernel_rfl) (fun _ _ _ h => h) (Or.inl ⟨by rfl, ?_⟩) (by assumption) ?_
                rotate_left
                · (intro w hSw; (try dsimp only at hSw); go_simp; try with_reducible rfl)
                try simp only [List.getElem_toArray, List.getElem_cons_succ, List.getElem_cons_zero, Act.put, List.setIfInBounds_toArray, List.set_cons_zero, List.set_cons_succ]
                have HV12b := Lib.hid (HV12.out)
                refine wpAnyH_take (i := 10) (v := ?_) rfl (by kernel_rfl) (by kernel_rfl) (by kernel_rfl) (fun _ _ _ h => h) (Or.inl ⟨by rfl, ?_⟩) (by assumption) ?_
                rotate_left
                · (intro w hSw; (try dsimp only at hSw); go_simp; try with_reducible rfl)
                try simp only [List.getElem_toArray, List.getElem_cons_succ, List.getElem_cons_zero, Act.put, List.setIfInBounds_toArray, List.set_cons_zero, List.set_cons_succ]
                refine wpAnyH_ready (rs := [9]) (by kernel_rfl) (by simp) ?_
                refine AllReadyH.cons rfl (fun K hK => ?_) AllReadyH.nil
                go_simp
                refine (HSE.out _ (HV12.out.keep (Below.refl _ _).drew).bel).mono ?_
                rintro e v13 ⟨rfl, hb13⟩
                have HV13 := Lib.hid ((HV12.out.keep (Below.refl _ _).drew).keep hb13)
                clear hb13 b0 b1 b2 b3 lb q0 q1 lg
                obtain ⟨⟨b0, b1, b2, b3⟩, lb⟩ := HV13.out.cells
                obtain ⟨q0, q1, lg⟩ := HQ.out _ HV13.out.bel
                go_wp2_with fail
                refine hK.out _ _ ?_ (fun hHeld => ?_)
                · exact ⟨b0, b1, b2, b3, q0⟩
                clear hK K
                try simp only [List.getElem_toArray, List.getElem_cons_succ, List.getElem_cons_zero, Act.put, List.setIfInBounds_toArray, List.set_cons_zero, List.set_cons_succ]
                refine wpAnyH_take (i := 11) (v := ?_) rfl (by kernel_rfl) (by kernel_rfl) (by kernel_rfl) (fun _ _ _ h => h) (Or.inl ⟨by rfl, ?_⟩) (by assumption) ?_
                rotate_left
                · (intro w hSw; (try dsimp only at hSw); go_simp; try with_reducible rfl)
                try simp only [List.getElem_toArray, List.getElem_cons_succ, List.getElem_cons_zero, Act.put, List.setIfInBounds_toArray, List.set_cons_zero, List.set_cons_succ]
                refine wpAnyH_take (i := 12) (v := ?_) rfl (by kernel_rfl) (by kernel_rfl) (by kernel_rfl) (fun _ _ _ h => h) (Or.inl ⟨by rfl, ?_⟩) (by assumption) ?_
                rotate_left
                · (intro w hSw; (try dsimp only at hSw); go_simp; try with_reducible rfl)
                try simp only [List.getElem_toArray, List.getElem_cons_succ, List.getElem_cons_zero, Act.put, List.setIfInBounds_toArray, List.set_cons_zero, List.set_cons_succ]
                refine wpAnyH_take (i := 13) (v := ?_) rfl (by kernel_rfl) (by kernel_rfl) (by kernel_rfl) (fun _ _ _ h => h) (Or.inl ⟨by rfl, ?_⟩) (by assumption) ?_
                rotate_left
                · (intro w hSw; (try dsimp only at hSw); go_simp; try with_reducible rfl)
                try simp only [List.getElem_toArray, List.getElem_cons_succ, List.getElem_cons_zero, Act.put, List.setIfInBounds_toArray, List.set_cons_zero, List.set_cons_succ]
                refine wpAnyH_done (by kernel_rfl) ?_ _
                refine NoPanic.normal ?_
                go_wp2_with fail
                go_ret3
                exact ⟨by rw [HVV.out.1, HVV.out.2.1, HVV.out.2.2]; rfl, HV13.out.bel⟩
      · obtain ⟨j, hj⟩ : ∃ j, i = j + 1 := ⟨i - 1, by omega⟩
        obtain ⟨g', o', e', hia⟩ := HIM.out HLN.out
        cases e'
        obtain ⟨qj', -⟩ := hia j (by have := HLT.out; omega)
        obtain ⟨fj, hfj⟩ : ∃ fj, fj = (p.ms.getD j default).fr := ⟨_, rfl⟩
        rw [← hfj] at qj'
        have qj := (HBR.out.bel.cell (p := ⟨g, o + j * 2, none⟩) (World.block_lt_of_cell? _ _ qj')).trans qj'
        have HPJ : Hid (pvF p.ms i = some fj) := Lib.hid (by rw [hj, hfj]; unfold pvF; simp)
        have hz0 : (0 : Int) < i := by omega
        have hw : IntKind.i64.wrap ((i : Int) - 1) = (j : Int) := by
          rw [hj]
          have : ((((j + 1 : Nat) : Int)) - 1) = (j : Int) := by omega
          rw [this]
          exact wrap_le (by omega) (by have := HLT.out; omega)
        have hjn : (j : Int) < p.ms.length := by omega
        have hjn2 : j < p.ms.length := by omega
        clear hfj hia qj'
        by_cases hff : fr = fj
        · have HV := Lib.hid (ck_out HR.out (v := 1) (i := i) (by rw [HCK.out, if_pos (by rw [HPJ.out, hff])]) (by decide))
          have hfb : (fr == fj) = true := by simpa using hff
          clear hff hj
          go_wp2_with fail
          go_quiet (fail)
          go_wp2_with fail
          go_ret3
          exact ⟨by rw [HV.out.1, HV.out.2.1, HV.out.2.2]; rfl, belowN HBR.out.bel⟩
        · have HPV : Hid (pvF p.ms i ≠ some fr) := Lib.hid (by rw [HPJ.out]; intro e; cases e; exact hff rfl)
          have hfb : (fr == fj) = false := by simpa using hff
          clear hff hj
          go_wp2_with fail
          go_quiet (fail)
          clear qj
          have HBQ := Lib.hid (fun nq => HBR.out.keep (belowN (q := nq) (Below.refl _ _)))
          go_wp2_with fail
          have HIT : Hid (∀ nqv, Bf w w.heap.size ⟨s0, c0, s1, c1, some ⟨g, o, none⟩, c2⟩ p (wo.drewN nqv) ∧ rtk p fr (flat (p.ms.take i)) ts = rtk p fr (flat (p.ms.take i) ++ (ts.take 0).map fun t => (fr, t)) (ts.drop 0)) := Lib.hid (fun nqv => ⟨HBQ.out nqv, by simp⟩)
          clear b0 b1 b2 b3 lb q0 q1 lg
          go_loopg [6] m (fun q u6 wr => ∃ k : Nat, k + q = m ∧ u6 = .int .i64 k ∧ Aside (Bf w w.heap.size ⟨s0, c0, s1, c1, some ⟨g, o, none⟩, c2⟩ p wr ∧ rtk p fr (flat (p.ms.take i)) ts = rtk p fr (flat (p.ms.take i) ++ (ts.take k).map fun t => (fr, t)) (ts.drop k)))
          case atStart => exact ⟨0, by omega, rfl, HIT.out _⟩
          case round =>
            obtain ⟨k, hkq, rfl, hk⟩ := hrel
            have HK := Lib.hid hk.out; clear hk
            have HBK := Lib.hid HK.out.1
            obtain ⟨⟨b0, b1, b2, b3⟩, lb⟩ := HBK.out.cells
            obtain ⟨q0, q1, lg⟩ := HQ.out _ HBK.out.bel
            by_cases hkl : k < m
            · have hk2 : (k : Int) < m := by omega
              have HO1 := Lib.hid (HOE.out k hkl wr HBK.out.bel)
              have HRN := Lib.hid (rtk_next (p := p) (r := fr) (L := flat (p.ms.take i) ++ (ts.take k).map fun t => (fr, t)) (show k < ts.length by have := HM.out; omega))
              have HMX := Lib.hid (map_next (r := fr) (L := flat (p.ms.take i)) (show k < ts.length by have := HM.out; omega))
              have hnn := rone_nn p fr (ts.getD k 0) (flat (p.ms.take i) ++ (ts.take k).map fun t => (fr, t))
              obtain ⟨v, hv⟩ : ∃ v, v = rone p fr (ts.getD k 0) (flat (p.ms.take i) ++ (ts.take k).map fun t => (fr, t)) := ⟨_, rfl⟩
              rw [← hv] at HO1 HRN hnn
              clear hv
              go_wp2_with fail
              go_at_call 28
              refine HO1.out.mono ?_
              rintro e w5 ⟨rfl, hb5⟩
              have HB5 := Lib.hid (HBK.out.keep hb5)
              clear hb5 b0 b1 b2 b3 lb q0 q1 lg
              obtain ⟨⟨b0, b1, b2, b3⟩, lb⟩ := HB5.out.cells
              obtain ⟨q0, q1, lg⟩ := HQ.out _ HB5.out.bel
              by_cases hz : v = 0
              · have HST : Hid (rtk p fr (flat (p.ms.take i)) ts = rtk p fr (flat (p.ms.take i) ++ (ts.take (k + 1)).map fun t => (fr, t)) (ts.drop (k + 1))) := Lib.hid (by
                  have h := HRN.out
                  rw [if_pos hz, ← HMX.out] at h
                  exact HK.out.2.trans h)
                subst hz
                clear hnn
                go_wp2_with fail
                go_roundg (m - (k + 1))
                case measure => omega
                case rel => exact ⟨k + 1, by omega, by go_num, (show _ ∧ _ from ⟨HB5.out, HST.out⟩)⟩
              · have HV := Lib.hid (ck_out HR.out (v := v) (i := i) (by
                  have h := HRN.out
                  rw [if_neg hz] at h
                  have h2 := HK.out.2.trans h
                  rw [HCK.out, if_neg HPV.out, h2, if_neg hz]) hz)
                have hv2 : (0 : Int) < v := by omega
                clear hz hnn
                go_wp2_with fail
                go_ret3
                exact ⟨by rw [HV.out.1, HV.out.2.1, HV.out.2.2]; rfl, HB5.out.bel⟩
            · have hk2 : ¬ (k : Int) < m := by omega
              have HSL : Hid (rtk p fr (flat (p.ms.take i)) ts = sl p fr (ahd p.ms i m)) := Lib.hid (by
                have h := HK.out.2
                rw [rtk_end (by have := HM.out; omega)] at h
                rw [HAH.out m]
                have e : ts.take k = ts.take m := by rw [List.take_of_length_le (by have := HM.out; omega), List.take_of_length_le (by have := HM.out; omega)]
                rw [e] at h; exact h)
              have HKE := Lib.hid (fun wx hb => HKEY.out i m (by have := HLT.out; omega) (by omega) wx hb)
              have HSE := Lib.hid (fun wx hb => HSEA.out fr HMM.out.1 i m (by have := HLT.out; omega) (by omega) wx hb)
              have hnn := rsl_nn p fr (ahd p.ms i m)
              obtain ⟨v, hv⟩ : ∃ v, v = rsl p fr (ahd p.ms i m) := ⟨_, rfl⟩
              obtain ⟨ky, hky⟩ : ∃ ky, ky = rkey p (ahd p.ms i m) := ⟨_, rfl⟩
              have HSV : Hid (sl p fr (ahd p.ms i m) = if ky then v else 0) := Lib.hid (by unfold sl; rw [hv, hky])
              rw [← hv] at HSE hnn
              rw [← hky] at HKE
              clear hv hky
              go_wp2_with fail
              cases ky with
              | false =>
                have HZ : Hid (rtk p fr (flat (p.ms.take i)) ts = 0) := Lib.hid (by rw [HSL.out, HSV.out]; rfl)
                clear hnn
                refine wp_region_noPanic ?_
                refine wp_region_held_drew (S := (fun w' => w'.cell? ⟨w.heap.size, 0, none⟩ = some (.string ⟨p.nm.toArray⟩) ∧ w'.cell? ⟨w.heap.size, 1, none⟩ = some (.slice s0 p.p0.length c0) ∧ w'.cell? ⟨w.heap.size, 2, none⟩ = some (.slice s1 p.p1.length c1) ∧ w'.cell? ⟨w.heap.size, 3, none⟩ = some (.slice (some ⟨g, o, none⟩) p.ms.length c2) ∧ w'.cell? ⟨g, o + i * 2, none⟩ = some (.int .i64 fr))) (by kernel_rfl) ?_ (fun hHeld => ?_)
                · exact ⟨b0, b1, b2, b3, q0⟩
                refine wpAnyH_take (i := 0) (v := ?_) rfl (by kernel_rfl) (by kernel_rfl) (by kernel_rfl) (fun _ _ _ h => h) (Or.inl ⟨by rfl, ?_⟩) (by assumption) ?_
                rotate_left
                · (intro w hSw; (try dsimp only at hSw); go_simp; try with_reducible rfl)
                try simp only [List.getElem_toArray, List.getElem_cons_succ, List.getElem_cons_zero, Act.put, List.setIfInBounds_toArray, List.set_cons_zero, List.set_cons_succ]
                refine wpAnyH_take (i := 1) (v := ?_) rfl (by kernel_rfl) (by kernel_rfl) (by kernel_rfl) (fun _ _ _ h => h) (Or.inl ⟨by rfl, ?_⟩) (by assumption) ?_
                rotate_left
                · (intro w hSw; (try dsimp only at hSw); go_simp; try with_reducible rfl)
                try simp only [List.getElem_toArray, List.getElem_cons_succ, List.getElem_cons_zero, Act.put, List.setIfInBounds_toArray, List.set_cons_zero, List.set_cons_succ]
                refine wpAnyH_take (i := 2) (v := ?_) rfl (by kernel_rfl) (by kernel_rfl) (by kernel_rfl) (fun _ _ _ h => h) (Or.inl ⟨by rfl, ?_⟩) (by assumption) ?_
                rotate_left
                · (intro w hSw; (try dsimp only at hSw); go_simp; try with_reducible rfl)
                try simp only [List.getElem_toArray, List.getElem_cons_succ, List.getElem_cons_zero, Act.put, List.setIfInBounds_toArray, List.set_cons_zero, List.set_cons_succ]
                refine wpAnyH_ready (rs := [3]) (by kernel_rfl) (by simp) ?_
                refine AllReadyH.cons rfl (fun K hK => ?_) AllReadyH.nil
                go_simp
                refine (HKE.out _ (HBK.out.keep (Below.refl _ _).drew).bel).mono ?_
                rintro e v11 ⟨rfl, hb11⟩
                have HV11 := Lib.hid ((HBK.out.keep (Below.refl _ _).drew).keep hb11)
                clear hb11 b0 b1 b2 b3 lb q0 q1 lg
                obtain ⟨⟨b0, b1, b2, b3⟩, lb⟩ := HV11.out.cells
                obtain ⟨q0, q1, lg⟩ := HQ.out _ HV11.out.bel
                go_wp2_with fail
                refine hK.out _ _ ?_ (fun hHeld => ?_)
                · exact ⟨b0, b1, b2, b3, q0⟩
                clear hK K
                try simp only [List.getElem_toArray, List.getElem_cons_succ, List.getElem_cons_zero, Act.put, List.setIfInBounds_toArray, List.set_cons_zero, List.set_cons_succ]
                refine wpAnyH_take (i := 4) (v := ?_) rfl (by kernel_rfl) (by kernel_rfl) (by kernel_rfl) (fun _ _ _ h => h) (Or.inl ⟨by rfl, ?_⟩) (by assumption) ?_
                rotate_left
                · (intro w hSw; (try dsimp only at hSw); go_simp; try with_reducible rfl)
                try simp only [List.getElem_toArray, List.getElem_cons_succ, List.getElem_cons_zero, Act.put, List.setIfInBounds_toArray, List.set_cons_zero, List.set_cons_succ]
                refine wpAnyH_take (i := 5) (v := undef) rfl (by kernel_rfl) (by kernel_rfl) (by kernel_rfl) (fun _ _ _ h => h) (Or.inr ⟨by rfl, rfl⟩) (by assumption) ?_
                try simp only [List.getElem_toArray, List.getElem_cons_succ, List.getElem_cons_zero, Act.put, List.setIfInBounds_toArray, List.set_cons_zero, List.set_cons_succ]
                refine wpAnyH_take (i := 6) (v := undef) rfl (by kernel_rfl) (by kernel_rfl) (by kernel_rfl) (fun _ _ _ h => h) (Or.inr ⟨by rfl, rfl⟩) (by assumption) ?_
                try simp only [List.getElem_toArray, List.getElem_cons_succ, List.getElem_cons_zero, Act.put, List.setIfInBounds_toArray, List.set_cons_zero, List.set_cons_succ]
                refine wpAnyH_take (i := 7) (v := undef) rfl (by kernel_rfl) (by kernel_rfl) (by kernel_rfl) (fun _ _ _ h => h) (Or.inr ⟨by rfl, rfl⟩) (by assumption) ?_
                try simp only [List.getElem_toArray, List.getElem_cons_succ, List.getElem_cons_zero, Act.put, List.setIfInBounds_toArray, List.set_cons_zero, List.set_cons_succ]
                refine wpAnyH_take (i := 8) (v := undef) rfl (by kernel_rfl) (by kernel_rfl) (by kernel_rfl) (fun _ _ _ h => h) (Or.inr ⟨by rfl, rfl⟩) (by assumption) ?_
                try simp only [List.getElem_toArray, List.getElem_cons_succ, List.getElem_cons_zero, Act.put, List.setIfInBounds_toArray, List.set_cons_zero, List.set_cons_succ]
                refine wpAnyH_take (i := 9) (v := undef) rfl (by kernel_rfl) (by kernel_rfl) (by kernel_rfl) (fun _ _ _ h => h) (Or.inr ⟨by rfl, rfl⟩) (by assumption) ?_
                try simp only [List.getElem_toArray, List.getElem_cons_succ, List.getElem_cons_zero, Act.put, List.setIfInBounds_toArray, List.set_cons_zero, List.set_cons_succ]
                refine wpAnyH_take (i := 10) (v := undef) rfl (by kernel_rfl) (by kernel_rfl) (by kernel_rfl) (fun _ _ _ h => h) (Or.inr ⟨by rfl, rfl⟩) (by assumption) ?_
                try simp only [List.getElem_toArray, List.getElem_cons_succ, List.getElem_cons_zero, Act.put, List.setIfInBounds_toArray, List.set_cons_zero, List.set_cons_succ]
                refine wpAnyH_take (i := 11) (v := undef) rfl (by kernel_rfl) (by kernel_rfl) (by kernel_rfl) (fun _ _ _ h => h) (Or.inr ⟨by rfl, rfl⟩) (by assumption) ?_
                try simp only [List.getElem_toArray, List.getElem_cons_succ, List.getElem_cons_zero, Act.put, List.setIfInBounds_toArray, List.set_cons_zero, List.set_cons_succ]
                refine wpAnyH_take (i := 12) (v := undef) rfl (by kernel_rfl) (by kernel_rfl) (by kernel_rfl) (fun _ _ _ h => h) (Or.inr ⟨by rfl, rfl⟩) (by assumption) ?_
                try simp only [List.getElem_toArray, List.getElem_cons_succ, List.getElem_cons_zero, Act.put, List.setIfInBounds_toArray, List.set_cons_zero, List.set_cons_succ]
                refine wpAnyH_take (i := 13) (v := undef) rfl (by kernel_rfl) (by kernel_rfl) (by kernel_rfl) (fun _ _ _ h => h) (Or.inr ⟨by rfl, rfl⟩) (by assumption) ?_
                try simp only [List.getElem_toArray, List.getElem_cons_succ, List.getElem_cons_zero, Act.put, List.setIfInBounds_toArray, List.set_cons_zero, List.set_cons_succ]
                refine wpAnyH_take (i := 14) (v := undef) rfl (by kernel_rfl) (by kernel_rfl) (by kernel_rfl) (fun _ _ _ h => h) (Or.inr ⟨by rfl, rfl⟩) (by assumption) ?_
                try simp only [List.getElem_toArray, List.getElem_cons_succ, List.getElem_cons_zero, Act.put, List.setIfInBounds_toArray, List.set_cons_zero, List.set_cons_succ]
                refine wpAnyH_take (i := 15) (v := undef) rfl (by kernel_rfl) (by kernel_rfl) (by kernel_rfl) (fun _ _ _ h => h) (Or.inr ⟨by rfl, rfl⟩) (by assumption) ?_
                try simp only [List.getElem_toArray, List.getElem_cons_succ, List.getElem_cons_zero, Act.put, List.setIfInBounds_toArray, List.set_cons_zero, List.set_cons_succ]
                refine wpAnyH_take (i := 16) (v := ?_) rfl (by kernel_rfl) (by kernel_rfl) (by kernel_rfl) (fun _ _ _ h => h) (Or.inl ⟨by rfl, ?_⟩) (by assumption) ?_
                rotate_left
                · (intro w hSw; (try dsimp only at hSw); go_simp; try with_reducible rfl)
                try simp only [List.getElem_toArray, List.getElem_cons_succ, List.getElem_cons_zero, Act.put, List.setIfInBounds_toArray, List.set_cons_zero, List.set_cons_succ]
                refine wpAnyH_done (by kernel_rfl) ?_ _
                refine NoPanic.normal ?_
                go_wp2_with fail
                go_roundg (p.ms.length - (i + 1))
                case measure => omega
                case rel =>
                  have hnx := HCK.out
                  rw [if_neg HPV.out, if_pos HZ.out, ← HFN.out] at hnx
                  exact ⟨i + 1, by omega, by go_num, (show _ ∧ _ from ⟨HV11.out, by rw [hnx]; congr 1; unfold pvF; rw [if_neg (by omega), Nat.add_sub_cancel, HFI.out]⟩)⟩
              | true =>
                by_cases hz : v = 0
                · have HZ : Hid (rtk p fr (flat (p.ms.take i)) ts = 0) := Lib.hid (by rw [HSL.out, HSV.out, hz]; rfl)
                  subst hz
                  clear hnn
                  refine wp_region_noPanic ?_
                  refine wp_region_held_drew (S := (fun w' => w'.cell? ⟨w.heap.size, 0, none⟩ = some (.string ⟨p.nm.toArray⟩) ∧ w'.cell? ⟨w.heap.size, 1, none⟩ = some (.slice s0 p.p0.length c0) ∧ w'.cell? ⟨w.heap.size, 2, none⟩ = some (.slice s1 p.p1.length c1) ∧ w'.cell? ⟨w.heap.size, 3, none⟩ = some (.slice (some ⟨g, o, none⟩) p.ms.length c2) ∧ w'.cell? ⟨g, o + i * 2, none⟩ = some (.int .i64 fr))) (by kernel_rfl) ?_ (fun hHeld => ?_)
                  · exact ⟨b0, b1, b2, b3, q0⟩
                  refine wpAnyH_take (i := 0) (v := ?_) rfl (by kernel_rfl) (by kernel_rfl) (by kernel_rfl) (fun _ _ _ h => h) (Or.inl ⟨by rfl, ?_⟩) (by assumption) ?_
                  rotate_left
                  · (intro w hSw; (try dsimp only at hSw); go_simp; try with_reducible rfl)
                  try simp only [List.getElem_toArray, List.getElem_cons_succ, List.getElem_cons_zero, Act.put, List.setIfInBounds_toArray, List.set_cons_zero, List.set_cons_succ]
                  refine wpAnyH_take (i := 1) (v := ?_) rfl (by kernel_rfl) (by kernel_rfl) (by kernel_rfl) (fun _ _ _ h => h) (Or.inl ⟨by rfl, ?_⟩) (by assumption) ?_
                  rotate_left
                  · (intro w hSw; (try dsimp only at hSw); go_simp; try with_reducible rfl)
                  try simp only [List.getElem_toArray, List.getElem_cons_succ, List.getElem_cons_zero, Act.put, List.setIfInBounds_toArray, List.set_cons_zero, List.set_cons_succ]
                  refine wpAnyH_take (i := 2) (v := ?_) rfl (by kernel_rfl) (by kernel_rfl) (by kernel_rfl) (fun _ _ _ h => h) (Or.inl ⟨by rfl, ?_⟩) (by assumption) ?_
                  rotate_left
                  · (intro w hSw; (try dsimp only at hSw); go_simp; try with_reducible rfl)
                  try simp only [List.getElem_toArray, List.getElem_cons_succ, List.getElem_cons_zero, Act.put, List.setIfInBounds_toArray, List.set_cons_zero, List.set_cons_succ]
                  refine wpAnyH_ready (rs := [3]) (by kernel_rfl) (by simp) ?_
                  refine AllReadyH.cons rfl (fun K hK => ?_) AllReadyH.nil
                  go_simp
                  refine (HKE.out _ (HBK.out.keep (Below.refl _ _).drew).bel).mono ?_
                  rintro e v11 ⟨rfl, hb11⟩
                  have HV11 := Lib.hid ((HBK.out.keep (Below.refl _ _).drew).keep hb11)
                  clear hb11 b0 b1 b2 b3 lb q0 q1 lg
                  obtain ⟨⟨b0, b1, b2, b3⟩, lb⟩ := HV11.out.cells
                  obtain ⟨q0, q1, lg⟩ := HQ.out _ HV11.out.bel
                  go_wp2_with fail
                  refine hK.out _ _ ?_ (fun hHeld => ?_)
                  · exact ⟨b0, b1, b2, b3, q0⟩
                  clear hK K
                  try simp only [List.getElem_toArray, List.getElem_cons_succ, List.getElem_cons_zero, Act.put, List.setIfInBounds_toArray, List.set_cons_zero, List.set_cons_succ]
                  refine wpAnyH_take (i := 4) (v := ?_) rfl (by kernel_rfl) (by kernel_rfl) (by kernel_rfl) (fun _ _ _ h => h) (Or.inl ⟨by rfl, ?_⟩) (by assumption) ?_
                  rotate_left
                  · (intro w hSw; (try dsimp only at hSw); go_simp; try with_reducible rfl)
                  try simp only [List.getElem_toArray, List.getElem_cons_succ, List.getElem_cons_zero, Act.put, List.setIfInBounds_toArray, List.set_cons_zero, List.set_cons_succ]
                  refine wpAnyH_take (i := 5) (v := ?_) rfl (by kernel_rfl) (by kernel_rfl) (by kernel_rfl) (fun _ _ _ h => h) (Or.inl ⟨by rfl, ?_⟩) (by assumption) ?_
                  rotate_left
                  · (intro w hSw; (try dsimp only at hSw); go_simp; try with_reducible rfl)
                  try simp only [List.getElem_toArray, List.getElem_cons_succ, List.getElem_cons_zero, Act.put, List.setIfInBounds_toArray, List.set_cons_zero, List.set_cons_succ]
                  refine wpAnyH_take (i := 6) (v := ?_) rfl (by kernel_rfl) (by kernel_rfl) (by kernel_rfl) (fun _ _ _ h => h) (Or.inl ⟨by rfl, ?_⟩) (by assumption) ?_
                  rotate_left
                  · (intro w hSw; (try dsimp only at hSw); go_simp; try with_reducible rfl)
                  try simp only [List.getElem_toArray, List.getElem_cons_succ, List.getElem_cons_zero, Act.put, List.setIfInBounds_toArray, List.set_cons_zero, List.set_cons_succ]
                  refine wpAnyH_take (i := 7) (v := ?_) rfl (by kernel_rfl) (by kernel_rfl) (by kernel_rfl) (fun _ _ _ h => h) (Or.inl ⟨by rfl, ?_⟩) (by assumption) ?_
                  rotate_left
                  · (intro w hSw; (try dsimp only at hSw); go_simp; try with_reducible rfl)
                  try simp only [List.getElem_toArray, List.getElem_cons_succ, List.getElem_cons_zero, Act.put, List.setIfInBounds_toArray, List.set_cons_zero, List.set_cons_succ]
                  refine wpAnyH_take (i := 8) (v := ?_) rfl (by kernel_rfl) (by kernel_rfl) (by kernel_rfl) (fun _ _ _ h => h) (Or.inl ⟨by rfl, ?_⟩) (by assumption) ?_
                  rotate_left
                  · (intro w hSw; (try dsimp only at hSw); go_simp; try with_reducible rfl)
                  try simp only [List.getElem_toArray, List.getElem_cons_succ, List.getElem_cons_zero, Act.put, List.setIfInBounds_toArray, List.set_cons_zero, List.set_cons_succ]
                  refine wpAnyH_take (i := 9) (v := ?_) rfl (by kernel_rfl) (by kernel_rfl) (by kernel_rfl) (fun _ _ _ h => h) (Or.inl ⟨by rfl, ?_⟩) (by assumption) ?_
                  rotate_left
                  · (intro w hSw; (try dsimp only at hSw); go_simp; try with_reducible rfl)
                  try simp only [List.getElem_toArray, List.getElem_cons_succ, List.getElem_cons_zero, Act.put, List.setIfInBounds_toArray, List.set_cons_zero, List.set_cons_succ]
                  refine wpAnyH_take (i := 10) (v := ?_) rfl (by kernel_rfl) (by kernel_rfl) (by kernel_rfl) (fun _ _ _ h => h) (Or.inl ⟨by rfl, ?_⟩) (by assumption) ?_
                  rotate_left
                  · (intro w hSw; (try dsimp only at hSw); go_simp; try with_reducible rfl)
                  try simp only [List.getElem_toArray, List.getElem_cons_succ, List.getElem_cons_zero, Act.put, List.setIfInBounds_toArray, List.set_cons_zero, List.set_cons_succ]
                  refine wpAnyH_take (i := 11) (v := ?_) rfl (by kernel_rfl) (by kernel_rfl) (by kernel_rfl) (fun _ _ _ h => h) (Or.inl ⟨by rfl, ?_⟩) (by assumption) ?_
                  rotate_left
                  · (intro w hSw; (try dsimp only at hSw); go_simp; try with_reducible rfl)
                  try simp only [List.getElem_toArray, List.getElem_cons_succ, List.getElem_cons_zero, Act.put, List.setIfInBounds_toArray, List.set_cons_zero, List.set_cons_succ]
                  refine wpAnyH_take (i := 12) (v := ?_) rfl (by kernel_rfl) (by kernel_rfl) (by kernel_rfl) (fun _ _ _ h => h) (Or.inl ⟨by rfl, ?_⟩) (by assumption) ?_
                  rotate_left
                  · (intro w hSw; (try dsimp only at hSw); go_simp; try with_reducible rfl)
                  try simp only [List.getElem_toArray, List.getElem_cons_succ, List.getElem_cons_zero, Act.put, List.setIfInBounds_toArray, List.set_cons_zero, List.set_cons_succ]
                  refine wpAnyH_take (i := 13) (v := ?_) rfl (by kernel_rfl) (by kernel_rfl) (by kernel_rfl) (fun _ _ _ h => h) (Or.inl ⟨by rfl, ?_⟩) (by assumption) ?_
                  rotate_left
                  · (intro w hSw; (try dsimp only at hSw); go_simp; try with_reducible rfl)
                  try simp only [List.getElem_toArray, List.getElem_cons_succ, List.getElem_cons_zero, Act.put, List.setIfInBounds_toArray, List.set_cons_zero, List.set_cons_succ]
                  refine wpAnyH_ready (rs := [14]) (by kernel_rfl) (by simp) ?_
                  refine AllReadyH.cons rfl (fun K hK => ?_) AllReadyH.nil
                  go_simp
                  refine (HSE.out _ HV11.out.bel).mono ?_
                  rintro e v12 ⟨rfl, hb12⟩
                  have HV12 := Lib.hid (HV11.out.keep hb12)
                  clear hb12 b0 b1 b2 b3 lb q0 q1 lg
                  obtain ⟨⟨b0, b1, b2, b3⟩, lb⟩ := HV12.out.cells
                  obtain ⟨q0, q1, lg⟩ := HQ.out _ HV12.out.bel
                  go_wp2_with fail
                  refine hK.out _ _ ?_ (fun hHeld => ?_)
                  · exact ⟨b0, b1, b2, b3, q0⟩
                  clear hK K
                  try simp only [List.getElem_toArray, List.getElem_cons_succ, List.getElem_cons_zero, Act.put, List.setIfInBounds_toArray, List.set_cons_zero, List.set_cons_succ]
                  refine wpAnyH_take (i := 15) (v := ?_) rfl (by kernel_rfl) (by kernel_rfl) (by kernel_rfl) (fun _ _ _ h => h) (Or.inl ⟨by rfl, ?_⟩) (by assumption) ?_
                  rotate_left
                  · (intro w hSw; (try dsimp only at hSw); go_simp; try with_reducible rfl)
                  try simp only [List.getElem_toArray, List.getElem_cons_succ, List.getElem_cons_zero, Act.put, List.setIfInBounds_toArray, List.set_cons_zero, List.set_cons_succ]
                  refine wpAnyH_take (i := 16) (v := ?_) rfl (by kernel_rfl) (by kernel_rfl) (by kernel_rfl) (fun _ _ _ h => h) (Or.inl ⟨by rfl, ?_⟩) (by assumption) ?_
                  rotate_left
                  · (intro w hSw; (try dsimp only at hSw); go_simp; try with_reducible rfl)
                  try simp only [List.getElem_toArray, List.getElem_cons_succ, List.getElem_cons_zero, Act.put, List.setIfInBounds_toArray, List.set_cons_zero, List.set_cons_succ]
                  refine wpAnyH_done (by kernel_rfl) ?_ _
                  refine NoPanic.normal ?_
                  go_wp2_with fail
                  go_roundg (p.ms.length - (i + 1))
                  case measure => omega
                  case rel =>
                    have hnx := HCK.out
                    rw [if_neg HPV.out, if_pos HZ.out, ← HFN.out] at hnx
                    exact ⟨i + 1, by omega, by go_num, (show _ ∧ _ from ⟨HV12.out, by rw [hnx]; congr 1; unfold pvF; rw [if_neg (by omega), Nat.add_sub_cancel, HFI.out]⟩)⟩
                · have HVV := Lib.hid (ck_out HR.out (v := v) (i := i) (by rw [HCK.out, if_neg HPV.out, HSL.out, HSV.out]; simp [hz]) hz)
                  have hv2 : (0 : Int) < v := by omega
                  clear hz hnn
                  refine wp_region_noPanic ?_
                  refine wp_region_held_drew (S := (fun w' => w'.cell? ⟨w.heap.size, 0, none⟩ = some (.string ⟨p.nm.toArray⟩) ∧ w'.cell? ⟨w.heap.size, 1, none⟩ = some (.slice s0 p.p0.length c0) ∧ w'.cell? ⟨w.heap.size, 2, none⟩ = some (.slice s1 p.p1.length c1) ∧ w'.cell? ⟨w.heap.size, 3, none⟩ = some (.slice (some ⟨g, o, none⟩) p.ms.length c2) ∧ w'.cell? ⟨g, o + i * 2, none⟩ = some (.int .i64 fr))) (by kernel_rfl) ?_ (fun hHeld => ?_)
                  · exact ⟨b0, b1, b2, b3, q0⟩
                  refine wpAnyH_take (i := 0) (v := ?_) rfl (by kernel_rfl) (by kernel_rfl) (by kernel_rfl) (fun _ _ _ h => h) (Or.inl ⟨by rfl, ?_⟩) (by assumption) ?_
                  rotate_left
                  · (intro w hSw; (try dsimp only at hSw); go_simp; try with_reducible rfl)
                  try simp only [List.getElem_toArray, List.getElem_cons_succ, List.getElem_cons_zero, Act.put, List.setIfInBounds_toArray, List.set_cons_zero, List.set_cons_succ]
                  refine wpAnyH_take (i := 1) (v := ?_) rfl (by kernel_rfl) (by kernel_rfl) (by kernel_rfl) (fun _ _ _ h => h) (Or.inl ⟨by rfl, ?_⟩) (by assumption) ?_
                  rotate_left
                  · (intro w hSw; (try dsimp only at hSw); go_simp; try with_reducible rfl)
                  try simp only [List.getElem_toArray, List.getElem_cons_succ, List.getElem_cons_zero, Act.put, List.setIfInBounds_toArray, List.set_cons_zero, List.set_cons_succ]
                  refine wpAnyH_take (i := 2) (v := ?_) rfl (by kernel_rfl) (by kernel_rfl) (by kernel_rfl) (fun _ _ _ h => h) (Or.inl ⟨by rfl, ?_⟩) (by assumption) ?_
                  rotate_left
                  · (intro w hSw; (try dsimp only at hSw); go_simp; try with_reducible rfl)
                  try simp only [List.getElem_toArray, List.getElem_cons_succ, List.getElem_cons_zero, Act.put, List.setIfInBounds_toArray, List.set_cons_zero, List.set_cons_succ]
                  refine wpAnyH_ready (rs := [3]) (by kernel_rfl) (by simp) ?_
                  refine AllReadyH.cons rfl (fun K hK => ?_) AllReadyH.nil
                  go_simp
                  refine (HKE.out _ (HBK.out.keep (Below.refl _ _).drew).bel).mono ?_
                  rintro e v11 ⟨rfl, hb11⟩
                  have HV11 := Lib.hid ((HBK.out.keep (Below.refl _ _).drew).keep hb11)
                  clear hb11 b0 b1 b2 b3 lb q0 q1 lg
                  obtain ⟨⟨b0, b1, b2, b3⟩, lb⟩ := HV11.out.cells
                  obtain ⟨q0, q1, lg⟩ := HQ.out _ HV11.out.bel
                  go_wp2_with fail
                  refine hK.out _ _ ?_ (fun hHeld => ?_)
                  · exact ⟨b0, b1, b2, b3, q0⟩
                  clear hK K
                  try simp only [List.getElem_toArray, List.getElem_cons_succ, List.getElem_cons_zero, Act.put, List.setIfInBounds_toArray, List.set_cons_zero, List.set_cons_succ]
                  refine wpAnyH_take (i := 4) (v := ?_) rfl (by kernel_rfl) (by kernel_rfl) (by kernel_rfl) (fun _ _ _ h => h) (Or.inl ⟨by rfl, ?_⟩) (by assumption) ?_
                  rotate_left
                  · (intro w hSw; (try dsimp only at hSw); go_simp; try with_reducible rfl)
                  try simp only [List.getElem_toArray, List.getElem_cons_succ, List.getElem_cons_zero, Act.put, List.setIfInBounds_toArray, List.set_cons_zero, List.set_cons_succ]
                  refine wpAnyH_take (i := 5) (v := ?_) rfl (by kernel_rfl) (by kernel_rfl) (by kernel_rfl) (fun _ _ _ h => h) (Or.inl ⟨by rfl, ?_⟩) (by assumption) ?_
                  rotate_left
                  · (intro w hSw; (try dsimp only at hSw); go_simp; try with_reducible rfl)
                  try simp only [List.getElem_toArray, List.getElem_cons_succ, List.getElem_cons_zero, Act.put, List.setIfInBounds_toArray, List.set_cons_zero, List.set_cons_succ]
                  refine wpAnyH_take (i := 6) (v := ?_) rfl (by kernel_rfl) (by kernel_rfl) (by kernel_rfl) (fun _ _ _ h => h) (Or.inl ⟨by rfl, ?_⟩) (by assumption) ?_
                  rotate_left
                  · (intro w hSw; (try dsimp only at hSw); go_simp; try with_reducible rfl)
                  try simp only [List.getElem_toArray, List.getElem_cons_succ, List.getElem_cons_zero, Act.put, List.setIfInBounds_toArray, List.set_cons_zero, List.set_cons_succ]
                  refine wpAnyH_take (i := 7) (v := ?_) rfl (by kernel_rfl) (by kernel_rfl) (by kernel_rfl) (fun _ _ _ h => h) (Or.inl ⟨by rfl, ?_⟩) (by assumption) ?_
                  rotate_left
                  · (intro w hSw; (try dsimp only at hSw); go_simp; try with_reducible rfl)
                  try simp only [List.getElem_toArray, List.getElem_cons_succ, List.getElem_cons_zero, Act.put, List.setIfInBounds_toArray, List.set_cons_zero, List.set_cons_succ]
                  refine wpAnyH_take (i := 8) (v := ?_) rfl (by kernel_rfl) (by kernel_rfl) (by kernel_rfl) (fun _ _ _ h => h) (Or.inl ⟨by rfl, ?_⟩) (by assumption) ?_
                  rotate_left
                  · (intro w hSw; (try dsimp only at hSw); go_simp; try with_reducible rfl)
                  try simp only [List.getElem_toArray, List.getElem_cons_succ, List.getElem_cons_zero, Act.put, List.setIfInBounds_toArray, List.set_cons_zero, List.set_cons_succ]
                  refine wpAnyH_take (i := 9) (v := ?_) rfl (by kernel_rfl) (by kernel_rfl) (by kernel_rfl) (fun _ _ _ h => h) (Or.inl ⟨by rfl, ?_⟩) (by assumption) ?_
                  rotate_left
                  · (intro w hSw; (try dsimp only at hSw); go_simp; try with_reducible rfl)
                  try simp only [List.getElem_toArray, List.getElem_cons_succ, List.getElem_cons_zero, Act.put, List.setIfInBounds_toArray, List.set_cons_zero, List.set_cons_succ]
                  refine wpAnyH_take (i := 10) (v := ?_) rfl (by kernel_rfl) (by kernel_rfl) (by kernel_rfl) (fun _ _ _ h => h) (Or.inl ⟨by rfl, ?_⟩) (by assumption) ?_
                  rotate_left
                  · (intro w hSw; (try dsimp only at hSw); go_simp; try with_reducible rfl)
                  try simp only [List.getElem_toArray, List.getElem_cons_succ, List.getElem_cons_zero, Act.put, List.setIfInBounds_toArray, List.set_cons_zero, List.set_cons_succ]
                  refine wpAnyH_take (i := 11) (v := ?_) rfl (by kernel_rfl) (by kernel_rfl) (by kernel_rfl) (fun _ _ _ h => h) (Or.inl ⟨by rfl, ?_⟩) (by assumption) ?_
                  rotate_left
                  · (intro w hSw; (try dsimp only at hSw); go_simp; try with_reducible rfl)
                  try simp only [List.getElem_toArray, List.getElem_cons_succ, List.getElem_cons_zero, Act.put, List.setIfInBounds_toArray, List.set_cons_zero, List.set_cons_succ]
                  refine wpAnyH_take (i := 12) (v := ?_) rfl (by kernel_rfl) (by kernel_rfl) (by kernel_rfl) (fun _ _ _ h => h) (Or.inl ⟨by rfl, ?_⟩) (by assumption) ?_
                  rotate_left
                  · (intro w hSw; (try dsimp only at hSw); go_simp; try with_reducible rfl)
                  try simp only [List.getElem_toArray, List.getElem_cons_succ, List.getElem_cons_zero, Act.put, List.setIfInBounds_toArray, List.set_cons_zero, List.set_cons_succ]
                  refine wpAnyH_take (i := 13) (v := ?_) rfl (by kernel_rfl) (by kernel_rfl) (by kernel_rfl) (fun _ _ _ h => h) (Or.inl ⟨by rfl, ?_⟩) (by assumption) ?_
                  rotate_left
                  · (intro w hSw; (try dsimp only at hSw); go_simp; try with_reducible rfl)
                  try simp only [List.getElem_toArray, List.getElem_cons_succ, List.getElem_cons_zero, Act.put, List.setIfInBounds_toArray, List.set_cons_zero, List.set_cons_succ]
                  refine wpAnyH_ready (rs := [14]) (by kernel_rfl) (by simp) ?_
                  refine AllReadyH.cons rfl (fun K hK => ?_) AllReadyH.nil
                  go_simp
                  refine (HSE.out _ HV11.out.bel).mono ?_
                  rintro e v12 ⟨rfl, hb12⟩
                  have HV12 := Lib.hid (HV11.out.keep hb12)
                  clear hb12 b0 b1 b2 b3 lb q0 q1 lg
                  obtain ⟨⟨b0, b1, b2, b3⟩, lb⟩ := HV12.out.cells
                  obtain ⟨q0, q1, lg⟩ := HQ.out _ HV12.out.bel
                  go_wp2_with fail
                  refine hK.out _ _ ?_ (fun hHeld => ?_)
                  · exact ⟨b0, b1, b2, b3, q0⟩
                  clear hK K
                  try simp only [List.getElem_toArray, List.getElem_cons_succ, List.getElem_cons_zero, Act.put, List.setIfInBounds_toArray, List.set_cons_zero, List.set_cons_succ]
                  refine wpAnyH_take (i := 15) (v := ?_) rfl (by kernel_rfl) (by kernel_rfl) (by kernel_rfl) (fun _ _ _ h => h) (Or.inl ⟨by rfl, ?_⟩) (by assumption) ?_
                  rotate_left
                  · (intro w hSw; (try dsimp only at hSw); go_simp; try with_reducible rfl)
                  try simp only [List.getElem_toArray, List.getElem_cons_succ, List.getElem_cons_zero, Act.put, List.setIfInBounds_toArray, List.set_cons_zero, List.set_cons_succ]
                  refine wpAnyH_take (i := 16) (v := ?_) rfl (by kernel_rfl) (by kernel_rfl) (by kernel_rfl) (fun _ _ _ h => h) (Or.inl ⟨by rfl, ?_⟩) (by assumption) ?_
                  rotate_left
                  · (intro w hSw; (try dsimp only at hSw); go_simp; try with_reducible rfl)
                  try simp only [List.getElem_toArray, List.getElem_cons_succ, List.getElem_cons_zero, Act.put, List.setIfInBounds_toArray, List.set_cons_zero, List.set_cons_succ]
                  refine wpAnyH_done (by kernel_rfl) ?_ _
                  refine NoPanic.normal ?_
                  go_wp2_with fail
                  refine wp_region_noPanic ?_
                  refine wp_region_held_drew (S := (fun w' => w'.cell? ⟨w.heap.size, 0, none⟩ = some (.string ⟨p.nm.toArray⟩) ∧ w'.cell? ⟨w.heap.size, 1, none⟩ = some (.slice s0 p.p0.length c0) ∧ w'.cell? ⟨w.heap.size, 2, none⟩ = some (.slice s1 p.p1.length c1) ∧ w'.cell? ⟨w.heap.size, 3, none⟩ = some (.slice (some ⟨g, o, none⟩) p.ms.length c2) ∧ w'.cell? ⟨g, o + i * 2, none⟩ = some (.int .i64 fr))) (by kernel_rfl) ?_ (fun hHeld => ?_)
                  · exact ⟨b0, b1, b2, b3, q0⟩
                  refine wpAnyH_take (i := 0) (v := ?_) rfl (by kernel_rfl) (by kernel_rfl) (by kernel_rfl) (fun _ _ _ h => h) (Or.inl ⟨by rfl, ?_⟩) (by assumption) ?_
                  rotate_left
                  · (intro w hSw; (try dsimp only at hSw); go_simp; try with_reducible rfl)
                  try simp only [List.getElem_toArray, List.getElem_cons_succ, List.getElem_cons_zero, Act.put, List.setIfInBounds_toArray, List.set_cons_zero, List.set_cons_succ]
                  refine wpAnyH_take (i := 1) (v := ?_) rfl (by kernel_rfl) (by kernel_rfl) (by kernel_rfl) (fun _ _ _ h => h) (Or.inl ⟨by rfl, ?_⟩) (by assumption) ?_
                  rotate_left
                  · (intro w hSw; (try dsimp only at hSw); go_simp; try with_reducible rfl)
                  try simp only [List.getElem_toArray, List.getElem_cons_succ, List.getElem_cons_zero, Act.put, List.setIfInBounds_toArray, List.set_cons_zero, List.set_cons_succ]
                  refine wpAnyH_take (i := 2) (v := ?_) rfl (by kernel_rfl) (by kernel_rfl) (by kernel_rfl) (fun _ _ _ h => h) (Or.inl ⟨by rfl, ?_⟩) (by assumption) ?_
                  rotate_left
                  · (intro w hSw; (try dsimp only at hSw); go_simp; try with_reducible rfl)
                  try simp only [List.getElem_toArray, List.getElem_cons_succ, List.getElem_cons_zero, Act.put, List.setIfInBounds_toArray, List.set_cons_zero, List.set_cons_succ]
                  refine wpAnyH_take (i := 3) (v := ?_) rfl (by kernel_rfl) (by kernel_rfl) (by kernel_rfl) (fun _ _ _ h => h) (Or.inl ⟨by rfl, ?_⟩) (by assumption) ?_
                  rotate_left
                  · (intro w hSw; (try dsimp only at hSw); go_simp; try with_reducible rfl)
                  try simp only [List.getElem_toArray, List.getElem_cons_succ, List.getElem_cons_zero, Act.put, List.setIfInBounds_toArray, List.set_cons_zero, List.set_cons_succ]
                  refine wpAnyH_take (i := 4) (v := ?_) rfl (by kernel_rfl) (by kernel_rfl) (by kernel_rfl) (fun _ _ _ h => h) (Or.inl ⟨by rfl, ?_⟩) (by assumption) ?_
                  rotate_left
                  · (intro w hSw; (try dsimp only at hSw); go_simp; try with_reducible rfl)
                  try simp only [List.getElem_toArray, List.getElem_cons_succ, List.getElem_cons_zero, Act.put, List.setIfInBounds_toArray, List.set_cons_zero, List.set_cons_succ]
                  refine wpAnyH_take (i := 5) (v := ?_) rfl (by kernel_rfl) (by kernel_rfl) (by kernel_rfl) (fun _ _ _ h => h) (Or.inl ⟨by rfl, ?_⟩) (by assumption) ?_
                  rotate_left
                  · (intro w hSw; (try dsimp only at hSw); go_simp; try with_reducible rfl)
                  try simp only [List.getElem_toArray, List.getElem_cons_succ, List.getElem_cons_zero, Act.put, List.setIfInBounds_toArray, List.set_cons_zero, List.set_cons_succ]
                  refine wpAnyH_take (i := 6) (v := ?_) rfl (by kernel_rfl) (by kernel_rfl) (by kernel_rfl) (fun _ _ _ h => h) (Or.inl ⟨by rfl, ?_⟩) (by assumption) ?_
                  rotate_left
                  · (intro w hSw; (try dsimp only at hSw); go_simp; try with_reducible rfl)
                  try simp only [List.getElem_toArray, List.getElem_cons_succ, List.getElem_cons_zero, Act.put, List.setIfInBounds_toArray, List.set_cons_zero, List.set_cons_succ]
                  refine wpAnyH_take (i := 7) (v := ?_) rfl (by kernel_rfl) (by kernel_rfl) (by kernel_rfl) (fun _ _ _ h => h) (Or.inl ⟨by rfl, ?_⟩) (by assumption) ?_
                  rotate_left
                  · (intro w hSw; (try dsimp only at hSw); go_simp; try with_reducible rfl)
                  try simp only [List.getElem_toArray, List.getElem_cons_succ, List.getElem_cons_zero, Act.put, List.setIfInBounds_toArray, List.set_cons_zero, List.set_cons_succ]
                  refine wpAnyH_take (i := 8) (v := ?_) rfl (by kernel_rfl) (by kernel_rfl) (by kernel_rfl) (fun _ _ _ h => h) (Or.inl ⟨by rfl, ?_⟩) (by assumption) ?_
                  rotate_left
                  · (intro w hSw; (try dsimp only at hSw); go_simp; try with_reducible rfl)
                  try simp only [List.getElem_toArray, List.getElem_cons_succ, List.getElem_cons_zero, Act.put, List.setIfInBounds_toArray, List.set_cons_zero, List.set_cons_succ]
                  have HV12b := Lib.hid (HV12.out)
                  refine wpAnyH_take (i := 10) (v := ?_) rfl (by kernel_rfl) (by kernel_rfl) (by kernel_rfl) (fun _ _ _ h => h) (Or.inl ⟨by rfl, ?_⟩) (by assumption) ?_
                  rotate_left
                  · (intro w hSw; (try dsimp only at hSw); go_simp; try with_reducible rfl)
                  try simp only [List.getElem_toArray, List.getElem_cons_succ, List.getElem_cons_zero, Act.put, List.setIfInBounds_toArray, List.set_cons_zero, List.set_cons_succ]
                  refine wpAnyH_ready (rs := [9]) (by kernel_rfl) (by simp) ?_
                  refine AllReadyH.cons rfl (fun K hK => ?_) AllReadyH.nil
                  go_simp
                  refine (HSE.out _ (HV12.out.keep (Below.refl _ _).drew).bel).mono ?_
                  rintro e v13 ⟨rfl, hb13⟩
                  have HV13 := Lib.hid ((HV12.out.keep (Below.refl _ _).drew).keep hb13)
                  clear hb13 b0 b1 b2 b3 lb q0 q1 lg
                  obtain ⟨⟨b0, b1, b2, b3⟩, lb⟩ := HV13.out.cells
                  obtain ⟨q0, q1, lg⟩ := HQ.out _ HV13.out.bel
                  go_wp2_with fail
                  refine hK.out _ _ ?_ (fun hHeld => ?_)
                  · exact ⟨b0, b1, b2, b3, q0⟩
                  clear hK K
                  try simp only [List.getElem_toArray, List.getElem_cons_succ, List.getElem_cons_zero, Act.put, List.setIfInBounds_toArray, List.set_cons_zero, List.set_cons_succ]
                  refine wpAnyH_take (i := 11) (v := ?_) rfl (by kernel_rfl) (by kernel_rfl) (by kernel_rfl) (fun _ _ _ h => h) (Or.inl ⟨by rfl, ?_⟩) (by assumption) ?_
                  rotate_left
                  · (intro w hSw; (try dsimp only at hSw); go_simp; try with_reducible rfl)
                  try simp only [List.getElem_toArray, List.getElem_cons_succ, List.getElem_cons_zero, Act.put, List.setIfInBounds_toArray, List.set_cons_zero, List.set_cons_succ]
                  refine wpAnyH_take (i := 12) (v := ?_) rfl (by kernel_rfl) (by kernel_rfl) (by kernel_rfl) (fun _ _ _ h => h) (Or.inl ⟨by rfl, ?_⟩) (by assumption) ?_
                  rotate_left
                  · (intro w hSw; (try dsimp only at hSw); go_simp; try with_reducible rfl)
                  try simp only [List.getElem_toArray, List.getElem_cons_succ, List.getElem_cons_zero, Act.put, List.setIfInBounds_toArray, List.set_cons_zero, List.set_cons_succ]
                  refine wpAnyH_take (i := 13) (v := ?_) rfl (by kernel_rfl) (by kernel_rfl) (by kernel_rfl) (fun _ _ _ h => h) (Or.inl ⟨by rfl, ?_⟩) (by assumption) ?_
                  rotate_left
                  · (intro w hSw; (try dsimp only at hSw); go_simp; try with_reducible rfl)
                  try simp only [List.getElem_toArray, List.getElem_cons_succ, List.getElem_cons_zero, Act.put, List.setIfInBounds_toArray, List.set_cons_zero, List.set_cons_succ]
                  refine wpAnyH_done (by kernel_rfl) ?_ _
                  refine NoPanic.normal ?_
                  go_wp2_with fail
                  go_ret3
                  exact ⟨by rw [HVV.out.1, HVV.out.2.1, HVV.out.2.2]; rfl, HV13.out.bel⟩
    · have hi2 : ¬ (i : Int) < p.ms.length := by omega
      have HIN : Hid (i = p.ms.length) := Lib.hid (by omega)
      have HFL : Hid (ck p = (rfin p (flat p.ms), p.ms.length)) := Lib.hid (by
        have h2 := HCV.out.2
        rw [HIN.out, List.take_of_length_le (Nat.le_refl _)] at h2
        exact h2.trans ckG_end)
      have HL : Hid (ahd p.ms p.ms.length 0 = flat p.ms) := Lib.hid (ahd_over (Nat.le_refl _))
      have HKN := Lib.hid (fun wx hb => HKEY.out p.ms.length 0 HBD.out.1 (by omega) wx hb)
      have HS0 := Lib.hid (fun wx hb => HSEA.out 0 (.inl rfl) p.ms.length 0 HBD.out.1 (by omega) wx hb)
      have HS1 := Lib.hid (fun wx hb => HSEA.out 1 (.inr rfl) p.ms.length 0 HBD.out.1 (by omega) wx hb)
      rw [HL.out, natZero] at HKN HS0 HS1
      have HQ0 : Hid (∀ wx, Below w.heap.size w wx → wx.cell? ⟨g, o, none⟩ = some (.int .i64 (p.ms.getD 0 default).fr) ∧ g < wx.heap.size) := Lib.hid (by
        obtain ⟨g', o', e', hia⟩ := HIM.out HLN.out
        cases e'
        obtain ⟨q0, -⟩ := hia 0 HLN.out
        simp only [Nat.zero_mul, Nat.add_zero] at q0
        exact fun wx hb => ⟨(hb.cell (p := ⟨g, o, none⟩) (World.block_lt_of_cell? _ _ q0)).trans q0, Nat.lt_of_lt_of_le (World.block_lt_of_cell? _ _ q0) hb.size⟩)
      have hf01 := (right_ms' HR.out (m := p.ms.getD 0 default) (by rw [List.getD_eq_getElem?_getD, List.getElem?_eq_getElem HLN.out]; exact List.getElem_mem _)).1
      obtain ⟨f0, hf0⟩ : ∃ f0, f0 = (p.ms.getD 0 default).fr := ⟨_, rfl⟩
      obtain ⟨v0, hv0⟩ : ∃ v, v = rsl p 0 (flat p.ms) := ⟨_, rfl⟩
      obtain ⟨v1, hv1⟩ : ∃ v, v = rsl p 1 (flat p.ms) := ⟨_, rfl⟩
      obtain ⟨ky, hky⟩ : ∃ ky, ky = rkey p (flat p.ms) := ⟨_, rfl⟩
      have hn0 := rsl_nn p 0 (flat p.ms)
      have hn1 := rsl_nn p 1 (flat p.ms)
      have HRF : Hid (rfin p (flat p.ms) = if !ky then 7 else if p.ms.length = 1 then (if f0 = 0 then v0 else v1) else if v0 = 0 then v1 else v0) := Lib.hid (by
        unfold rfin sl
        rw [← hky, ← hf0]
        cases ky with
        | false => rfl
        | true =>
          rw [← hf0] at hf01
          simp only [if_true, ← hv0, ← hv1]
          rcases hf01 with rfl | rfl <;> simp [← hv0, ← hv1])
      rw [← hf0] at HQ0 hf01
      rw [← hv0] at HS0 hn0
      rw [← hv1] at HS1 hn1
      rw [← hky] at HKN
      clear hf0 hv0 hv1 hky
      obtain ⟨q0, lg⟩ := HQ0.out _ HBR.out.bel
      have hkn : i = p.ms.length := HIN.out
      cases ky with
      | false =>
        clear hkn
        have HV := Lib.hid (ck_out HR.out (v := 7) (i := p.ms.length) (by rw [HFL.out, HRF.out]; simp []) (by omega))
        go_wp2_with fail
        go_at_call 29
        refine (HKN.out _ HBR.out.bel).mono ?_
        rintro e v11w ⟨rfl, hb11⟩
        have HB11 := Lib.hid (HBR.out.keep hb11)
        clear hb11 b0 b1 b2 b3 lb q0 lg
        obtain ⟨⟨b0, b1, b2, b3⟩, lb⟩ := HB11.out.cells
        obtain ⟨q0, lg⟩ := HQ0.out _ HB11.out.bel
        go_wp2_with fail
        go_ret3
        exact ⟨by rw [HV.out.1, HV.out.2.1, HV.out.2.2]; rfl, HB11.out.bel⟩
      | true =>
        clear hkn
        by_cases hn : p.ms.length = 1
        · have g1 : ¬ (1 : Int) < p.ms.length := by omega
          have g2 : ¬ 1 < p.ms.length := by omega
          rcases hf01 with rfl | rfl
          · by_cases hz : v0 = 0
            · subst hz
              have HV := Lib.hid (ck_fine HR.out (i := p.ms.length) (by rw [HFL.out, HRF.out]; simp [hn]))
              clear hn
              go_wp2_with fail
              go_at_call 29
              refine (HKN.out _ HBR.out.bel).mono ?_
              rintro e v11w ⟨rfl, hb11⟩
              have HB11 := Lib.hid (HBR.out.keep hb11)
              clear hb11 b0 b1 b2 b3 lb q0 lg
              obtain ⟨⟨b0, b1, b2, b3⟩, lb⟩ := HB11.out.cells
              obtain ⟨q0, lg⟩ := HQ0.out _ HB11.out.bel
              go_wp2_with fail
              refine wp_loop_rounds 3 ?_
              rw [rounds_succ]
              go_wp2_with fail
              go_at_call 30
              refine (HS0.out _ HB11.out.bel).mono ?_
              rintro e v12w ⟨rfl, hb12⟩
              have HB12 := Lib.hid (HB11.out.keep hb12)
              clear hb12 b0 b1 b2 b3 lb q0 lg
              obtain ⟨⟨b0, b1, b2, b3⟩, lb⟩ := HB12.out.cells
              obtain ⟨q0, lg⟩ := HQ0.out _ HB12.out.bel
              go_wp2_with fail
              rw [rounds_succ]
              go_wp2_with fail
              rw [rounds_succ]
              go_wp2_with fail
              go_ret3
              exact ⟨by rw [HV.out.1, HV.out.2.1, HV.out.2.2]; rfl, HB12.out.bel⟩
            · have g3 : (0 : Int) < v0 := by omega
              have HV := Lib.hid (ck_out HR.out (v := v0) (i := p.ms.length) (by rw [HFL.out, HRF.out]; simp [hn, hz]) (by omega))
              clear hn
              go_wp2_with fail
              go_at_call 29
              refine (HKN.out _ HBR.out.bel).mono ?_
              rintro e v11w ⟨rfl, hb11⟩
              have HB11 := Lib.hid (HBR.out.keep hb11)
              clear hb11 b0 b1 b2 b3 lb q0 lg
              obtain ⟨⟨b0, b1, b2, b3⟩, lb⟩ := HB11.out.cells
              obtain ⟨q0, lg⟩ := HQ0.out _ HB11.out.bel
              go_wp2_with fail
              refine wp_loop_rounds 3 ?_
              rw [rounds_succ]
              go_wp2_with fail
              go_at_call 30
              refine (HS0.out _ HB11.out.bel).mono ?_
              rintro e v12w ⟨rfl, hb12⟩
              have HB12 := Lib.hid (HB11.out.keep hb12)
              clear hb12 b0 b1 b2 b3 lb q0 lg
              obtain ⟨⟨b0, b1, b2, b3⟩, lb⟩ := HB12.out.cells
              obtain ⟨q0, lg⟩ := HQ0.out _ HB12.out.bel
              go_wp2_with fail
              go_at_call 30
              refine (HS0.out _ HB12.out.bel).mono ?_
              rintro e v13w ⟨rfl, hb13⟩
              have HB13 := Lib.hid (HB12.out.keep hb13)
              clear hb13 b0 b1 b2 b3 lb q0 lg
              obtain ⟨⟨b0, b1, b2, b3⟩, lb⟩ := HB13.out.cells
              obtain ⟨q0, lg⟩ := HQ0.out _ HB13.out.bel
              go_wp2_with fail
              go_ret3
              exact ⟨by rw [HV.out.1, HV.out.2.1, HV.out.2.2]; rfl, HB13.out.bel⟩
          · by_cases hz : v1 = 0
            · subst hz
              have HV := Lib.hid (ck_fine HR.out (i := p.ms.length) (by rw [HFL.out, HRF.out]; simp [hn]))
              clear hn
              go_wp2_with fail
              go_at_call 29
              refine (HKN.out _ HBR.out.bel).mono ?_
              rintro e v11w ⟨rfl, hb11⟩
              have HB11 := Lib.hid (HBR.out.keep hb11)
              clear hb11 b0 b1 b2 b3 lb q0 lg
              obtain ⟨⟨b0, b1, b2, b3⟩, lb⟩ := HB11.out.cells
              obtain ⟨q0, lg⟩ := HQ0.out _ HB11.out.bel
              go_wp2_with fail
              refine wp_loop_rounds 3 ?_
              rw [rounds_succ]
              go_wp2_with fail
              rw [rounds_succ]
              go_wp2_with fail
              go_at_call 30
              refine (HS1.out _ HB11.out.bel).mono ?_
              rintro e v12w ⟨rfl, hb12⟩
              have HB12 := Lib.hid (HB11.out.keep hb12)
              clear hb12 b0 b1 b2 b3 lb q0 lg
              obtain ⟨⟨b0, b1, b2, b3⟩, lb⟩ := HB12.out.cells
              obtain ⟨q0, lg⟩ := HQ0.out _ HB12.out.bel
              go_wp2_with fail
              rw [rounds_succ]
              go_wp2_with fail
              go_ret3
              exact ⟨by rw [HV.out.1, HV.out.2.1, HV.out.2.2]; rfl, HB12.out.bel⟩
            · have g3 : (0 : Int) < v1 := by omega
              have HV := Lib.hid (ck_out HR.out (v := v1) (i := p.ms.length) (by rw [HFL.out, HRF.out]; simp [hn, hz]) (by omega))
              clear hn
              go_wp2_with fail
              go_at_call 29
              refine (HKN.out _ HBR.out.bel).mono ?_
              rintro e v11w ⟨rfl, hb11⟩
              have HB11 := Lib.hid (HBR.out.keep hb11)
              clear hb11 b0 b1 b2 b3 lb q0 lg
              obtain ⟨⟨b0, b1, b2, b3⟩, lb⟩ := HB11.out.cells
              obtain ⟨q0, lg⟩ := HQ0.out _ HB11.out.bel
              go_wp2_with fail
              refine wp_loop_rounds 3 ?_
              rw [rounds_succ]
              go_wp2_with fail
              rw [rounds_succ]
              go_wp2_with fail
              go_at_call 30
              refine (HS1.out _ HB11.out.bel).mono ?_
              rintro e v12w ⟨rfl, hb12⟩
              have HB12 := Lib.hid (HB11.out.keep hb12)
              clear hb12 b0 b1 b2 b3 lb q0 lg
              obtain ⟨⟨b0, b1, b2, b3⟩, lb⟩ := HB12.out.cells
              obtain ⟨q0, lg⟩ := HQ0.out _ HB12.out.bel
              go_wp2_with fail
              go_at_call 30
              refine (HS1.out _ HB12.out.bel).mono ?_
              rintro e v13w ⟨rfl, hb13⟩
              have HB13 := Lib.hid (HB12.out.keep hb13)
              clear hb13 b0 b1 b2 b3 lb q0 lg
              obtain ⟨⟨b0, b1, b2, b3⟩, lb⟩ := HB13.out.cells
              obtain ⟨q0, lg⟩ := HQ0.out _ HB13.out.bel
              go_wp2_with fail
              go_ret3
              exact ⟨by rw [HV.out.1, HV.out.2.1, HV.out.2.2]; rfl, HB13.out.bel⟩
        · have g1 : (1 : Int) < p.ms.length := by have := HLN.out; omega
          have g2 : 1 < p.ms.length := by have := HLN.out; omega
          by_cases hz : v0 = 0
          · subst hz
            by_cases hy : v1 = 0
            · subst hy
              have HV := Lib.hid (ck_fine HR.out (i := p.ms.length) (by rw [HFL.out, HRF.out]; simp [hn]))
              clear hn
              go_wp2_with fail
              go_at_call 29
              refine (HKN.out _ HBR.out.bel).mono ?_
              rintro e v11w ⟨rfl, hb11⟩
              have HB11 := Lib.hid (HBR.out.keep hb11)
              clear hb11 b0 b1 b2 b3 lb q0 lg
              obtain ⟨⟨b0, b1, b2, b3⟩, lb⟩ := HB11.out.cells
              obtain ⟨q0, lg⟩ := HQ0.out _ HB11.out.bel
              go_wp2_with fail
              refine wp_loop_rounds 3 ?_
              rw [rounds_succ]
              go_wp2_with fail
              go_at_call 30
              refine (HS0.out _ HB11.out.bel).mono ?_
              rintro e v12w ⟨rfl, hb12⟩
              have HB12 := Lib.hid (HB11.out.keep hb12)
              clear hb12 b0 b1 b2 b3 lb q0 lg
              obtain ⟨⟨b0, b1, b2, b3⟩, lb⟩ := HB12.out.cells
              obtain ⟨q0, lg⟩ := HQ0.out _ HB12.out.bel
              go_wp2_with fail
              rw [rounds_succ]
              go_wp2_with fail
              go_at_call 30
              refine (HS1.out _ HB12.out.bel).mono ?_
              rintro e v13w ⟨rfl, hb13⟩
              have HB13 := Lib.hid (HB12.out.keep hb13)
              clear hb13 b0 b1 b2 b3 lb q0 lg
              obtain ⟨⟨b0, b1, b2, b3⟩, lb⟩ := HB13.out.cells
              obtain ⟨q0, lg⟩ := HQ0.out _ HB13.out.bel
              go_wp2_with fail
              rw [rounds_succ]
              go_wp2_with fail
              go_ret3
              exact ⟨by rw [HV.out.1, HV.out.2.1, HV.out.2.2]; rfl, HB13.out.bel⟩
            · have g3 : (0 : Int) < v1 := by omega
              have HV := Lib.hid (ck_out HR.out (v := v1) (i := p.ms.length) (by rw [HFL.out, HRF.out]; simp [hn, hy]) (by omega))
              clear hn
              go_wp2_with fail
              go_at_call 29
              refine (HKN.out _ HBR.out.bel).mono ?_
              rintro e v11w ⟨rfl, hb11⟩
              have HB11 := Lib.hid (HBR.out.keep hb11)
              clear hb11 b0 b1 b2 b3 lb q0 lg
              obtain ⟨⟨b0, b1, b2, b3⟩, lb⟩ := HB11.out.cells
              obtain ⟨q0, lg⟩ := HQ0.out _ HB11.out.bel
              go_wp2_with fail
              refine wp_loop_rounds 3 ?_
              rw [rounds_succ]
              go_wp2_with fail
              go_at_call 30
              refine (HS0.out _ HB11.out.bel).mono ?_
              rintro e v12w ⟨rfl, hb12⟩
              have HB12 := Lib.hid (HB11.out.keep hb12)
              clear hb12 b0 b1 b2 b3 lb q0 lg
              obtain ⟨⟨b0, b1, b2, b3⟩, lb⟩ := HB12.out.cells
              obtain ⟨q0, lg⟩ := HQ0.out _ HB12.out.bel
              go_wp2_with fail
              rw [rounds_succ]
              go_wp2_with fail
              go_at_call 30
              refine (HS1.out _ HB12.out.bel).mono ?_
              rintro e v13w ⟨rfl, hb13⟩
              have HB13 := Lib.hid (HB12.out.keep hb13)
              clear hb13 b0 b1 b2 b3 lb q0 lg
              obtain ⟨⟨b0, b1, b2, b3⟩, lb⟩ := HB13.out.cells
              obtain ⟨q0, lg⟩ := HQ0.out _ HB13.out.bel
              go_wp2_with fail
              go_at_call 30
              refine (HS1.out _ HB13.out.bel).mono ?_
              rintro e v14w ⟨rfl, hb14⟩
              have HB14 := Lib.hid (HB13.out.keep hb14)
              clear hb14 b0 b1 b2 b3 lb q0 lg
              obtain ⟨⟨b0, b1, b2, b3⟩, lb⟩ := HB14.out.cells
              obtain ⟨q0, lg⟩ := HQ0.out _ HB14.out.bel
              go_wp2_with fail
              go_ret3
              exact ⟨by rw [HV.out.1, HV.out.2.1, HV.out.2.2]; rfl, HB14.out.bel⟩
          · have g3 : (0 : Int) < v0 := by omega
            have HV := Lib.hid (ck_out HR.out (v := v0) (i := p.ms.length) (by rw [HFL.out, HRF.out]; simp [hn, hz]) (by omega))
            clear hn
            go_wp2_with fail
            go_at_call 29
            refine (HKN.out _ HBR.out.bel).mono ?_
            rintro e v11w ⟨rfl, hb11⟩
            have HB11 := Lib.hid (HBR.out.keep hb11)
            clear hb11 b0 b1 b2 b3 lb q0 lg
            obtain ⟨⟨b0, b1, b2, b3⟩, lb⟩ := HB11.out.cells
            obtain ⟨q0, lg⟩ := HQ0.out _ HB11.out.bel
            go_wp2_with fail
            refine wp_loop_rounds 3 ?_
            rw [rounds_succ]
            go_wp2_with fail
            go_at_call 30
            refine (HS0.out _ HB11.out.bel).mono ?_
            rintro e v12w ⟨rfl, hb12⟩
            have HB12 := Lib.hid (HB11.out.keep hb12)
            clear hb12 b0 b1 b2 b3 lb q0 lg
            obtain ⟨⟨b0, b1, b2, b3⟩, lb⟩ := HB12.out.cells
            obtain ⟨q0, lg⟩ := HQ0.out _ HB12.out.bel
            go_wp2_with fail
            go_at_call 30
            refine (HS0.out _ HB12.out.bel).mono ?_
            rintro e v13w ⟨rfl, hb13⟩
            have HB13 := Lib.hid (HB12.out.keep hb13)
            clear hb13 b0 b1 b2 b3 lb q0 lg
            obtain ⟨⟨b0, b1, b2, b3⟩, lb⟩ := HB13.out.cells
            obtain ⟨q0, lg⟩ := HQ0.out _ HB13.out.bel
            go_wp2_with fail
            go_ret3
            exact ⟨by rw [HV.out.1, HV.out.2.1, HV.out.2.2]; rfl, HB13.out.bel⟩
end Go.Proofs.YtahbbojhdkillaaDoor
