/- Layer 7: the walk of Check. -/
import Derived.Test.YtahbbojhdkillaaDoorCg
namespace Go.Proofs.YtahbbojhdkillaaDoor
open Go.RowKit Go.Shelf

def pvF (ms : List Ms) (i : Nat) : Option Int := if i = 0 then none else some (ms.getD (i - 1) default).fr
theorem ckG_next {p : Pt} {i : Nat} {L : List Tk} {v : Option Int} (h : i < p.ms.length) : ckG p L v i (p.ms.drop i) = if v = some (p.ms.getD i default).fr then (1, i) else if rtk p (p.ms.getD i default).fr L (p.ms.getD i default).t = 0 then ckG p (L ++ (p.ms.getD i default).t.map fun t => ((p.ms.getD i default).fr, t)) (some (p.ms.getD i default).fr) (i + 1) (p.ms.drop (i + 1)) else (rtk p (p.ms.getD i default).fr L (p.ms.getD i default).t, i) := by
  rw [drop_next h]; rfl
theorem ckG_end {p : Pt} {L : List Tk} {v : Option Int} : ckG p L v p.ms.length (p.ms.drop p.ms.length) = (rfin p L, p.ms.length) := by
  rw [List.drop_of_length_le (Nat.le_refl _)]; rfl
theorem ck_out {p : Pt} (hr : right p = true) {v : Int} {i : Nat} (h : ck p = (v, i)) (hv : v ≠ 0) : ckR p = v ∧ ckI p = i ∧ ckE p = 13 := by
  unfold ckR ckI ckE
  rw [if_pos hr, if_pos hr, if_pos hr, h]
  exact ⟨rfl, if_neg hv, if_neg hv⟩
theorem ck_fine {p : Pt} (hr : right p = true) {i : Nat} (h : ck p = (0, i)) : ckR p = 0 ∧ ckI p = 0 ∧ ckE p = 0 := by
  unfold ckR ckI ckE
  rw [if_pos hr, if_pos hr, if_pos hr, h]
  exact ⟨rfl, rfl, rfl⟩
theorem ck_wrong {p : Pt} (hr : right p = false) : ckR p = 0 ∧ ckI p = 0 ∧ ckE p = 1 := by
  unfold ckR ckI ckE
  rw [hr]; exact ⟨rfl, rfl, rfl⟩
theorem wrap_le {x : Int} (h0 : 0 ≤ x) (h1 : x ≤ 65536) : IntKind.i64.wrap x = x := by
  have h : x % (2 ^ IntKind.i64.bits : Int) = x := Int.emod_eq_of_lt h0 (Int.lt_of_le_of_lt h1 (by decide))
  unfold IntKind.wrap
  simp only [h]
  rw [if_neg]
  have : (2 ^ (IntKind.i64.bits - 1) : Int) > 65536 := by decide
  simp only [Bool.and_eq_true, decide_eq_true_eq]
  omega
/-- While a pattern is checked. -/
structure Cv (p : Pt) (pv : Obj) (w : World) (b i : Nat) (f : Cs) (wr : World) : Prop where
  st : StV wr b f
  sr : Sr p f (flat (p.ms.take i))
  ck : ck p = ckG p (flat (p.ms.take i)) (pvF p.ms i) i (p.ms.drop i)
  bx : wr.heap[w.heap.size]? = some pv
  bel : Below w.heap.size w wr
  gb : w.heap.size < b

set_option maxRecDepth 100000 in
set_option maxHeartbeats 8000000 in
theorem check_any (x : Sl) (p : Pt) (w : World) (hp : PatA w x p) (hk : Ky w) : Calls Tryd.prog 25 #[patV x p] w fun e w' => e = .returned (.tuple #[.int .i64 (ckR p), .int .i64 (ckI p), .int .i64 (ckE p)]) ∧ Below w.heap.size w w' := by
  have HRT := Lib.hid (fun wx (hb : Below w.heap.size w wx) => right_any x p wx (hp.keep hb))
  cases hr : right p with
  | false =>
    have HV := Lib.hid (ck_wrong hr)
    rw [hr] at HRT
    clear hr hp hk
    unfold patV at HRT ⊢
    go_enter Tryd.func25, Tryd.ntmps25
    go_wp2_with (go_at_call 39; refine (HRT.out _ ((Below.refl _ _).alloc (Nat.le_refl _) _)).mono ?_; rintro e w1 ⟨rfl, hb1⟩; have HB1 := Lib.hid (((Below.refl _ _).alloc (Nat.le_refl _) _).trans (hb1.mono (by simp)) : Below w.heap.size w w1); clear hb1)
    go_ret3
    exact ⟨by rw [HV.out.1, HV.out.2.1, HV.out.2.2]; rfl, HB1.out⟩
  | true =>
    rw [hr] at HRT
    have HR := Lib.hid hr
    have HBG := Lib.hid (fun wx (hb : Below w.heap.size w wx) => begin_any x p hr wx (hp.keep hb))
    have HBE := Lib.hid (fun f b wx (hb : Below w.heap.size w wx) (hs : StV wx b f) (hS : Sr p f (flat p.ms)) => bae_any x p f b (flat p.ms) hr wx (hp.keep hb) (hk.keep hb) hs hS)
    have HK := Lib.hid hk
    have HIM := Lib.hid hp.im
    have HLN := Lib.hid (right_lens hr).2.2
    obtain ⟨s0, c0, s1, c1, s2, c2⟩ := x
    have HBX := Lib.hid (heap_alloc_new w (.cells #[.string ⟨p.nm.toArray⟩, .slice s0 p.p0.length c0, .slice s1 p.p1.length c1, .slice s2 p.ms.length c2] 29))
    clear hr hp hk
    unfold patV at HRT HBG HBE ⊢
    simp only at HRT HBG HBE HIM HBX ⊢
    obtain ⟨n, hn⟩ : ∃ n, n = p.ms.length := ⟨_, rfl⟩
    rw [← hn] at HRT HBG HBE HBX ⊢
    have HN := Lib.hid hn
    have hn65 : (n : Int) ≤ 65536 := by have := HLN.out.1; omega
    clear hn
    go_enter Tryd.func25, Tryd.ntmps25
    go_wp2_with (first
      | (go_at_call 39; refine (HRT.out _ ((Below.refl _ _).alloc (Nat.le_refl _) _)).mono ?_; rintro e w1 ⟨rfl, hb1⟩; have HB1 := Lib.hid (((Below.refl _ _).alloc (Nat.le_refl _) _).trans (hb1.mono (by simp)) : Below w.heap.size w w1); have HX1 := Lib.hid ((hb1.block _ (lt_of_heap HBX.out)).trans HBX.out); obtain ⟨b0, b1, b2, b3, -⟩ := box4c HX1.out; have lw1 := lt_of_heap HX1.out; clear hb1)
      | (go_at_call 40; refine (HBG.out _ HB1.out).mono ?_; rintro e w2 ⟨b, rfl, hs2, hsz2, hb2⟩; have HS2 := Lib.hid hs2; have HSZ := Lib.hid hsz2; have HB2 := Lib.hid (HB1.out.trans (hb2.mono HB1.out.size)); have HX2 := Lib.hid ((hb2.block _ (lt_of_heap HX1.out)).trans HX1.out); clear b0 b1 b2 b3; obtain ⟨b0, b1, b2, b3, -⟩ := box4c HX2.out; clear hs2 hsz2 hb2))
    have HC0 : Hid (Cv p (.cells #[.string ⟨p.nm.toArray⟩, .slice s0 p.p0.length c0, .slice s1 p.p1.length c1, .slice s2 n c2] 29 (0, 0)) w b 0 (bg p) w2) := Lib.hid ⟨HS2.out, by simpa [flat_nil] using sr_bg HR.out, by unfold ck; rfl, HX2.out, HB2.out, by have := HSZ.out; omega⟩
    clear b0 b1 b2 b3 lw1
    go_loopg [16] n (fun q u16 wr => ∃ (i : Nat) (f : Cs), i + q = n ∧ u16 = .int .i64 i ∧ Aside (Cv p (.cells #[.string ⟨p.nm.toArray⟩, .slice s0 p.p0.length c0, .slice s1 p.p1.length c1, .slice s2 n c2] 29 (0, 0)) w b i f wr))
    case atStart => exact ⟨0, bg p, by omega, rfl, HC0.out⟩
    case round =>
      obtain ⟨i, f, hiq, rfl, hcv⟩ := hrel
      have HCV := Lib.hid hcv.out; clear hcv
      obtain ⟨b0, b1, b2, b3, -⟩ := box4c HCV.out.bx
      have lbx := lt_of_heap HCV.out.bx
      by_cases hlt : i < n
      · have HLT : Hid (i < p.ms.length) := Lib.hid (by have := HN.out; omega)
        obtain ⟨g, o, rfl, hia⟩ := (HIM.out.keep HCV.out.bel) (by have := HLT.out; omega)
        obtain ⟨q0, sx, cx, q1, qi⟩ := hia i HLT.out
        have hmm := right_ms' HR.out (m := p.ms.getD i default) (by rw [List.getD_eq_getElem?_getD, List.getElem?_eq_getElem HLT.out]; exact List.getElem_mem _)
        have hll := HLN.out.2 i HLT.out
        have HNX := Lib.hid (ckG_next (p := p) (L := flat (p.ms.take i)) (v := pvF p.ms i) HLT.out)
        have hfn := flat_next HLT.out
        have lg := World.block_lt_of_cell? _ _ q0
        have HIA := Lib.hid hia
        have hi0 : IntsV w sx (p.ms.getD i default).t := by
          obtain ⟨g', o', e', hia'⟩ := HIM.out (by have := HLT.out; omega)
          cases e'
          obtain ⟨q0', sx', cx', q1', qi'⟩ := hia' i HLT.out
          have := (HCV.out.bel.cell (p := ⟨g, o + i * 2 + 1, none⟩) (World.block_lt_of_cell? _ _ q1')).trans q1'
          rw [q1] at this
          cases this
          exact qi'
        clear hia qi
        obtain ⟨fr, hfr⟩ : ∃ fr, fr = (p.ms.getD i default).fr := ⟨_, rfl⟩
        obtain ⟨ts, hts⟩ : ∃ ts, ts = (p.ms.getD i default).t := ⟨_, rfl⟩
        rw [← hfr, ← hts] at hmm HNX hfn
        rw [← hfr] at q0
        rw [← hts] at q1 hi0 hll
        have HFR := Lib.hid hfr
        have HFN := Lib.hid hfn
        clear hfr hts hfn
        have HTK := Lib.hid (fun q => take7_any p (flat (p.ms.take i)) f b sx cx fr ts hmm.1 hmm.2 hll w ((wr.alloc (.cells #[.int .i64 fr, .slice sx ts.length cx] 68)).drewN q) (belowN (HCV.out.bel.alloc HCV.out.bel.size _)) (by have := HCV.out.gb; omega) HK.out (HCV.out.st.keep (belowN ((Below.refl _ _).alloc (Nat.le_refl _) _))) HCV.out.sr hi0)
        have HGA : Hid (∀ q, Below w.heap.size w ((wr.alloc (.cells #[.int .i64 fr, .slice sx ts.length cx] 68)).drewN q) ∧ ((wr.alloc (.cells #[.int .i64 fr, .slice sx ts.length cx] 68)).drewN q).heap[w.heap.size]? = some (.cells #[.string ⟨p.nm.toArray⟩, .slice s0 p.p0.length c0, .slice s1 p.p1.length c1, .slice (some ⟨g, o, none⟩) n c2] 29 (0, 0))) := Lib.hid (fun q => ⟨belowN (HCV.out.bel.alloc HCV.out.bel.size _), (Below.heap_alloc _ _ _ lbx).trans HCV.out.bx⟩)
        obtain ⟨v, hv⟩ : ∃ v, v = rtk p fr (flat (p.ms.take i)) ts := ⟨_, rfl⟩
        rw [← hv] at HTK HNX
        obtain ⟨m, hm⟩ : ∃ m, m = ts.length := ⟨_, rfl⟩
        rw [← hm] at q1 HTK HGA
        clear hm hv hi0 hll hmm
        have hi2 : (i : Int) < n := by omega
        rcases Nat.eq_zero_or_pos i with h0 | h0
        · have HPV : Hid (pvF p.ms i ≠ some fr) := Lib.hid (by rw [h0]; unfold pvF; simp)
          have hg0 : ((i : Int) > 0) = False := by simp; omega
          have hz0 : ¬ (0 : Int) < i := by omega
          have hz1 : ¬ 0 < i := by omega
          clear h0 hg0
          by_cases hz : v = 0
          · subst hz
            go_wp2_with fail
            go_quiet (fail)
            go_wp2_with (go_at_call 41; refine (HTK.out _).mono ?_; rintro e w5 ⟨rfl, hg5, hf5⟩; have HG5 := Lib.hid hg5; have HF5 := Lib.hid (hf5 (by trivial)); clear hg5 hf5)
            obtain ⟨f', hsf, hrf⟩ := HF5.out
            have HSF := Lib.hid hsf
            have HRF := Lib.hid hrf
            clear hsf hrf
            go_roundg (n - (i + 1))
            case measure => omega
            case rel =>
              have hnx := HNX.out
              rw [if_neg HPV.out, if_pos trivial, ← HFN.out] at hnx
              exact ⟨i + 1, f', by omega, by go_num, (show Aside _ from ⟨HSF.out, by rw [HFN.out]; exact HRF.out, by rw [HCV.out.ck, hnx]; congr 1; unfold pvF; rw [if_neg (by omega), Nat.add_sub_cancel, HFR.out], gw_block HG5.out (HGA.out _).2 (by have := HCV.out.gb; omega), below_gw (HGA.out _).1 HG5.out (by have := HCV.out.gb; omega), HCV.out.gb⟩)⟩
          · have HV := Lib.hid (ck_out HR.out (v := v) (i := i) (by rw [HCV.out.ck, HNX.out, if_neg HPV.out, if_neg hz]) hz)
            have hzb : (v != 0) = true := by simpa using hz
            clear hz
            go_wp2_with fail
            go_quiet (fail)
            go_wp2_with (go_at_call 41; refine (HTK.out _).mono ?_; rintro e w5 ⟨rfl, hg5, -⟩; have HG5 := Lib.hid hg5; clear hg5)
            go_ret3
            exact ⟨by rw [HV.out.1, HV.out.2.1, HV.out.2.2]; rfl, below_gw (HGA.out _).1 HG5.out (by have := HCV.out.gb; omega)⟩
        · obtain ⟨j, hj⟩ : ∃ j, i = j + 1 := ⟨i - 1, by omega⟩
          obtain ⟨qj, -⟩ := HIA.out j (by have := HLT.out; omega)
          obtain ⟨fj, hfj⟩ : ∃ fj, fj = (p.ms.getD j default).fr := ⟨_, rfl⟩
          rw [← hfj] at qj
          have HPJ : Hid (pvF p.ms i = some fj) := Lib.hid (by rw [hj, hfj]; unfold pvF; simp)
          have hz0 : (0 : Int) < i := by omega
          have hw : IntKind.i64.wrap ((i : Int) - 1) = (j : Int) := by
            rw [hj]
            have : ((((j + 1 : Nat) : Int)) - 1) = (j : Int) := by omega
            rw [this]
            exact wrap_le (by omega) (by omega)
          have hjn : (j : Int) < n := by omega
          have hjn2 : j < n := by omega
          clear hfj
          by_cases hff : fr = fj
          · have HV := Lib.hid (ck_out HR.out (v := 1) (i := i) (by rw [HCV.out.ck, HNX.out, if_pos (by rw [HPJ.out, hff])]) (by decide))
            have hfb : (fr == fj) = true := by simpa using hff
            clear hff hj
            go_wp2_with fail
            go_quiet (fail)
            go_wp2_with fail
            go_ret3
            exact ⟨by rw [HV.out.1, HV.out.2.1, HV.out.2.2]; rfl, (HGA.out _).1⟩
          · have HPV : Hid (pvF p.ms i ≠ some fr) := Lib.hid (by rw [HPJ.out]; intro e; cases e; exact hff rfl)
            have hfb : (fr == fj) = false := by simpa using hff
            clear hff hj
            by_cases hz : v = 0
            · subst hz
              go_wp2_with fail
              go_quiet (fail)
              go_wp2_with (go_at_call 41; refine (HTK.out _).mono ?_; rintro e w5 ⟨rfl, hg5, hf5⟩; have HG5 := Lib.hid hg5; have HF5 := Lib.hid (hf5 (by trivial)); clear hg5 hf5)
              obtain ⟨f', hsf, hrf⟩ := HF5.out
              have HSF := Lib.hid hsf
              have HRF := Lib.hid hrf
              clear hsf hrf
              go_roundg (n - (i + 1))
              case measure => omega
              case rel =>
                have hnx := HNX.out
                rw [if_neg HPV.out, if_pos trivial, ← HFN.out] at hnx
                exact ⟨i + 1, f', by omega, by go_num, (show Aside _ from ⟨HSF.out, by rw [HFN.out]; exact HRF.out, by rw [HCV.out.ck, hnx]; congr 1; unfold pvF; rw [if_neg (by omega), Nat.add_sub_cancel, HFR.out], gw_block HG5.out (HGA.out _).2 (by have := HCV.out.gb; omega), below_gw (HGA.out _).1 HG5.out (by have := HCV.out.gb; omega), HCV.out.gb⟩)⟩
            · have HV := Lib.hid (ck_out HR.out (v := v) (i := i) (by rw [HCV.out.ck, HNX.out, if_neg HPV.out, if_neg hz]) hz)
              have hzb : (v != 0) = true := by simpa using hz
              clear hz
              go_wp2_with fail
              go_quiet (fail)
              go_wp2_with (go_at_call 41; refine (HTK.out _).mono ?_; rintro e w5 ⟨rfl, hg5, -⟩; have HG5 := Lib.hid hg5; clear hg5)
              go_ret3
              exact ⟨by rw [HV.out.1, HV.out.2.1, HV.out.2.2]; rfl, below_gw (HGA.out _).1 HG5.out (by have := HCV.out.gb; omega)⟩
      · have hi2 : ¬ (i : Int) < n := by omega
        have HIN : Hid (i = p.ms.length) := Lib.hid (by have := HN.out; omega)
        have HFL : Hid (Sr p f (flat p.ms) ∧ ck p = (rfin p (flat p.ms), p.ms.length)) := Lib.hid (by
          have h1 := HCV.out.sr
          have h2 := HCV.out.ck
          rw [HIN.out] at h1 h2
          rw [List.take_of_length_le (Nat.le_refl _)] at h1 h2
          exact ⟨h1, h2.trans ckG_end⟩)
        have HBF := Lib.hid (HBE.out f b wr HCV.out.bel HCV.out.st HFL.out.1)
        obtain ⟨v, hv⟩ : ∃ v, v = rfin p (flat p.ms) := ⟨_, rfl⟩
        rw [← hv] at HBF HFL
        clear hv
        by_cases hz : v = 0
        · subst hz
          have HV := Lib.hid (ck_fine HR.out HFL.out.2)
          go_wp2_with (go_at_call 42; refine HBF.out.mono ?_; rintro e w5 ⟨rfl, hb5⟩; have HB5 := Lib.hid (HCV.out.bel.trans (hb5.mono HCV.out.bel.size)); clear b0 b1 b2 b3; obtain ⟨b0, b1, b2, b3, -⟩ := box4c ((hb5.block _ lbx).trans HCV.out.bx); have lb5 : w.heap.size < w5.heap.size := Nat.lt_of_lt_of_le lbx hb5.size; clear hb5)
          go_ret3
          exact ⟨by rw [HV.out.1, HV.out.2.1, HV.out.2.2]; rfl, HB5.out⟩
        · have HV := Lib.hid (ck_out HR.out HFL.out.2 hz)
          have hzb : (v != 0) = true := by simpa using hz
          clear hz
          go_wp2_with (go_at_call 42; refine HBF.out.mono ?_; rintro e w5 ⟨rfl, hb5⟩; have HB5 := Lib.hid (HCV.out.bel.trans (hb5.mono HCV.out.bel.size)); clear b0 b1 b2 b3; obtain ⟨b0, b1, b2, b3, -⟩ := box4c ((hb5.block _ lbx).trans HCV.out.bx); have lb5 : w.heap.size < w5.heap.size := Nat.lt_of_lt_of_le lbx hb5.size; clear hb5)
          go_quiet (fail)
          go_wp2_with fail
          go_ret3
          exact ⟨by rw [HV.out.1, HV.out.2.1, HV.out.2.2, ← HN.out]; rfl, belowN HB5.out⟩
end Go.Proofs.YtahbbojhdkillaaDoor
