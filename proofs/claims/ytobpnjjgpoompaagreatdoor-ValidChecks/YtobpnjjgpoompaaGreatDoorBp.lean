/- Layer 6: the walk of modify. -/
import Derived.Test.YtobpnjjgpoompaaGreatDoorBo
import Derived.Shelf.Strconv.Itoa3
namespace Go.Proofs.YtobpnjjgpoompaaGreatDoor
open Go.RowKit Go.Shelf

theorem itoa_any (d : Nat) (hd : d < 10) (w : World) : Calls Tryz.prog 66 #[.int .i64 d] w fun e w' => e = .returned (.string ⟨#[UInt8.ofNat (48 + d)]⟩) ∧ w' = w := by
  refine (Any.strconv_Itoa_small Tryz.lays171 d (by omega) w).mono ?_
  rintro e w' ⟨rfl, rfl⟩
  refine ⟨?_, rfl⟩
  rw [Lib.decDigits_one hd]
def fbB : ByteArray := ⟨#[102, 97, 108, 108, 98, 97, 99, 107]⟩
def pskB (d : Nat) : ByteArray := ⟨(pskT d).toArray⟩
theorem trim_no {r t : ByteArray} (h : Lib.hasPrefix r.data.toList t.data.toList = false) : trimB r t = r := by
  unfold trimB Lib.trimPrefix
  rw [h]
  exact ByteArray.ext (Array.ext' (by simp))

set_option maxRecDepth 100000 in
set_option maxHeartbeats 2000000 in
theorem modify_any (x : Sl) (p : Pt) (rb : Nat) (r : ByteArray) (w : World) (hp : PatA w x p) (hr : w.heap[rb]? = some (restO r)) : Calls Tryz.prog 41 #[patV x p, takeV rb] w (MdPost w rb (modY p r.data.toList)) := by
  have HM0 := Lib.hid (md_new hr hp)
  have HF := Lib.hid (fun s wx (h : Md w rb s x p wx) => fallback_any x p wx h.pat)
  have HK := Lib.hid (fun s wx (n : Int) (h : Md w rb s x p wx) => psk_any x p n wx h.pat)
  have HT := Lib.hid (fun t wx (h : Md w rb r x p wx) => take_any t r rb wx h.rc)
  clear hp hr
  cases hf : Lib.hasPrefix r.data.toList fbT with
  | true =>
    have HY : Hid (modY p r.data.toList = (fbP p, fbE p, Lib.trimPrefix r.data.toList fbT)) := Lib.hid (by unfold modY; rw [if_pos hf])
    rw [HY.out]
    have HTF := Lib.hid (fun wx (h : Md w rb r x p wx) => HT.out fbB wx h)
    have hfb : Lib.hasPrefix r.data.toList fbB.data.toList = true := hf
    rw [hfb] at HTF
    clear hf hfb
    unfold patV takeV fbB at *
    go_enter Tryz.func41, Tryz.ntmps41
    go_wp2_with (first
      | (go_at_call 39; refine (HTF.out _ HM0.out).mono ?_; rintro e w1 ⟨rfl, hw1⟩; have HM1 : Hid (Md w rb (trimB r fbB) x p w1) := Lib.hid (by rw [hw1]; exact HM0.out.set _); clear hw1; obtain ⟨a0, a1, a2, a3, -⟩ := box4c HM1.out.pb)
      | (go_at_call 65; refine (HF.out _ _ HM1.out).mono ?_; rintro e w2 ⟨y, rfl, hy, hb2⟩; have HB2 := Lib.hid hb2; have HY2 := Lib.hid hy; have HM2 := Lib.hid (HM1.out.keep hb2); clear hy hb2; obtain ⟨r0, r1, r2, r3, y0, y1, y2, y3⟩ := box4c HM2.out.res))
    refine bodyPost_ret (v := .tuple #[patV y (fbP p), .int .i64 (fbE p)]) (by unfold patV; rw [results_cell_tmp rfl]; go_simp) rfl ?_
    obtain ⟨q1, q2, q3⟩ := md_end HM1.out HB2.out HY2.out (.string ⟨(fbP p).nm.toArray⟩) (.slice y.s0 (fbP p).p0.length y.c0) (.slice y.s1 (fbP p).p1.length y.c1) (.slice y.s2 (fbP p).ms.length y.c2)
    exact ⟨y, rfl, q1, q2, q3⟩
  | false =>
    have HY : Hid (modY p r.data.toList = modD p r.data.toList 10 0) := Lib.hid (by unfold modY; rw [if_neg (by rw [hf]; decide)])
    rw [HY.out]
    have HTF := Lib.hid (fun wx (h : Md w rb r x p wx) => HT.out fbB wx h)
    have hfb : Lib.hasPrefix r.data.toList fbB.data.toList = false := hf
    rw [hfb, trim_no hfb] at HTF
    clear hf hfb
    unfold patV takeV fbB at *
    go_enter Tryz.func41, Tryz.ntmps41
    go_wp2_with (first
      | (go_at_call 39; refine (HTF.out _ HM0.out).mono ?_; rintro e w1 ⟨rfl, hw1⟩; have HM1 : Hid (Md w rb r x p w1) := Lib.hid (by rw [hw1]; exact HM0.out.set _); clear hw1))
    go_loopg [6, 13] 10 (fun q _ u13 wr => ∃ d : Nat, d + q = 10 ∧ u13 = .int .i64 d ∧ Aside (modD p r.data.toList 10 0 = modD p r.data.toList q d ∧ Md w rb r x p wr))
    case atStart => exact ⟨0, by omega, rfl, ⟨rfl, HM1.out⟩⟩
    case round =>
      obtain ⟨d, hdq, rfl, hmd⟩ := hrel
      have HM := Lib.hid hmd.out
      clear hmd HM1
      by_cases hlt : d < 10
      · have hd2 : (d : Int) < 10 := by omega
        have HIT := Lib.hid (itoa_any d hlt)
        obtain ⟨D, hD⟩ : ∃ D : ByteArray, D = ⟨#[UInt8.ofNat (48 + d)]⟩ := ⟨_, rfl⟩
        obtain ⟨S, hS⟩ : ∃ S : ByteArray, S = ⟨(pskT d).toArray⟩ := ⟨_, rfl⟩
        rw [← hD] at HIT
        have e1 := add_any (a := [112, 115, 107]) (b := [UInt8.ofNat (48 + d)]) (A := ⟨#[112, 115, 107]⟩) (B := D) (C := S) rfl hD hS (by simp) (by simp)
        have hSd : S.data.toList = pskT d := by rw [hS]
        obtain ⟨q, rfl⟩ : ∃ q, gk = q + 1 := ⟨gk - 1, by omega⟩
        cases hx : Lib.hasPrefix r.data.toList (pskT d) with
        | true =>
          have HQ : Hid (modD p r.data.toList 10 0 = (pskP p d, pskE p d, Lib.trimPrefix r.data.toList (pskT d))) := Lib.hid (by rw [HM.out.1]; unfold modD; rw [if_pos hx])
          have HTS := Lib.hid (fun wx (h : Md w rb r x p wx) => HT.out S wx h)
          rw [hSd, hx] at HTS
          have HTR : Hid (trimB r S = ⟨(Lib.trimPrefix r.data.toList (pskT d)).toArray⟩) := Lib.hid (by unfold trimB; rw [hSd])
          rw [HQ.out]
          clear hD hS hSd hx
          go_wp2_with (first
            | (go_at_call 66; refine (HIT.out _).mono ?_; rintro e w2 ⟨rfl, rfl⟩)
            | (go_at_call 39; refine (HTS.out _ HM.out.2).mono ?_; rintro e w3 ⟨rfl, hw3⟩; have HM3 : Hid (Md w rb (trimB r S) x p w3) := Lib.hid (by rw [hw3]; exact HM.out.2.set _); clear hw3; obtain ⟨a0, a1, a2, a3, -⟩ := box4c HM3.out.pb)
            | (go_at_call 17; refine (HK.out _ _ _ HM3.out).mono ?_; rintro e w4 ⟨y, rfl, hy, hb4⟩; have HB4 := Lib.hid hb4; have HY4 := Lib.hid hy; have HM4 := Lib.hid (HM3.out.keep hb4); clear hy hb4; obtain ⟨r0, r1, r2, r3, y0, y1, y2, y3⟩ := box4c HM4.out.res))
          refine bodyPost_ret (v := .tuple #[patV y (pskP p d), .int .i64 (pskE p d)]) (by unfold patV; rw [results_cell_tmp rfl]; go_simp) rfl ?_
          obtain ⟨q1, q2, q3⟩ := md_end HM3.out HB4.out HY4.out (.string ⟨(pskP p d).nm.toArray⟩) (.slice y.s0 (pskP p d).p0.length y.c0) (.slice y.s1 (pskP p d).p1.length y.c1) (.slice y.s2 (pskP p d).ms.length y.c2)
          rw [HTR.out] at q2
          exact ⟨y, rfl, q1, q2, q3⟩
        | false =>
          have HQ : Hid (modD p r.data.toList 10 0 = modD p r.data.toList q (d + 1)) := Lib.hid (by rw [HM.out.1]; show (if _ then _ else _) = _; rw [if_neg (by rw [hx]; decide)])
          have HTS := Lib.hid (fun wx (h : Md w rb r x p wx) => HT.out S wx h)
          have hxs : Lib.hasPrefix r.data.toList S.data.toList = false := by rw [hSd]; exact hx
          rw [hxs, trim_no hxs] at HTS
          clear hD hS hSd hx hxs
          go_wp2_with (first
            | (go_at_call 66; refine (HIT.out _).mono ?_; rintro e w2 ⟨rfl, rfl⟩)
            | (go_at_call 39; refine (HTS.out _ HM.out.2).mono ?_; rintro e w3 ⟨rfl, hw3⟩; have HM3 : Hid (Md w rb r x p w3) := Lib.hid (by rw [hw3]; exact HM.out.2.set _); clear hw3))
          go_roundg q
          case measure => omega
          case rel => exact ⟨d + 1, by omega, by go_num, (show _ ∧ _ from ⟨HQ.out, HM3.out⟩)⟩
      · have hd2 : ¬ (d : Int) < 10 := by omega
        have hq0 : gk = 0 := by omega
        have HQ : Hid (modD p r.data.toList 10 0 = (zP, 4, r.data.toList)) := Lib.hid (by rw [HM.out.1, hq0]; rfl)
        rw [HQ.out]
        obtain ⟨r0, r1, r2, r3, y0, y1, y2, y3⟩ := box4c HM.out.2.res
        go_wp2_with fail
        refine bodyPost_ret (v := .tuple #[.agg #[.string ⟨#[]⟩, .slice none 0 0, .slice none 0 0, .slice none 0 0], .int .i64 4]) (by rw [results_cell_tmp rfl]; go_simp) rfl ?_
        obtain ⟨q1, q2, q3⟩ := md_end HM.out.2 (Below.refl _ _) (patA_zero wr) (.string ⟨#[]⟩) (.slice none 0 0) (.slice none 0 0) (.slice none 0 0)
        rw [HQ.out]
        exact (show MdPost w rb (zP, 4, r.data.toList) _ _ from ⟨nilS, rfl, q1, q2, q3⟩)
end Go.Proofs.YtobpnjjgpoompaaGreatDoor
