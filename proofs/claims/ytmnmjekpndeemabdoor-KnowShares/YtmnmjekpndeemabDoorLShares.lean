/- The walk of KnowShares. -/
import Derived.Test.YtmnmjekpndeemabDoorLSa
namespace Go.Proofs.YtmnmjekpndeemabDoor
open Go.RowKit Go.Maps

set_option maxRecDepth 100000 in
set_option maxHeartbeats 4000000 in
theorem shares_big (own n : Int) (hears has : Bool) (ho : 1048576 ≤ own ∨ 4294967296 ≤ n) (w : World) (hs : Shp w) : Calls Tryd.prog 5 #[.int .u64 own, .int .u64 n, .bool hears, .bool has] w fun e w' => e = .returned (.bool true) ∧ Below w.heap.size w w' := by
  have HN := Lib.hid (new_any 20 w)
  have HA := Lib.hid (fun w1 (hb : Below w.heap.size w w1) => awake_any w1 (hs.below hb))
  clear hs
  rcases Int.lt_or_le own 1048576 with h1 | h1
  · have h2 : 4294967296 ≤ n := by omega
    clear ho
    go_enter Tryd.func5, Tryd.ntmps5
    go_wp2_with (first
      | (go_at_call 14; refine HN.out.mono ?_; rintro e w1 ⟨b, g, bm, rfl, hA1, q1, q2, q3, hb1⟩)
      | (go_at_call 6; refine (HA.out w1 hb1).mono ?_; rintro e w2 ⟨rfl, hb2⟩))
    go_ret
    exact ⟨rfl, hb1.trans (hb2.mono hb1.size)⟩
  · clear ho
    go_enter Tryd.func5, Tryd.ntmps5
    go_wp2_with (first
      | (go_at_call 14; refine HN.out.mono ?_; rintro e w1 ⟨b, g, bm, rfl, hA1, q1, q2, q3, hb1⟩)
      | (go_at_call 6; refine (HA.out w1 hb1).mono ?_; rintro e w2 ⟨rfl, hb2⟩))
    go_ret
    exact ⟨rfl, hb1.trans (hb2.mono hb1.size)⟩
set_option maxRecDepth 100000 in
set_option maxHeartbeats 8000000 in
theorem shares_ff (own n : Int) (ho : u64ok own) (hn : u64ok n) (ho1 : own < 1048576) (hn1 : n < 4294967296) (w : World) (hs : Shp w) : Calls Tryd.prog 5 #[.int .u64 own, .int .u64 n, .bool false, .bool false] w fun e w' => e = .returned (.bool true) ∧ Below w.heap.size w w' := by
  have HN := Lib.hid (new_any 20 w)
  have HA := Lib.hid (fun w1 (hb : Below w.heap.size w w1) => awake_any w1 (hs.below hb))
  have hwr : IntKind.u64.wrap (4294967296 + own) = 4294967296 + own := by unfold u64ok at ho; rw [IntKind.wrap_u64]; omega
  have hm1 : 4294967296 ≤ 4294967296 + own := by unfold u64ok at ho; omega
  have hnm : n < 4294967296 + own := by omega
  have hmo : u64ok (4294967296 + own) := by unfold u64ok at ho ⊢; omega
  have HM1 : Hid (∀ w1 b g bm cap, St w w1 b g bm cap 20 [zN] → Calls Tryd.prog 15 #[.pointer (some ⟨b, 0, none⟩), .agg #[.int .i64 1, .int .u64 n, .int .i64 0, .int .i64 0, .int .i64 0]] w1 fun e w' => ∃ g' cap', e = .returned (.tuple #[.int .i64 1, .int .i64 0]) ∧ St w w' b g' bm cap' 20 (s2L n)) := Lib.hid (fun w1 b g bm cap h => by
    refine (mk_any b g bm cap 20 [zN] 1 n 0 0 0 w1 h.ar (h.shp hs) (okN _ _ _ (by simp [i64ok]) hn (by simp [i64ok]))).mono ?_
    rintro e w' ⟨g', cap', rfl, hA, hg, hk⟩
    obtain ⟨m1, m2, m3⟩ := s_mk1 n
    rw [m1] at hA
    rw [m2, m3]
    exact ⟨g', cap', rfl, h.step hA hg hk⟩)
  have HM2 : Hid (∀ w1 b g bm cap, St w w1 b g bm cap 20 (s2L n) → Calls Tryd.prog 15 #[.pointer (some ⟨b, 0, none⟩), .agg #[.int .i64 1, .int .u64 (4294967296 + own), .int .i64 0, .int .i64 0, .int .i64 0]] w1 fun e w' => ∃ g' cap', e = .returned (.tuple #[.int .i64 2, .int .i64 0]) ∧ St w w' b g' bm cap' 20 (s3L n (4294967296 + own))) := Lib.hid (fun w1 b g bm cap h => by
    refine (mk_any b g bm cap 20 (s2L n) 1 (4294967296 + own) 0 0 0 w1 h.ar (h.shp hs) (okN _ _ _ (by simp [i64ok]) hmo (by simp [i64ok]))).mono ?_
    rintro e w' ⟨g', cap', rfl, hA, hg, hk⟩
    obtain ⟨m1, m2, m3⟩ := s_mk2 hnm
    rw [m1] at hA
    rw [m2, m3]
    exact ⟨g', cap', rfl, h.step hA hg hk⟩)
  have HM3 : Hid (∀ w1 b g bm cap, St w w1 b g bm cap 20 (s3L n (4294967296 + own)) → Calls Tryd.prog 15 #[.pointer (some ⟨b, 0, none⟩), .agg #[.int .i64 2, .int .u64 0, .int .i64 1, .int .i64 0, .int .i64 0]] w1 fun e w' => ∃ g' cap', e = .returned (.tuple #[.int .i64 3, .int .i64 0]) ∧ St w w' b g' bm cap' 20 (s4L n (4294967296 + own))) := Lib.hid (fun w1 b g bm cap h => by
    refine (mk_any b g bm cap 20 (s3L n (4294967296 + own)) 2 0 1 0 0 w1 h.ar (h.shp hs) (by simp [Nd.ok, i64ok, u64ok])).mono ?_
    rintro e w' ⟨g', cap', rfl, hA, hg, hk⟩
    obtain ⟨m1, m2, m3⟩ := s_mk3 n (4294967296 + own)
    rw [m1] at hA
    rw [m2, m3]
    exact ⟨g', cap', rfl, h.step hA hg hk⟩)
  have HSH : Hid (∀ w1 b g bm cap, St w w1 b g bm cap 20 (s4L n (4294967296 + own)) → Calls Tryd.prog 16 #[.pointer (some ⟨b, 0, none⟩), .int .i64 2, .int .i64 3] w1 fun e w' => ∃ g' cap', e = .returned (.tuple #[.int .i64 4, .int .i64 0]) ∧ St w w' b g' bm cap' 20 (s5L n (4294967296 + own))) := Lib.hid (fun w1 b g bm cap h => by
    refine (share_any b g bm cap 20 (s4L n (4294967296 + own)) 2 3 w1 h.ar (h.shp hs)).mono ?_
    rintro e w' ⟨g', cap', rfl, hA, hg, hk⟩
    obtain ⟨m1, m2, m3⟩ := s_sh hnm h.ar.wf
    rw [m1] at hA
    rw [m2, m3]
    exact ⟨g', cap', rfl, h.step hA hg hk⟩)
  have ho2 : (own : Int) < 1048576 := ho1
  clear hs ho hn hmo
  go_enter Tryd.func5, Tryd.ntmps5
  go_wp2_with (first
    | (go_at_call 14; refine HN.out.mono ?_; rintro e w1 ⟨b, g, bm, rfl, hA1, h1, h2, h3, hb1⟩; have H1 : Hid (St w w1 b g bm 1 20 [zN]) := Lib.hid ⟨hA1, hb1, h1, h2, h3⟩; clear hA1 h1 h2 h3 hb1; have _g1 := Nat.le_refl 0)
    | (go_at_call 15; have _h := _g1; refine (HM1.out w1 b g bm 1 H1.out).mono ?_; rintro e w2 ⟨g2, cap2, rfl, hS2⟩; have H2 := Lib.hid hS2; clear hS2 _g1; have _g2 := Nat.le_refl 0)
    | (go_at_call 15; have _h := _g2; refine (HM2.out w2 b g2 bm cap2 H2.out).mono ?_; rintro e w3 ⟨g3, cap3, rfl, hS3⟩; have H3 := Lib.hid hS3; clear hS3 _g2; have _g3 := Nat.le_refl 0)
    | (go_at_call 15; have _h := _g3; refine (HM3.out w3 b g3 bm cap3 H3.out).mono ?_; rintro e w4 ⟨g4, cap4, rfl, hS4⟩; have H4 := Lib.hid hS4; clear hS4 _g3)
    | (go_at_call 16; refine (HSH.out w4 b g4 bm cap4 H4.out).mono ?_; rintro e w4b ⟨g4b, cap4b, rfl, hS4b⟩; have H4b := Lib.hid hS4b; clear hS4b)
    | (go_at_call 12; refine (knew_any H4b.out).mono ?_; rintro e w5 ⟨rfl, hK5, hb5⟩; have HK5 := Lib.hid hK5; have HW5 := Lib.hid H4b.out.ar.wf; have HC5 : Hid (∀ y : Int, (fun _ : Int => false) y = true ↔ sK false false y) := Lib.hid (fun y => by simp [sK]); clear hK5 hb5; have _k5 := Nat.le_refl 0)
    | (go_at_call 8; have _h := _k5; refine (can_any HK5.out.kn.ar.wf HK5.out.kn 4 rfl).mono ?_; rintro e w8 ⟨d, rfl, hd, hN, hP⟩; have hd' : d = false := (by rw [s_can4 HW5.out hn1 hm1 (by simp)] at hd; revert hd; cases d; exact (fun hd => (by first | rfl | exact absurd (hd.2 (by simp)) (by simp))); exact (fun hd => (by first | rfl | exact absurd (hd.1 rfl) (by simp)))); subst hd'; have HKw8 := Lib.hid (HK5.out.can hN hP); clear hd hN hP _k5; have _c4 := Nat.le_refl 0)
    | (go_at_call 8; have _h := _c4; refine (can_any HKw8.out.kn.ar.wf HKw8.out.kn 3 rfl).mono ?_; rintro e w9 ⟨d, rfl, hd, hN, hP⟩; have hd' : d = false := (by rw [s_can3 HW5.out hn1] at hd; revert hd; cases d; exact (fun hd => (by first | rfl | exact absurd (hd.2 (by simp)) (by simp))); exact (fun hd => (by first | rfl | exact absurd (hd.1 rfl) (by simp)))); subst hd'; have HKw9 := Lib.hid (HKw8.out.can hN hP); clear hd hN hP _c4; have _c3 := Nat.le_refl 0)
    | (go_at_call 8; have _h := _c3; refine (can_any HKw9.out.kn.ar.wf HKw9.out.kn 1 rfl).mono ?_; rintro e w10 ⟨d, rfl, hd, hN, hP⟩; have hd' : d = false := (by rw [s_can1 hn1] at hd; revert hd; cases d; exact (fun hd => (by first | rfl | exact absurd (hd.2 (by simp)) (by simp))); exact (fun hd => (by first | rfl | exact absurd (hd.1 rfl) (by simp)))); subst hd'; have HKw10 := Lib.hid (HKw9.out.can hN hP); clear hd hN hP _c3; have _c1 := Nat.le_refl 0)
    | (go_at_call 8; have _h := _c1; refine (can_any HKw10.out.kn.ar.wf HKw10.out.kn 2 rfl).mono ?_; rintro e w11 ⟨d, rfl, hd, hN, hP⟩; have hd' : d = true := (by exact hd.2 (s_can2 hm1 _)); subst hd'; have HKw11 := Lib.hid (HKw10.out.can hN hP); clear hd hN hP _c1; have _c2 := Nat.le_refl 0)
    | (go_at_call 6; refine (HA.out w11 HKw11.out.st.bel).mono ?_; rintro e w12 ⟨rfl, hb12⟩; have HK12 := Lib.hid (HKw11.out.keep hb12); clear hb12))
  go_ret
  exact ⟨rfl, HK12.out.st.bel⟩
set_option maxRecDepth 100000 in
set_option maxHeartbeats 8000000 in
theorem shares_ft (own n : Int) (ho : u64ok own) (hn : u64ok n) (ho1 : own < 1048576) (hn1 : n < 4294967296) (w : World) (hs : Shp w) : Calls Tryd.prog 5 #[.int .u64 own, .int .u64 n, .bool false, .bool true] w fun e w' => e = .returned (.bool true) ∧ Below w.heap.size w w' := by
  have HN := Lib.hid (new_any 20 w)
  have HA := Lib.hid (fun w1 (hb : Below w.heap.size w w1) => awake_any w1 (hs.below hb))
  have hwr : IntKind.u64.wrap (4294967296 + own) = 4294967296 + own := by unfold u64ok at ho; rw [IntKind.wrap_u64]; omega
  have hm1 : 4294967296 ≤ 4294967296 + own := by unfold u64ok at ho; omega
  have hnm : n < 4294967296 + own := by omega
  have hmo : u64ok (4294967296 + own) := by unfold u64ok at ho ⊢; omega
  have HM1 : Hid (∀ w1 b g bm cap, St w w1 b g bm cap 20 [zN] → Calls Tryd.prog 15 #[.pointer (some ⟨b, 0, none⟩), .agg #[.int .i64 1, .int .u64 n, .int .i64 0, .int .i64 0, .int .i64 0]] w1 fun e w' => ∃ g' cap', e = .returned (.tuple #[.int .i64 1, .int .i64 0]) ∧ St w w' b g' bm cap' 20 (s2L n)) := Lib.hid (fun w1 b g bm cap h => by
    refine (mk_any b g bm cap 20 [zN] 1 n 0 0 0 w1 h.ar (h.shp hs) (okN _ _ _ (by simp [i64ok]) hn (by simp [i64ok]))).mono ?_
    rintro e w' ⟨g', cap', rfl, hA, hg, hk⟩
    obtain ⟨m1, m2, m3⟩ := s_mk1 n
    rw [m1] at hA
    rw [m2, m3]
    exact ⟨g', cap', rfl, h.step hA hg hk⟩)
  have HM2 : Hid (∀ w1 b g bm cap, St w w1 b g bm cap 20 (s2L n) → Calls Tryd.prog 15 #[.pointer (some ⟨b, 0, none⟩), .agg #[.int .i64 1, .int .u64 (4294967296 + own), .int .i64 0, .int .i64 0, .int .i64 0]] w1 fun e w' => ∃ g' cap', e = .returned (.tuple #[.int .i64 2, .int .i64 0]) ∧ St w w' b g' bm cap' 20 (s3L n (4294967296 + own))) := Lib.hid (fun w1 b g bm cap h => by
    refine (mk_any b g bm cap 20 (s2L n) 1 (4294967296 + own) 0 0 0 w1 h.ar (h.shp hs) (okN _ _ _ (by simp [i64ok]) hmo (by simp [i64ok]))).mono ?_
    rintro e w' ⟨g', cap', rfl, hA, hg, hk⟩
    obtain ⟨m1, m2, m3⟩ := s_mk2 hnm
    rw [m1] at hA
    rw [m2, m3]
    exact ⟨g', cap', rfl, h.step hA hg hk⟩)
  have HM3 : Hid (∀ w1 b g bm cap, St w w1 b g bm cap 20 (s3L n (4294967296 + own)) → Calls Tryd.prog 15 #[.pointer (some ⟨b, 0, none⟩), .agg #[.int .i64 2, .int .u64 0, .int .i64 1, .int .i64 0, .int .i64 0]] w1 fun e w' => ∃ g' cap', e = .returned (.tuple #[.int .i64 3, .int .i64 0]) ∧ St w w' b g' bm cap' 20 (s4L n (4294967296 + own))) := Lib.hid (fun w1 b g bm cap h => by
    refine (mk_any b g bm cap 20 (s3L n (4294967296 + own)) 2 0 1 0 0 w1 h.ar (h.shp hs) (by simp [Nd.ok, i64ok, u64ok])).mono ?_
    rintro e w' ⟨g', cap', rfl, hA, hg, hk⟩
    obtain ⟨m1, m2, m3⟩ := s_mk3 n (4294967296 + own)
    rw [m1] at hA
    rw [m2, m3]
    exact ⟨g', cap', rfl, h.step hA hg hk⟩)
  have HSH : Hid (∀ w1 b g bm cap, St w w1 b g bm cap 20 (s4L n (4294967296 + own)) → Calls Tryd.prog 16 #[.pointer (some ⟨b, 0, none⟩), .int .i64 2, .int .i64 3] w1 fun e w' => ∃ g' cap', e = .returned (.tuple #[.int .i64 4, .int .i64 0]) ∧ St w w' b g' bm cap' 20 (s5L n (4294967296 + own))) := Lib.hid (fun w1 b g bm cap h => by
    refine (share_any b g bm cap 20 (s4L n (4294967296 + own)) 2 3 w1 h.ar (h.shp hs)).mono ?_
    rintro e w' ⟨g', cap', rfl, hA, hg, hk⟩
    obtain ⟨m1, m2, m3⟩ := s_sh hnm h.ar.wf
    rw [m1] at hA
    rw [m2, m3]
    exact ⟨g', cap', rfl, h.step hA hg hk⟩)
  have ho2 : (own : Int) < 1048576 := ho1
  clear hs ho hn hmo
  go_enter Tryd.func5, Tryd.ntmps5
  go_wp2_with (first
    | (go_at_call 14; refine HN.out.mono ?_; rintro e w1 ⟨b, g, bm, rfl, hA1, h1, h2, h3, hb1⟩; have H1 : Hid (St w w1 b g bm 1 20 [zN]) := Lib.hid ⟨hA1, hb1, h1, h2, h3⟩; clear hA1 h1 h2 h3 hb1; have _g1 := Nat.le_refl 0)
    | (go_at_call 15; have _h := _g1; refine (HM1.out w1 b g bm 1 H1.out).mono ?_; rintro e w2 ⟨g2, cap2, rfl, hS2⟩; have H2 := Lib.hid hS2; clear hS2 _g1; have _g2 := Nat.le_refl 0)
    | (go_at_call 15; have _h := _g2; refine (HM2.out w2 b g2 bm cap2 H2.out).mono ?_; rintro e w3 ⟨g3, cap3, rfl, hS3⟩; have H3 := Lib.hid hS3; clear hS3 _g2; have _g3 := Nat.le_refl 0)
    | (go_at_call 15; have _h := _g3; refine (HM3.out w3 b g3 bm cap3 H3.out).mono ?_; rintro e w4 ⟨g4, cap4, rfl, hS4⟩; have H4 := Lib.hid hS4; clear hS4 _g3)
    | (go_at_call 16; refine (HSH.out w4 b g4 bm cap4 H4.out).mono ?_; rintro e w4b ⟨g4b, cap4b, rfl, hS4b⟩; have H4b := Lib.hid hS4b; clear hS4b)
    | (go_at_call 12; refine (knew_any H4b.out).mono ?_; rintro e w5 ⟨rfl, hK5, hb5⟩; have HK5 := Lib.hid hK5; have HW5 := Lib.hid H4b.out.ar.wf; have HC5 : Hid (∀ y : Int, (fun _ : Int => false) y = true ↔ sK false false y) := Lib.hid (fun y => by simp [sK]); clear hK5 hb5; have _k5 := Nat.le_refl 0)
    | (go_at_call 13; have _h := _k5; refine (learn_any HK5.out.kn (by simp) 1 rfl).mono ?_; rintro e w7 ⟨hv7, K7, rfl, hN7, hC7, hL7⟩; have HK7 := Lib.hid (HK5.out.learn hN7 hL7); have HC7 : Hid (∀ y, K7 y = true ↔ sK false true y) := Lib.hid (fun y => by rw [hC7 y, s_cl]; simp [sK]); clear hN7 hC7 hL7 _k5; have _k7 := Nat.le_refl 0)
    | (go_at_call 8; have _h := _k7; refine (can_any HK7.out.kn.ar.wf HK7.out.kn 4 rfl).mono ?_; rintro e w8 ⟨d, rfl, hd, hN, hP⟩; have hd' : d = true := (by rw [s_can4 HW5.out hn1 hm1 (by rw [HC7.out]; exact sK_n _ _)] at hd; simp only [HC7.out, sK] at hd; revert hd; cases d; exact (fun hd => (by first | rfl | exact absurd (hd.2 (by simp)) (by simp))); exact (fun hd => (by first | rfl | exact absurd (hd.1 rfl) (by simp)))); subst hd'; have HKw8 := Lib.hid (HK7.out.can hN hP); clear hd hN hP _k7; have _c4 := Nat.le_refl 0)
    | (go_at_call 8; have _h := _c4; refine (can_any HKw8.out.kn.ar.wf HKw8.out.kn 3 rfl).mono ?_; rintro e w9 ⟨d, rfl, hd, hN, hP⟩; have hd' : d = true := (by rw [s_can3 HW5.out hn1] at hd; simp only [HC7.out, sK] at hd; revert hd; cases d; exact (fun hd => (by first | rfl | exact absurd (hd.2 (by simp)) (by simp))); exact (fun hd => (by first | rfl | exact absurd (hd.1 rfl) (by simp)))); subst hd'; have HKw9 := Lib.hid (HKw8.out.can hN hP); clear hd hN hP _c4; have _c3 := Nat.le_refl 0)
    | (go_at_call 8; have _h := _c3; refine (can_any HKw9.out.kn.ar.wf HKw9.out.kn 1 rfl).mono ?_; rintro e w10 ⟨d, rfl, hd, hN, hP⟩; have hd' : d = true := (by rw [s_can1 hn1] at hd; simp only [HC7.out, sK] at hd; revert hd; cases d; exact (fun hd => (by first | rfl | exact absurd (hd.2 (by simp)) (by simp))); exact (fun hd => (by first | rfl | exact absurd (hd.1 rfl) (by simp)))); subst hd'; have HKw10 := Lib.hid (HKw9.out.can hN hP); clear hd hN hP _c3; have _c1 := Nat.le_refl 0)
    | (go_at_call 8; have _h := _c1; refine (can_any HKw10.out.kn.ar.wf HKw10.out.kn 2 rfl).mono ?_; rintro e w11 ⟨d, rfl, hd, hN, hP⟩; have hd' : d = true := (by exact hd.2 (s_can2 hm1 _)); subst hd'; have HKw11 := Lib.hid (HKw10.out.can hN hP); clear hd hN hP _c1; have _c2 := Nat.le_refl 0)
    | (go_at_call 6; refine (HA.out w11 HKw11.out.st.bel).mono ?_; rintro e w12 ⟨rfl, hb12⟩; have HK12 := Lib.hid (HKw11.out.keep hb12); clear hb12))
  go_ret
  exact ⟨rfl, HK12.out.st.bel⟩
set_option maxRecDepth 100000 in
set_option maxHeartbeats 8000000 in
theorem shares_tf (own n : Int) (ho : u64ok own) (hn : u64ok n) (ho1 : own < 1048576) (hn1 : n < 4294967296) (w : World) (hs : Shp w) : Calls Tryd.prog 5 #[.int .u64 own, .int .u64 n, .bool true, .bool false] w fun e w' => e = .returned (.bool true) ∧ Below w.heap.size w w' := by
  have HN := Lib.hid (new_any 20 w)
  have HA := Lib.hid (fun w1 (hb : Below w.heap.size w w1) => awake_any w1 (hs.below hb))
  have hwr : IntKind.u64.wrap (4294967296 + own) = 4294967296 + own := by unfold u64ok at ho; rw [IntKind.wrap_u64]; omega
  have hm1 : 4294967296 ≤ 4294967296 + own := by unfold u64ok at ho; omega
  have hnm : n < 4294967296 + own := by omega
  have hmo : u64ok (4294967296 + own) := by unfold u64ok at ho ⊢; omega
  have HM1 : Hid (∀ w1 b g bm cap, St w w1 b g bm cap 20 [zN] → Calls Tryd.prog 15 #[.pointer (some ⟨b, 0, none⟩), .agg #[.int .i64 1, .int .u64 n, .int .i64 0, .int .i64 0, .int .i64 0]] w1 fun e w' => ∃ g' cap', e = .returned (.tuple #[.int .i64 1, .int .i64 0]) ∧ St w w' b g' bm cap' 20 (s2L n)) := Lib.hid (fun w1 b g bm cap h => by
    refine (mk_any b g bm cap 20 [zN] 1 n 0 0 0 w1 h.ar (h.shp hs) (okN _ _ _ (by simp [i64ok]) hn (by simp [i64ok]))).mono ?_
    rintro e w' ⟨g', cap', rfl, hA, hg, hk⟩
    obtain ⟨m1, m2, m3⟩ := s_mk1 n
    rw [m1] at hA
    rw [m2, m3]
    exact ⟨g', cap', rfl, h.step hA hg hk⟩)
  have HM2 : Hid (∀ w1 b g bm cap, St w w1 b g bm cap 20 (s2L n) → Calls Tryd.prog 15 #[.pointer (some ⟨b, 0, none⟩), .agg #[.int .i64 1, .int .u64 (4294967296 + own), .int .i64 0, .int .i64 0, .int .i64 0]] w1 fun e w' => ∃ g' cap', e = .returned (.tuple #[.int .i64 2, .int .i64 0]) ∧ St w w' b g' bm cap' 20 (s3L n (4294967296 + own))) := Lib.hid (fun w1 b g bm cap h => by
    refine (mk_any b g bm cap 20 (s2L n) 1 (4294967296 + own) 0 0 0 w1 h.ar (h.shp hs) (okN _ _ _ (by simp [i64ok]) hmo (by simp [i64ok]))).mono ?_
    rintro e w' ⟨g', cap', rfl, hA, hg, hk⟩
    obtain ⟨m1, m2, m3⟩ := s_mk2 hnm
    rw [m1] at hA
    rw [m2, m3]
    exact ⟨g', cap', rfl, h.step hA hg hk⟩)
  have HM3 : Hid (∀ w1 b g bm cap, St w w1 b g bm cap 20 (s3L n (4294967296 + own)) → Calls Tryd.prog 15 #[.pointer (some ⟨b, 0, none⟩), .agg #[.int .i64 2, .int .u64 0, .int .i64 1, .int .i64 0, .int .i64 0]] w1 fun e w' => ∃ g' cap', e = .returned (.tuple #[.int .i64 3, .int .i64 0]) ∧ St w w' b g' bm cap' 20 (s4L n (4294967296 + own))) := Lib.hid (fun w1 b g bm cap h => by
    refine (mk_any b g bm cap 20 (s3L n (4294967296 + own)) 2 0 1 0 0 w1 h.ar (h.shp hs) (by simp [Nd.ok, i64ok, u64ok])).mono ?_
    rintro e w' ⟨g', cap', rfl, hA, hg, hk⟩
    obtain ⟨m1, m2, m3⟩ := s_mk3 n (4294967296 + own)
    rw [m1] at hA
    rw [m2, m3]
    exact ⟨g', cap', rfl, h.step hA hg hk⟩)
  have HSH : Hid (∀ w1 b g bm cap, St w w1 b g bm cap 20 (s4L n (4294967296 + own)) → Calls Tryd.prog 16 #[.pointer (some ⟨b, 0, none⟩), .int .i64 2, .int .i64 3] w1 fun e w' => ∃ g' cap', e = .returned (.tuple #[.int .i64 4, .int .i64 0]) ∧ St w w' b g' bm cap' 20 (s5L n (4294967296 + own))) := Lib.hid (fun w1 b g bm cap h => by
    refine (share_any b g bm cap 20 (s4L n (4294967296 + own)) 2 3 w1 h.ar (h.shp hs)).mono ?_
    rintro e w' ⟨g', cap', rfl, hA, hg, hk⟩
    obtain ⟨m1, m2, m3⟩ := s_sh hnm h.ar.wf
    rw [m1] at hA
    rw [m2, m3]
    exact ⟨g', cap', rfl, h.step hA hg hk⟩)
  have ho2 : (own : Int) < 1048576 := ho1
  clear hs ho hn hmo
  go_enter Tryd.func5, Tryd.ntmps5
  go_wp2_with (first
    | (go_at_call 14; refine HN.out.mono ?_; rintro e w1 ⟨b, g, bm, rfl, hA1, h1, h2, h3, hb1⟩; have H1 : Hid (St w w1 b g bm 1 20 [zN]) := Lib.hid ⟨hA1, hb1, h1, h2, h3⟩; clear hA1 h1 h2 h3 hb1; have _g1 := Nat.le_refl 0)
    | (go_at_call 15; have _h := _g1; refine (HM1.out w1 b g bm 1 H1.out).mono ?_; rintro e w2 ⟨g2, cap2, rfl, hS2⟩; have H2 := Lib.hid hS2; clear hS2 _g1; have _g2 := Nat.le_refl 0)
    | (go_at_call 15; have _h := _g2; refine (HM2.out w2 b g2 bm cap2 H2.out).mono ?_; rintro e w3 ⟨g3, cap3, rfl, hS3⟩; have H3 := Lib.hid hS3; clear hS3 _g2; have _g3 := Nat.le_refl 0)
    | (go_at_call 15; have _h := _g3; refine (HM3.out w3 b g3 bm cap3 H3.out).mono ?_; rintro e w4 ⟨g4, cap4, rfl, hS4⟩; have H4 := Lib.hid hS4; clear hS4 _g3)
    | (go_at_call 16; refine (HSH.out w4 b g4 bm cap4 H4.out).mono ?_; rintro e w4b ⟨g4b, cap4b, rfl, hS4b⟩; have H4b := Lib.hid hS4b; clear hS4b)
    | (go_at_call 12; refine (knew_any H4b.out).mono ?_; rintro e w5 ⟨rfl, hK5, hb5⟩; have HK5 := Lib.hid hK5; have HW5 := Lib.hid H4b.out.ar.wf; have HC5 : Hid (∀ y : Int, (fun _ : Int => false) y = true ↔ sK false false y) := Lib.hid (fun y => by simp [sK]); clear hK5 hb5; have _k5 := Nat.le_refl 0)
    | (go_at_call 13; have _h := _k5; refine (learn_any HK5.out.kn (by simp) 3 rfl).mono ?_; rintro e w6 ⟨hv6, K6, rfl, hN6, hC6, hL6⟩; have HK6 := Lib.hid (HK5.out.learn hN6 hL6); have HC6 : Hid (∀ y, K6 y = true ↔ sK true false y) := Lib.hid (fun y => by rw [hC6 y, s_cl]; simp [sK]); clear hN6 hC6 hL6 _k5; have _k6 := Nat.le_refl 0)
    | (go_at_call 8; have _h := _k6; refine (can_any HK6.out.kn.ar.wf HK6.out.kn 4 rfl).mono ?_; rintro e w8 ⟨d, rfl, hd, hN, hP⟩; have hd' : d = true := (by rw [s_can4 HW5.out hn1 hm1 (by rw [HC6.out]; exact sK_n _ _)] at hd; simp only [HC6.out, sK] at hd; revert hd; cases d; exact (fun hd => (by first | rfl | exact absurd (hd.2 (by simp)) (by simp))); exact (fun hd => (by first | rfl | exact absurd (hd.1 rfl) (by simp)))); subst hd'; have HKw8 := Lib.hid (HK6.out.can hN hP); clear hd hN hP _k6; have _c4 := Nat.le_refl 0)
    | (go_at_call 8; have _h := _c4; refine (can_any HKw8.out.kn.ar.wf HKw8.out.kn 3 rfl).mono ?_; rintro e w9 ⟨d, rfl, hd, hN, hP⟩; have hd' : d = true := (by rw [s_can3 HW5.out hn1] at hd; simp only [HC6.out, sK] at hd; revert hd; cases d; exact (fun hd => (by first | rfl | exact absurd (hd.2 (by simp)) (by simp))); exact (fun hd => (by first | rfl | exact absurd (hd.1 rfl) (by simp)))); subst hd'; have HKw9 := Lib.hid (HKw8.out.can hN hP); clear hd hN hP _c4; have _c3 := Nat.le_refl 0)
    | (go_at_call 8; have _h := _c3; refine (can_any HKw9.out.kn.ar.wf HKw9.out.kn 1 rfl).mono ?_; rintro e w10 ⟨d, rfl, hd, hN, hP⟩; have hd' : d = false := (by rw [s_can1 hn1] at hd; simp only [HC6.out, sK] at hd; revert hd; cases d; exact (fun hd => (by first | rfl | exact absurd (hd.2 (by simp)) (by simp))); exact (fun hd => (by first | rfl | exact absurd (hd.1 rfl) (by simp)))); subst hd'; have HKw10 := Lib.hid (HKw9.out.can hN hP); clear hd hN hP _c3; have _c1 := Nat.le_refl 0)
    | (go_at_call 8; have _h := _c1; refine (can_any HKw10.out.kn.ar.wf HKw10.out.kn 2 rfl).mono ?_; rintro e w11 ⟨d, rfl, hd, hN, hP⟩; have hd' : d = true := (by exact hd.2 (s_can2 hm1 _)); subst hd'; have HKw11 := Lib.hid (HKw10.out.can hN hP); clear hd hN hP _c1; have _c2 := Nat.le_refl 0)
    | (go_at_call 6; refine (HA.out w11 HKw11.out.st.bel).mono ?_; rintro e w12 ⟨rfl, hb12⟩; have HK12 := Lib.hid (HKw11.out.keep hb12); clear hb12))
  go_ret
  exact ⟨rfl, HK12.out.st.bel⟩
set_option maxRecDepth 100000 in
set_option maxHeartbeats 8000000 in
theorem shares_tt (own n : Int) (ho : u64ok own) (hn : u64ok n) (ho1 : own < 1048576) (hn1 : n < 4294967296) (w : World) (hs : Shp w) : Calls Tryd.prog 5 #[.int .u64 own, .int .u64 n, .bool true, .bool true] w fun e w' => e = .returned (.bool true) ∧ Below w.heap.size w w' := by
  have HN := Lib.hid (new_any 20 w)
  have HA := Lib.hid (fun w1 (hb : Below w.heap.size w w1) => awake_any w1 (hs.below hb))
  have hwr : IntKind.u64.wrap (4294967296 + own) = 4294967296 + own := by unfold u64ok at ho; rw [IntKind.wrap_u64]; omega
  have hm1 : 4294967296 ≤ 4294967296 + own := by unfold u64ok at ho; omega
  have hnm : n < 4294967296 + own := by omega
  have hmo : u64ok (4294967296 + own) := by unfold u64ok at ho ⊢; omega
  have HM1 : Hid (∀ w1 b g bm cap, St w w1 b g bm cap 20 [zN] → Calls Tryd.prog 15 #[.pointer (some ⟨b, 0, none⟩), .agg #[.int .i64 1, .int .u64 n, .int .i64 0, .int .i64 0, .int .i64 0]] w1 fun e w' => ∃ g' cap', e = .returned (.tuple #[.int .i64 1, .int .i64 0]) ∧ St w w' b g' bm cap' 20 (s2L n)) := Lib.hid (fun w1 b g bm cap h => by
    refine (mk_any b g bm cap 20 [zN] 1 n 0 0 0 w1 h.ar (h.shp hs) (okN _ _ _ (by simp [i64ok]) hn (by simp [i64ok]))).mono ?_
    rintro e w' ⟨g', cap', rfl, hA, hg, hk⟩
    obtain ⟨m1, m2, m3⟩ := s_mk1 n
    rw [m1] at hA
    rw [m2, m3]
    exact ⟨g', cap', rfl, h.step hA hg hk⟩)
  have HM2 : Hid (∀ w1 b g bm cap, St w w1 b g bm cap 20 (s2L n) → Calls Tryd.prog 15 #[.pointer (some ⟨b, 0, none⟩), .agg #[.int .i64 1, .int .u64 (4294967296 + own), .int .i64 0, .int .i64 0, .int .i64 0]] w1 fun e w' => ∃ g' cap', e = .returned (.tuple #[.int .i64 2, .int .i64 0]) ∧ St w w' b g' bm cap' 20 (s3L n (4294967296 + own))) := Lib.hid (fun w1 b g bm cap h => by
    refine (mk_any b g bm cap 20 (s2L n) 1 (4294967296 + own) 0 0 0 w1 h.ar (h.shp hs) (okN _ _ _ (by simp [i64ok]) hmo (by simp [i64ok]))).mono ?_
    rintro e w' ⟨g', cap', rfl, hA, hg, hk⟩
    obtain ⟨m1, m2, m3⟩ := s_mk2 hnm
    rw [m1] at hA
    rw [m2, m3]
    exact ⟨g', cap', rfl, h.step hA hg hk⟩)
  have HM3 : Hid (∀ w1 b g bm cap, St w w1 b g bm cap 20 (s3L n (4294967296 + own)) → Calls Tryd.prog 15 #[.pointer (some ⟨b, 0, none⟩), .agg #[.int .i64 2, .int .u64 0, .int .i64 1, .int .i64 0, .int .i64 0]] w1 fun e w' => ∃ g' cap', e = .returned (.tuple #[.int .i64 3, .int .i64 0]) ∧ St w w' b g' bm cap' 20 (s4L n (4294967296 + own))) := Lib.hid (fun w1 b g bm cap h => by
    refine (mk_any b g bm cap 20 (s3L n (4294967296 + own)) 2 0 1 0 0 w1 h.ar (h.shp hs) (by simp [Nd.ok, i64ok, u64ok])).mono ?_
    rintro e w' ⟨g', cap', rfl, hA, hg, hk⟩
    obtain ⟨m1, m2, m3⟩ := s_mk3 n (4294967296 + own)
    rw [m1] at hA
    rw [m2, m3]
    exact ⟨g', cap', rfl, h.step hA hg hk⟩)
  have HSH : Hid (∀ w1 b g bm cap, St w w1 b g bm cap 20 (s4L n (4294967296 + own)) → Calls Tryd.prog 16 #[.pointer (some ⟨b, 0, none⟩), .int .i64 2, .int .i64 3] w1 fun e w' => ∃ g' cap', e = .returned (.tuple #[.int .i64 4, .int .i64 0]) ∧ St w w' b g' bm cap' 20 (s5L n (4294967296 + own))) := Lib.hid (fun w1 b g bm cap h => by
    refine (share_any b g bm cap 20 (s4L n (4294967296 + own)) 2 3 w1 h.ar (h.shp hs)).mono ?_
    rintro e w' ⟨g', cap', rfl, hA, hg, hk⟩
    obtain ⟨m1, m2, m3⟩ := s_sh hnm h.ar.wf
    rw [m1] at hA
    rw [m2, m3]
    exact ⟨g', cap', rfl, h.step hA hg hk⟩)
  have ho2 : (own : Int) < 1048576 := ho1
  clear hs ho hn hmo
  go_enter Tryd.func5, Tryd.ntmps5
  go_wp2_with (first
    | (go_at_call 14; refine HN.out.mono ?_; rintro e w1 ⟨b, g, bm, rfl, hA1, h1, h2, h3, hb1⟩; have H1 : Hid (St w w1 b g bm 1 20 [zN]) := Lib.hid ⟨hA1, hb1, h1, h2, h3⟩; clear hA1 h1 h2 h3 hb1; have _g1 := Nat.le_refl 0)
    | (go_at_call 15; have _h := _g1; refine (HM1.out w1 b g bm 1 H1.out).mono ?_; rintro e w2 ⟨g2, cap2, rfl, hS2⟩; have H2 := Lib.hid hS2; clear hS2 _g1; have _g2 := Nat.le_refl 0)
    | (go_at_call 15; have _h := _g2; refine (HM2.out w2 b g2 bm cap2 H2.out).mono ?_; rintro e w3 ⟨g3, cap3, rfl, hS3⟩; have H3 := Lib.hid hS3; clear hS3 _g2; have _g3 := Nat.le_refl 0)
    | (go_at_call 15; have _h := _g3; refine (HM3.out w3 b g3 bm cap3 H3.out).mono ?_; rintro e w4 ⟨g4, cap4, rfl, hS4⟩; have H4 := Lib.hid hS4; clear hS4 _g3)
    | (go_at_call 16; refine (HSH.out w4 b g4 bm cap4 H4.out).mono ?_; rintro e w4b ⟨g4b, cap4b, rfl, hS4b⟩; have H4b := Lib.hid hS4b; clear hS4b)
    | (go_at_call 12; refine (knew_any H4b.out).mono ?_; rintro e w5 ⟨rfl, hK5, hb5⟩; have HK5 := Lib.hid hK5; have HW5 := Lib.hid H4b.out.ar.wf; have HC5 : Hid (∀ y : Int, (fun _ : Int => false) y = true ↔ sK false false y) := Lib.hid (fun y => by simp [sK]); clear hK5 hb5; have _k5 := Nat.le_refl 0)
    | (go_at_call 13; have _h := _k5; refine (learn_any HK5.out.kn (by simp) 3 rfl).mono ?_; rintro e w6 ⟨hv6, K6, rfl, hN6, hC6, hL6⟩; have HK6 := Lib.hid (HK5.out.learn hN6 hL6); have HC6 : Hid (∀ y, K6 y = true ↔ sK true false y) := Lib.hid (fun y => by rw [hC6 y, s_cl]; simp [sK]); clear hN6 hC6 hL6 _k5; have _k6 := Nat.le_refl 0)
    | (go_at_call 13; have _h := _k6; refine (learn_any HK6.out.kn (by simp) 1 rfl).mono ?_; rintro e w7 ⟨hv7, K7, rfl, hN7, hC7, hL7⟩; have HK7 := Lib.hid (HK6.out.learn hN7 hL7); have HC7 : Hid (∀ y, K7 y = true ↔ sK true true y) := Lib.hid (fun y => by rw [hC7 y, s_cl]; rw [HC6.out y]; simp [sK]); clear hN7 hC7 hL7 _k6; have _k7 := Nat.le_refl 0)
    | (go_at_call 8; have _h := _k7; refine (can_any HK7.out.kn.ar.wf HK7.out.kn 4 rfl).mono ?_; rintro e w8 ⟨d, rfl, hd, hN, hP⟩; have hd' : d = true := (by rw [s_can4 HW5.out hn1 hm1 (by rw [HC7.out]; exact sK_n _ _)] at hd; simp only [HC7.out, sK] at hd; revert hd; cases d; exact (fun hd => (by first | rfl | exact absurd (hd.2 (by simp)) (by simp))); exact (fun hd => (by first | rfl | exact absurd (hd.1 rfl) (by simp)))); subst hd'; have HKw8 := Lib.hid (HK7.out.can hN hP); clear hd hN hP _k7; have _c4 := Nat.le_refl 0)
    | (go_at_call 8; have _h := _c4; refine (can_any HKw8.out.kn.ar.wf HKw8.out.kn 3 rfl).mono ?_; rintro e w9 ⟨d, rfl, hd, hN, hP⟩; have hd' : d = true := (by rw [s_can3 HW5.out hn1] at hd; simp only [HC7.out, sK] at hd; revert hd; cases d; exact (fun hd => (by first | rfl | exact absurd (hd.2 (by simp)) (by simp))); exact (fun hd => (by first | rfl | exact absurd (hd.1 rfl) (by simp)))); subst hd'; have HKw9 := Lib.hid (HKw8.out.can hN hP); clear hd hN hP _c4; have _c3 := Nat.le_refl 0)
    | (go_at_call 8; have _h := _c3; refine (can_any HKw9.out.kn.ar.wf HKw9.out.kn 1 rfl).mono ?_; rintro e w10 ⟨d, rfl, hd, hN, hP⟩; have hd' : d = true := (by rw [s_can1 hn1] at hd; simp only [HC7.out, sK] at hd; revert hd; cases d; exact (fun hd => (by first | rfl | exact absurd (hd.2 (by simp)) (by simp))); exact (fun hd => (by first | rfl | exact absurd (hd.1 rfl) (by simp)))); subst hd'; have HKw10 := Lib.hid (HKw9.out.can hN hP); clear hd hN hP _c3; have _c1 := Nat.le_refl 0)
    | (go_at_call 8; have _h := _c1; refine (can_any HKw10.out.kn.ar.wf HKw10.out.kn 2 rfl).mono ?_; rintro e w11 ⟨d, rfl, hd, hN, hP⟩; have hd' : d = true := (by exact hd.2 (s_can2 hm1 _)); subst hd'; have HKw11 := Lib.hid (HKw10.out.can hN hP); clear hd hN hP _c1; have _c2 := Nat.le_refl 0)
    | (go_at_call 6; refine (HA.out w11 HKw11.out.st.bel).mono ?_; rintro e w12 ⟨rfl, hb12⟩; have HK12 := Lib.hid (HKw11.out.keep hb12); clear hb12))
  go_ret
  exact ⟨rfl, HK12.out.st.bel⟩
theorem shares_any (own n : Int) (ho : u64ok own) (hn : u64ok n) (hears has : Bool) (w : World) (hs : Shp w) : Calls Tryd.prog 5 #[.int .u64 own, .int .u64 n, .bool hears, .bool has] w fun e w' => e = .returned (.bool true) ∧ Below w.heap.size w w' := by
  by_cases h : 1048576 ≤ own ∨ 4294967296 ≤ n
  · exact shares_big own n hears has h w hs
  · cases hears <;> cases has
    · exact shares_ff own n ho hn (by omega) (by omega) w hs
    · exact shares_ft own n ho hn (by omega) (by omega) w hs
    · exact shares_tf own n ho hn (by omega) (by omega) w hs
    · exact shares_tt own n ho hn (by omega) (by omega) w hs
end Go.Proofs.YtmnmjekpndeemabDoor
