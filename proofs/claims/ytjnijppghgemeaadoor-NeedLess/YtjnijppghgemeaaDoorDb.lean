/- Layer 8: the walks of announces and psks. -/
import Derived.Test.YtjnijppghgemeaaDoorCl
import Derived.Test.YtjnijppghgemeaaDoorDa
namespace Go.Proofs.YtjnijppghgemeaaDoor
open Go.RowKit Go.Shelf

/-- Keys in memory. -/
def kqV (k : Kq) : Value := .agg #[.bool k.s, .bool k.e, .bool k.rs, .bool k.re, .int .i64 k.n]
set_option maxRecDepth 100000 in
set_option maxHeartbeats 4000000 in
theorem announces_any (x : Sl) (p : Pt) (r k : Int) (hr : right p = true) (w : World) (hp : PatA w x p) : Calls Tryd.prog 25 #[patV x p, .int .i64 r, .int .i64 k] w fun e w' => e = .returned (.bool (annB p.ms r k)) ∧ Below w.heap.size w w' := by
  obtain ⟨nm, p0, p1, ms⟩ := p
  obtain ⟨s0, c0, s1, c1, s2, c2⟩ := x
  obtain ⟨l0, l1, l2, l3⟩ := right_lens hr
  clear hr
  unfold patV
  obtain ⟨i0, i1, im, -⟩ := hp
  simp only at im l2 l3 ⊢
  have hbx := (Below.refl w.heap.size w).alloc (Nat.le_refl _) (.cells #[.string ⟨nm.toArray⟩, .slice s0 p0.length c0, .slice s1 p1.length c1, .slice s2 ms.length c2] 26)
  have HIM := Lib.hid im
  have HB := Lib.hid hbx
  clear i0 i1 im hbx l0 l1
  obtain ⟨n, hn⟩ : ∃ n, n = ms.length := ⟨_, rfl⟩
  rw [← hn] at HB ⊢
  have hn65 : (n : Int) ≤ 65536 := by omega
  have HN := Lib.hid hn; clear hn
  have HL := Lib.hid l3; clear l2 l3
  go_enter Tryd.func25, Tryd.ntmps25
  go_wp2_with fail
  go_loopg [12] n (fun q u12 wr => ∃ i : Nat, i + q = n ∧ u12 = .int .i64 i ∧ Aside (annB (ms.take i) r k = false) ∧ Aside (Below w.heap.size w wr))
  case atStart => exact ⟨0, by omega, rfl, rfl, HB.out⟩
  case round =>
    obtain ⟨i, hiq, rfl, hno, hbel⟩ := hrel
    have HNO := Lib.hid hno.out; clear hno
    have HBR := Lib.hid hbel.out; clear hbel
    by_cases hlt : i < n
    · obtain ⟨g, o, rfl, hia⟩ := (HIM.out.keep HBR.out) (by have := HN.out; omega)
      obtain ⟨q0, sx, cx, q1, qi⟩ := hia i (by have := HN.out; omega)
      clear hia
      obtain ⟨fr, hf⟩ : ∃ fr, fr = (ms.getD i default).fr := ⟨_, rfl⟩
      rw [← hf] at q0
      have HF := Lib.hid hf
      clear hf
      have HCT := Lib.hid (contains_any sx cx (ms.getD i default).t k (HL.out i (by have := HN.out; omega)) _ (qi.keep ((Below.refl _ _).alloc (Nat.le_refl _) (.cells #[.int .i64 fr, .slice sx (ms.getD i default).t.length cx] 55))))
      obtain ⟨m, hm⟩ : ∃ m, m = (ms.getD i default).t.length := ⟨_, rfl⟩
      rw [← hm] at q1 HCT
      clear hm qi
      have hi2 : (i : Int) < n := by omega
      have HB2 : Hid (Below w.heap.size w (wr.alloc (.cells #[.int .i64 fr, .slice sx m cx] 55))) := Lib.hid (HBR.out.alloc HBR.out.size _)
      have HI := Lib.hid (show i < ms.length by have := HN.out; omega)
      by_cases hfr : fr = r
      · have hfb : (fr == r) = true := by simpa using hfr
        cases hc : (ms.getD i default).t.contains k with
        | true =>
          have HV : Hid (annB ms r k = true) := Lib.hid (ann_at HI.out (by rw [← HF.out, hc, hfr]; simp))
          rw [hc] at HCT
          clear hc hfr
          go_wp2_with (go_at_call 24; refine HCT.out.mono ?_; rintro e w1 ⟨rfl, rfl⟩)
          go_ret
          exact ⟨by rw [HV.out]; rfl, HB2.out⟩
        | false =>
          have HC : Hid (annB (ms.take (i + 1)) r k = false) := Lib.hid (ann_take HI.out HNO.out (by rw [hc, Bool.and_false]))
          rw [hc] at HCT
          clear hc hfr
          go_wp2_with (go_at_call 24; refine HCT.out.mono ?_; rintro e w1 ⟨rfl, rfl⟩)
          go_roundg (n - (i + 1))
          case measure => omega
          case rel => exact ⟨i + 1, by omega, by go_num, (show Aside _ from HC.out), HB2.out⟩
      · have hfb : (fr == r) = false := by simpa using hfr
        have HC : Hid (annB (ms.take (i + 1)) r k = false) := Lib.hid (ann_take HI.out HNO.out (by rw [← HF.out]; simp [hfr]))
        clear hfr HCT
        go_wp2_with fail
        go_roundg (n - (i + 1))
        case measure => omega
        case rel => exact ⟨i + 1, by omega, by go_num, (show Aside _ from HC.out), HB2.out⟩
    · have hi2 : ¬ (i : Int) < n := by omega
      have HV : Hid (annB ms r k = false) := Lib.hid (by
        have h3 := HNO.out
        rw [List.take_of_length_le (by have := HN.out; omega)] at h3
        exact h3)
      go_wp2_with fail
      go_ret
      exact ⟨by rw [HV.out]; rfl, HBR.out⟩

set_option maxRecDepth 100000 in
set_option maxHeartbeats 4000000 in
theorem psks_any (x : Sl) (p : Pt) (hr : right p = true) (hfl : (flat p.ms).length ≤ 65536) (w : World) (hp : PatA w x p) : Calls Tryd.prog 26 #[patV x p] w fun e w' => e = .returned (.int .i64 (met 2 7 (flat p.ms) : Nat)) ∧ Below w.heap.size w w' := by
  obtain ⟨nm, p0, p1, ms⟩ := p
  obtain ⟨s0, c0, s1, c1, s2, c2⟩ := x
  obtain ⟨l0, l1, l2, l3⟩ := right_lens hr
  clear hr
  unfold patV
  obtain ⟨i0, i1, im, -⟩ := hp
  simp only at im l2 l3 hfl ⊢
  have hbx := (Below.refl w.heap.size w).alloc (Nat.le_refl _) (.cells #[.string ⟨nm.toArray⟩, .slice s0 p0.length c0, .slice s1 p1.length c1, .slice s2 ms.length c2] 26)
  have HIM := Lib.hid im
  have HB := Lib.hid hbx
  clear i0 i1 im hbx l0 l1
  obtain ⟨n, hn⟩ : ∃ n, n = ms.length := ⟨_, rfl⟩
  rw [← hn] at HB ⊢
  have hn65 : (n : Int) ≤ 65536 := by omega
  have HN := Lib.hid hn; clear hn
  have HL := Lib.hid l3
  have HFL := Lib.hid hfl
  clear l2 l3 hfl
  obtain ⟨v, hv⟩ : ∃ v, v = met 2 7 (flat ms) := ⟨_, rfl⟩
  rw [← hv]
  have HV := Lib.hid hv
  clear hv
  go_enter Tryd.func26, Tryd.ntmps26
  go_wp2_with fail
  go_loopg [3, 11] n (fun q u3 u11 wr => ∃ i c : Nat, i + q = n ∧ u3 = .int .i64 c ∧ u11 = .int .i64 i ∧ Aside (c = met 2 7 (flat (ms.take i))) ∧ Aside (Below w.heap.size w wr))
  case atStart => exact ⟨0, 0, by omega, rfl, rfl, rfl, HB.out⟩
  case round =>
    obtain ⟨i, c, hiq, rfl, rfl, hc, hbel⟩ := hrel
    have HC := Lib.hid hc.out; clear hc
    have HBR := Lib.hid hbel.out; clear hbel
    by_cases hlt : i < n
    · have hi2 : (i : Int) < n := by omega
      have HI := Lib.hid (show i < ms.length by have := HN.out; omega)
      obtain ⟨g, o, rfl, hia⟩ := (HIM.out.keep HBR.out) (by have := HN.out; omega)
      obtain ⟨q0, sx, cx, q1, qi⟩ := hia i HI.out
      clear hia
      obtain ⟨fr, hf⟩ : ∃ fr, fr = (ms.getD i default).fr := ⟨_, rfl⟩
      rw [← hf] at q0
      clear hf
      obtain ⟨T, hT⟩ : ∃ T, T = (ms.getD i default).t := ⟨_, rfl⟩
      rw [← hT] at q1 qi
      have HNX := Lib.hid (pk_flat HI.out)
      rw [← hT] at HNX
      have HTL : Hid (T.length ≤ 65536) := Lib.hid (by rw [hT]; exact HL.out i HI.out)
      have HTF : Hid (met 2 7 (flat (ms.take i)) + pkN T ≤ 65536) := Lib.hid (by
        have h1 := HNX.out
        have h2 := met_le 2 7 (flat (ms.take (i + 1)))
        have h3 := flat_take_le ms (i + 1)
        have h4 := HFL.out
        omega)
      clear hT
      obtain ⟨m, hm⟩ : ∃ m, m = T.length := ⟨_, rfl⟩
      rw [← hm] at q1
      have HM := Lib.hid hm
      have QI := Lib.hid (qi.keep ((Below.refl _ _).alloc (Nat.le_refl _) (.cells #[.int .i64 fr, .slice sx m cx] 55)))
      clear hm qi
      have hm65 : (m : Int) ≤ 65536 := by have := HTL.out; have := HM.out; omega
      have HB2 : Hid (Below w.heap.size w (wr.alloc (.cells #[.int .i64 fr, .slice sx m cx] 55))) := Lib.hid (HBR.out.alloc HBR.out.size _)
      go_wp2_with fail
      clear q0 q1
      generalize wr.alloc (.cells #[.int .i64 fr, .slice sx m cx] 55) = W2 at *
      go_loopg [3, 18] m (fun q u3 u18 wx => ∃ j d : Nat, j + q = m ∧ u3 = .int .i64 d ∧ u18 = .int .i64 j ∧ wx = W2 ∧ Aside (d = met 2 7 (flat (ms.take i)) + pkN (T.take j)))
      case atStart => exact ⟨0, c, by omega, rfl, rfl, rfl, (show _ = _ by rw [HC.out]; simp [pkN])⟩
      case round =>
        obtain ⟨j, d, hjq, rfl, rfl, rfl, hd⟩ := hrel
        have HD := Lib.hid hd.out; clear hd
        by_cases hjl : j < m
        · have hj2 : (j : Int) < m := by omega
          have hd65 : (d : Int) ≤ 65536 := by
            have h1 := HD.out
            have h2 := HTF.out
            have h3 := pk_mono T j
            omega
          obtain ⟨g2, o2, rfl, hk⟩ := QI.out (by have := HM.out; omega)
          have hx := hk j (by have := HM.out; omega)
          clear hk
          obtain ⟨y, hy⟩ : ∃ y, y = T.getD j 0 := ⟨_, rfl⟩
          have HPN := Lib.hid (pk_next (l := T) (i := j) (by have := HM.out; omega))
          rw [← hy] at hx HPN
          clear hy
          by_cases hy7 : y = 7
          · have hyb : (y == 7) = true := by simpa using hy7
            have HS : Hid (d + 1 = met 2 7 (flat (ms.take i)) + pkN (T.take (j + 1))) := Lib.hid (by have h1 := HPN.out; rw [if_pos hy7] at h1; have h2 := HD.out; omega)
            clear hy7
            go_wp2_with fail
            go_roundg (m - (j + 1))
            case measure => omega
            case rel => exact ⟨j + 1, d + 1, by omega, by go_num, by go_num, rfl, (show Aside _ from HS.out)⟩
          · have hyb : (y == 7) = false := by simpa using hy7
            have HS : Hid (d = met 2 7 (flat (ms.take i)) + pkN (T.take (j + 1))) := Lib.hid (by have h1 := HPN.out; rw [if_neg hy7] at h1; have h2 := HD.out; omega)
            clear hy7
            go_wp2_with fail
            go_roundg (m - (j + 1))
            case measure => omega
            case rel => exact ⟨j + 1, d, by omega, rfl, by go_num, rfl, (show Aside _ from HS.out)⟩
        · have hj2 : ¬ (j : Int) < m := by omega
          have HE : Hid (d = met 2 7 (flat (ms.take (i + 1)))) := Lib.hid (by
            have h1 := HD.out
            rw [List.take_of_length_le (l := T) (i := j) (by have := HM.out; omega)] at h1
            rw [HNX.out]; exact h1)
          go_wp2_with fail
          go_roundg (n - (i + 1))
          case measure => omega
          case rel => exact ⟨i + 1, d, by omega, rfl, by go_num, (show Aside _ from HE.out), HB2.out⟩
    · have hi2 : ¬ (i : Int) < n := by omega
      have HE : Hid (c = v) := Lib.hid (by
        have h3 := HC.out
        rw [List.take_of_length_le (by have := HN.out; omega)] at h3
        rw [HV.out]; exact h3)
      go_wp2_with fail
      go_ret
      exact ⟨by rw [← HE.out]; rfl, HBR.out⟩
end Go.Proofs.YtjnijppghgemeaaDoor
