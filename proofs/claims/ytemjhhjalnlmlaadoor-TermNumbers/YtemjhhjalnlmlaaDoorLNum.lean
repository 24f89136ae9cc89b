/- The walk of TermNumbers: names and words of other numbers are others; a Key has one of four. -/
import Derived.Test.YtemjhhjalnlmlaaDoorWm
namespace Go.Proofs.YtemjhhjalnlmlaaDoor
open Go.RowKit Go.Maps

theorem right_name (L : List Nd) (n : Int) : right L ⟨1, n, 0, 0, 0⟩ = true := by
  rw [right_iff]; exact ⟨by simp [many], by simp [partsOk, partOk, many], by simp [numOk], by simp [lastOk]⟩
theorem right_word (L : List Nd) (n : Int) : right L ⟨9, n, 0, 0, 0⟩ = true := by
  rw [right_iff]; exact ⟨by simp [many], by simp [partsOk, partOk, many], by simp [numOk], by simp [lastOk]⟩
theorem right_key (L : List Nd) (n x y : Int) (hx : 0 ≤ x ∧ x < L.length) (hy : 0 ≤ y ∧ y < L.length) (hn : 1 ≤ n ∧ n ≤ 4) : right L ⟨6, n, x, y, 0⟩ = true := by
  rw [right_iff]
  refine ⟨by simp [many], ?_, by simp [numOk, hn], by simp [lastOk]⟩
  have e1 := hasB_iff.2 hx
  have e2 := hasB_iff.2 hy
  simp [partsOk, partOk, many, e1, e2]
theorem right_key_not (L : List Nd) (n x y : Int) (hn : ¬ (1 ≤ n ∧ n ≤ 4)) : right L ⟨6, n, x, y, 0⟩ = false :=
  right_num_not (by unfold numOk; rw [if_pos rfl]; simpa using hn)
theorem ix_ne {d x : Nd} {L : List Nd} (h : x ≠ d) : ix d (x :: L) = (ix d L).map (· + 1) := by rw [ix, if_neg h]
theorem ix_nil (d : Nd) : ix d [] = none := rfl
theorem ne_k {x y : Nd} (h : x.k ≠ y.k) : x ≠ y := fun e => h (by rw [e])
theorem ne_n {x y : Nd} (h : x.n ≠ y.n) : x ≠ y := fun e => h (by rw [e])

set_option maxHeartbeats 4000000 in
theorem numbers_sk (n m : Int) (hn : u64ok n) (hm : u64ok m) (hnm : n = m) (hk : 1 ≤ n ∧ n ≤ 4) (w : World) (hs : Shp w) : Calls Tryd.prog 10 #[.int .u64 n, .int .u64 m] w fun e w' => e = .returned (.bool true) ∧ Below w.heap.size w w' := by
  subst hnm
  have HS := Lib.hid hs; clear hs
  have HN := Lib.hid hn; clear hn
  have HM := Lib.hid hm; clear hm
  have M1 := Lib.hid (mk_new (lim := 50) (L := [zN]) (d := ⟨1, n, 0, 0, 0⟩) (right_name _ _) (by rw [ix_ne (ne_k (by simp [zN])), ix_nil]; rfl) (by simp))
  have M2 := Lib.hid (mk_old (lim := 50) (L := [zN, ⟨1, n, 0, 0, 0⟩]) (d := ⟨1, n, 0, 0, 0⟩) (i := 1) (right_name _ _) (by rw [ix_ne (ne_k (by simp [zN])), ix, if_pos rfl]; rfl))
  have M3 := Lib.hid (mk_new (lim := 50) (L := [zN, ⟨1, n, 0, 0, 0⟩]) (d := ⟨9, n, 0, 0, 0⟩) (right_word _ _) (by rw [ix_ne (ne_k (by simp [zN])), ix_ne (ne_k (by simp)), ix_nil]; rfl) (by simp))
  have M4 := Lib.hid (mk_new (lim := 50) (L := [zN, ⟨1, n, 0, 0, 0⟩, ⟨9, n, 0, 0, 0⟩]) (d := ⟨6, n, 1, 1, 0⟩) (right_key _ _ _ _ (by simp) (by simp) hk) (by rw [ix_ne (ne_k (by simp [zN])), ix_ne (ne_k (by simp)), ix_ne (ne_k (by simp)), ix_nil]; rfl) (by simp))
  have k1 : 1 ≤ n := hk.1
  have k2 : n ≤ 4 := hk.2
  clear hk
  go_enter Tryd.func10, Tryd.ntmps10
  go_wp2_with fail
  refine (new_any 50 _).mono ?_
  rintro e w0 ⟨b, g0, bm, rfl, hA, h1, h2, h3, h4⟩
  have S0 : St w w0 b g0 bm 1 50 [zN] := ⟨hA, h4, h1, h2, h3⟩
  have H0 := Lib.hid S0
  clear hA h1 h2 h3 h4 S0
  go_wp2_with fail
  refine (mk_any b g0 bm 1 50 [zN] 1 n 0 0 0 w0 H0.out.ar (H0.out.shp HS.out) (okN _ _ _ (by simp [i64ok]) HN.out (by simp [i64ok]))).mono ?_
  rintro e w1 ⟨g1, cap1, rfl, hA, hg, hk'⟩
  have e1 : mkR 50 [zN] ⟨1, n, 0, 0, 0⟩ = 1 := M1.out.2.1
  have e2 : mkE 50 [zN] ⟨1, n, 0, 0, 0⟩ = 0 := M1.out.2.2
  have hA : Ar w1 b g1 bm cap1 50 [zN, ⟨1, n, 0, 0, 0⟩] := by rw [M1.out.1] at hA; exact hA
  rw [e1, e2]
  have H1 := Lib.hid (H0.out.step hA hg hk')
  clear hA hg hk' e1 e2 H0
  go_wp2_with fail
  refine (mk_any b g1 bm cap1 50 [zN, ⟨1, n, 0, 0, 0⟩] 1 n 0 0 0 w1 H1.out.ar (H1.out.shp HS.out) (okN _ _ _ (by simp [i64ok]) HN.out (by simp [i64ok]))).mono ?_
  rintro e w2 ⟨g2, cap2, rfl, hA, hg, hk'⟩
  have e1 : mkR 50 [zN, ⟨1, n, 0, 0, 0⟩] ⟨1, n, 0, 0, 0⟩ = 1 := M2.out.2.1
  have e2 : mkE 50 [zN, ⟨1, n, 0, 0, 0⟩] ⟨1, n, 0, 0, 0⟩ = 0 := M2.out.2.2
  have hA : Ar w2 b g2 bm cap2 50 [zN, ⟨1, n, 0, 0, 0⟩] := by rw [M2.out.1] at hA; exact hA
  rw [e1, e2]
  have H2 := Lib.hid (H1.out.step hA hg hk')
  clear hA hg hk' e1 e2 H1
  go_wp2_with fail
  refine (mk_any b g2 bm cap2 50 [zN, ⟨1, n, 0, 0, 0⟩] 9 n 0 0 0 w2 H2.out.ar (H2.out.shp HS.out) (okN _ _ _ (by simp [i64ok]) HN.out (by simp [i64ok]))).mono ?_
  rintro e w3 ⟨g3, cap3, rfl, hA, hg, hk'⟩
  have e1 : mkR 50 [zN, ⟨1, n, 0, 0, 0⟩] ⟨9, n, 0, 0, 0⟩ = 2 := M3.out.2.1
  have e2 : mkE 50 [zN, ⟨1, n, 0, 0, 0⟩] ⟨9, n, 0, 0, 0⟩ = 0 := M3.out.2.2
  have hA : Ar w3 b g3 bm cap3 50 [zN, ⟨1, n, 0, 0, 0⟩, ⟨9, n, 0, 0, 0⟩] := by rw [M3.out.1] at hA; exact hA
  rw [e1, e2]
  have H3 := Lib.hid (H2.out.step hA hg hk')
  clear hA hg hk' e1 e2 H2
  go_wp2_with fail
  refine (mk_any b g3 bm cap3 50 [zN, ⟨1, n, 0, 0, 0⟩, ⟨9, n, 0, 0, 0⟩] 6 n 1 1 0 w3 H3.out.ar (H3.out.shp HS.out) (⟨by simp [i64ok], HN.out, by simp [i64ok], by simp [i64ok], by simp [i64ok]⟩)).mono ?_
  rintro e w4 ⟨g4, cap4, rfl, hA, hg, hk'⟩
  have e1 : mkR 50 [zN, ⟨1, n, 0, 0, 0⟩, ⟨9, n, 0, 0, 0⟩] ⟨6, n, 1, 1, 0⟩ = 3 := M4.out.2.1
  have e2 : mkE 50 [zN, ⟨1, n, 0, 0, 0⟩, ⟨9, n, 0, 0, 0⟩] ⟨6, n, 1, 1, 0⟩ = 0 := M4.out.2.2
  have hA : Ar w4 b g4 bm cap4 50 [zN, ⟨1, n, 0, 0, 0⟩, ⟨9, n, 0, 0, 0⟩, ⟨6, n, 1, 1, 0⟩] := by rw [M4.out.1] at hA; exact hA
  rw [e1, e2]
  have H4 := Lib.hid (H3.out.step hA hg hk')
  clear hA hg hk' e1 e2 H3
  have HW := Lib.hid (awake_any w4 (H4.out.shp HS.out))
  go_wp2_with (go_at_call 11; refine HW.out.mono ?_; rintro e w5 ⟨rfl, hb5⟩)
  go_ret
  exact ⟨rfl, (H4.out.keep hb5).bel⟩

set_option maxHeartbeats 4000000 in
theorem numbers_sn (n m : Int) (hn : u64ok n) (hm : u64ok m) (hnm : n = m) (hk : ¬ (1 ≤ n ∧ n ≤ 4)) (w : World) (hs : Shp w) : Calls Tryd.prog 10 #[.int .u64 n, .int .u64 m] w fun e w' => e = .returned (.bool true) ∧ Below w.heap.size w w' := by
  subst hnm
  have HS := Lib.hid hs; clear hs
  have HN := Lib.hid hn; clear hn
  have HM := Lib.hid hm; clear hm
  have M1 := Lib.hid (mk_new (lim := 50) (L := [zN]) (d := ⟨1, n, 0, 0, 0⟩) (right_name _ _) (by rw [ix_ne (ne_k (by simp [zN])), ix_nil]; rfl) (by simp))
  have M2 := Lib.hid (mk_old (lim := 50) (L := [zN, ⟨1, n, 0, 0, 0⟩]) (d := ⟨1, n, 0, 0, 0⟩) (i := 1) (right_name _ _) (by rw [ix_ne (ne_k (by simp [zN])), ix, if_pos rfl]; rfl))
  have M3 := Lib.hid (mk_new (lim := 50) (L := [zN, ⟨1, n, 0, 0, 0⟩]) (d := ⟨9, n, 0, 0, 0⟩) (right_word _ _) (by rw [ix_ne (ne_k (by simp [zN])), ix_ne (ne_k (by simp)), ix_nil]; rfl) (by simp))
  have M4 := Lib.hid (mk_wrong (lim := 50) (L := [zN, ⟨1, n, 0, 0, 0⟩, ⟨9, n, 0, 0, 0⟩]) (d := ⟨6, n, 1, 1, 0⟩) (right_key_not _ _ _ _ hk))
  by_cases hk1 : n < 1
  · have hd : decide (1 ≤ n) = false := by simp; omega
    clear hk hk1
    go_enter Tryd.func10, Tryd.ntmps10
    go_wp2_with fail
    refine (new_any 50 _).mono ?_
    rintro e w0 ⟨b, g0, bm, rfl, hA, h1, h2, h3, h4⟩
    have S0 : St w w0 b g0 bm 1 50 [zN] := ⟨hA, h4, h1, h2, h3⟩
    have H0 := Lib.hid S0
    clear hA h1 h2 h3 h4 S0
    go_wp2_with fail
    refine (mk_any b g0 bm 1 50 [zN] 1 n 0 0 0 w0 H0.out.ar (H0.out.shp HS.out) (okN _ _ _ (by simp [i64ok]) HN.out (by simp [i64ok]))).mono ?_
    rintro e w1 ⟨g1, cap1, rfl, hA, hg, hk'⟩
    have e1 : mkR 50 [zN] ⟨1, n, 0, 0, 0⟩ = 1 := M1.out.2.1
    have e2 : mkE 50 [zN] ⟨1, n, 0, 0, 0⟩ = 0 := M1.out.2.2
    have hA : Ar w1 b g1 bm cap1 50 [zN, ⟨1, n, 0, 0, 0⟩] := by rw [M1.out.1] at hA; exact hA
    rw [e1, e2]
    have H1 := Lib.hid (H0.out.step hA hg hk')
    clear hA hg hk' e1 e2 H0
    go_wp2_with fail
    refine (mk_any b g1 bm cap1 50 [zN, ⟨1, n, 0, 0, 0⟩] 1 n 0 0 0 w1 H1.out.ar (H1.out.shp HS.out) (okN _ _ _ (by simp [i64ok]) HN.out (by simp [i64ok]))).mono ?_
    rintro e w2 ⟨g2, cap2, rfl, hA, hg, hk'⟩
    have e1 : mkR 50 [zN, ⟨1, n, 0, 0, 0⟩] ⟨1, n, 0, 0, 0⟩ = 1 := M2.out.2.1
    have e2 : mkE 50 [zN, ⟨1, n, 0, 0, 0⟩] ⟨1, n, 0, 0, 0⟩ = 0 := M2.out.2.2
    have hA : Ar w2 b g2 bm cap2 50 [zN, ⟨1, n, 0, 0, 0⟩] := by rw [M2.out.1] at hA; exact hA
    rw [e1, e2]
    have H2 := Lib.hid (H1.out.step hA hg hk')
    clear hA hg hk' e1 e2 H1
    go_wp2_with fail
    refine (mk_any b g2 bm cap2 50 [zN, ⟨1, n, 0, 0, 0⟩] 9 n 0 0 0 w2 H2.out.ar (H2.out.shp HS.out) (okN _ _ _ (by simp [i64ok]) HN.out (by simp [i64ok]))).mono ?_
    rintro e w3 ⟨g3, cap3, rfl, hA, hg, hk'⟩
    have e1 : mkR 50 [zN, ⟨1, n, 0, 0, 0⟩] ⟨9, n, 0, 0, 0⟩ = 2 := M3.out.2.1
    have e2 : mkE 50 [zN, ⟨1, n, 0, 0, 0⟩] ⟨9, n, 0, 0, 0⟩ = 0 := M3.out.2.2
    have hA : Ar w3 b g3 bm cap3 50 [zN, ⟨1, n, 0, 0, 0⟩, ⟨9, n, 0, 0, 0⟩] := by rw [M3.out.1] at hA; exact hA
    rw [e1, e2]
    have H3 := Lib.hid (H2.out.step hA hg hk')
    clear hA hg hk' e1 e2 H2
    go_wp2_with fail
    refine (mk_any b g3 bm cap3 50 [zN, ⟨1, n, 0, 0, 0⟩, ⟨9, n, 0, 0, 0⟩] 6 n 1 1 0 w3 H3.out.ar (H3.out.shp HS.out) (⟨by simp [i64ok], HN.out, by simp [i64ok], by simp [i64ok], by simp [i64ok]⟩)).mono ?_
    rintro e w4 ⟨g4, cap4, rfl, hA, hg, hk'⟩
    have e1 : mkR 50 [zN, ⟨1, n, 0, 0, 0⟩, ⟨9, n, 0, 0, 0⟩] ⟨6, n, 1, 1, 0⟩ = 0 := M4.out.2.1
    have e2 : mkE 50 [zN, ⟨1, n, 0, 0, 0⟩, ⟨9, n, 0, 0, 0⟩] ⟨6, n, 1, 1, 0⟩ = 1 := M4.out.2.2
    have hA : Ar w4 b g4 bm cap4 50 [zN, ⟨1, n, 0, 0, 0⟩, ⟨9, n, 0, 0, 0⟩] := by rw [M4.out.1] at hA; exact hA
    rw [e1, e2]
    have H4 := Lib.hid (H3.out.step hA hg hk')
    clear hA hg hk' e1 e2 H3
    have HW := Lib.hid (awake_any w4 (H4.out.shp HS.out))
    go_wp2_with (go_at_call 11; refine HW.out.mono ?_; rintro e w5 ⟨rfl, hb5⟩)
    go_ret
    exact ⟨rfl, (H4.out.keep hb5).bel⟩
  · have hd1 : 1 ≤ n := by omega
    have hd2 : decide (n ≤ 4) = false := by simp; omega
    clear hk hk1
    go_enter Tryd.func10, Tryd.ntmps10
    go_wp2_with fail
    refine (new_any 50 _).mono ?_
    rintro e w0 ⟨b, g0, bm, rfl, hA, h1, h2, h3, h4⟩
    have S0 : St w w0 b g0 bm 1 50 [zN] := ⟨hA, h4, h1, h2, h3⟩
    have H0 := Lib.hid S0
    clear hA h1 h2 h3 h4 S0
    go_wp2_with fail
    refine (mk_any b g0 bm 1 50 [zN] 1 n 0 0 0 w0 H0.out.ar (H0.out.shp HS.out) (okN _ _ _ (by simp [i64ok]) HN.out (by simp [i64ok]))).mono ?_
    rintro e w1 ⟨g1, cap1, rfl, hA, hg, hk'⟩
    have e1 : mkR 50 [zN] ⟨1, n, 0, 0, 0⟩ = 1 := M1.out.2.1
    have e2 : mkE 50 [zN] ⟨1, n, 0, 0, 0⟩ = 0 := M1.out.2.2
    have hA : Ar w1 b g1 bm cap1 50 [zN, ⟨1, n, 0, 0, 0⟩] := by rw [M1.out.1] at hA; exact hA
    rw [e1, e2]
    have H1 := Lib.hid (H0.out.step hA hg hk')
    clear hA hg hk' e1 e2 H0
    go_wp2_with fail
    refine (mk_any b g1 bm cap1 50 [zN, ⟨1, n, 0, 0, 0⟩] 1 n 0 0 0 w1 H1.out.ar (H1.out.shp HS.out) (okN _ _ _ (by simp [i64ok]) HN.out (by simp [i64ok]))).mono ?_
    rintro e w2 ⟨g2, cap2, rfl, hA, hg, hk'⟩
    have e1 : mkR 50 [zN, ⟨1, n, 0, 0, 0⟩] ⟨1, n, 0, 0, 0⟩ = 1 := M2.out.2.1
    have e2 : mkE 50 [zN, ⟨1, n, 0, 0, 0⟩] ⟨1, n, 0, 0, 0⟩ = 0 := M2.out.2.2
    have hA : Ar w2 b g2 bm cap2 50 [zN, ⟨1, n, 0, 0, 0⟩] := by rw [M2.out.1] at hA; exact hA
    rw [e1, e2]
    have H2 := Lib.hid (H1.out.step hA hg hk')
    clear hA hg hk' e1 e2 H1
    go_wp2_with fail
    refine (mk_any b g2 bm cap2 50 [zN, ⟨1, n, 0, 0, 0⟩] 9 n 0 0 0 w2 H2.out.ar (H2.out.shp HS.out) (okN _ _ _ (by simp [i64ok]) HN.out (by simp [i64ok]))).mono ?_
    rintro e w3 ⟨g3, cap3, rfl, hA, hg, hk'⟩
    have e1 : mkR 50 [zN, ⟨1, n, 0, 0, 0⟩] ⟨9, n, 0, 0, 0⟩ = 2 := M3.out.2.1
    have e2 : mkE 50 [zN, ⟨1, n, 0, 0, 0⟩] ⟨9, n, 0, 0, 0⟩ = 0 := M3.out.2.2
    have hA : Ar w3 b g3 bm cap3 50 [zN, ⟨1, n, 0, 0, 0⟩, ⟨9, n, 0, 0, 0⟩] := by rw [M3.out.1] at hA; exact hA
    rw [e1, e2]
    have H3 := Lib.hid (H2.out.step hA hg hk')
    clear hA hg hk' e1 e2 H2
    go_wp2_with fail
    refine (mk_any b g3 bm cap3 50 [zN, ⟨1, n, 0, 0, 0⟩, ⟨9, n, 0, 0, 0⟩] 6 n 1 1 0 w3 H3.out.ar (H3.out.shp HS.out) (⟨by simp [i64ok], HN.out, by simp [i64ok], by simp [i64ok], by simp [i64ok]⟩)).mono ?_
    rintro e w4 ⟨g4, cap4, rfl, hA, hg, hk'⟩
    have e1 : mkR 50 [zN, ⟨1, n, 0, 0, 0⟩, ⟨9, n, 0, 0, 0⟩] ⟨6, n, 1, 1, 0⟩ = 0 := M4.out.2.1
    have e2 : mkE 50 [zN, ⟨1, n, 0, 0, 0⟩, ⟨9, n, 0, 0, 0⟩] ⟨6, n, 1, 1, 0⟩ = 1 := M4.out.2.2
    have hA : Ar w4 b g4 bm cap4 50 [zN, ⟨1, n, 0, 0, 0⟩, ⟨9, n, 0, 0, 0⟩] := by rw [M4.out.1] at hA; exact hA
    rw [e1, e2]
    have H4 := Lib.hid (H3.out.step hA hg hk')
    clear hA hg hk' e1 e2 H3
    have HW := Lib.hid (awake_any w4 (H4.out.shp HS.out))
    go_wp2_with (go_at_call 11; refine HW.out.mono ?_; rintro e w5 ⟨rfl, hb5⟩)
    go_ret
    exact ⟨rfl, (H4.out.keep hb5).bel⟩

set_option maxHeartbeats 4000000 in
theorem numbers_dk (n m : Int) (hn : u64ok n) (hm : u64ok m) (hnm : n ≠ m) (hk : 1 ≤ n ∧ n ≤ 4) (w : World) (hs : Shp w) : Calls Tryd.prog 10 #[.int .u64 n, .int .u64 m] w fun e w' => e = .returned (.bool true) ∧ Below w.heap.size w w' := by
  have HS := Lib.hid hs; clear hs
  have HN := Lib.hid hn; clear hn
  have HM := Lib.hid hm; clear hm
  have hnm1 : (n == m) = false := by simpa using hnm
  have M1 := Lib.hid (mk_new (lim := 50) (L := [zN]) (d := ⟨1, n, 0, 0, 0⟩) (right_name _ _) (by rw [ix_ne (ne_k (by simp [zN])), ix_nil]; rfl) (by simp))
  have M2 := Lib.hid (mk_new (lim := 50) (L := [zN, ⟨1, n, 0, 0, 0⟩]) (d := ⟨1, m, 0, 0, 0⟩) (right_name _ _) (by rw [ix_ne (ne_k (by simp [zN])), ix_ne (ne_n (by simpa using hnm)), ix_nil]; rfl) (by simp))
  have M3 := Lib.hid (mk_new (lim := 50) (L := [zN, ⟨1, n, 0, 0, 0⟩, ⟨1, m, 0, 0, 0⟩]) (d := ⟨9, n, 0, 0, 0⟩) (right_word _ _) (by rw [ix_ne (ne_k (by simp [zN])), ix_ne (ne_k (by simp)), ix_ne (ne_k (by simp)), ix_nil]; rfl) (by simp))
  have M4 := Lib.hid (mk_new (lim := 50) (L := [zN, ⟨1, n, 0, 0, 0⟩, ⟨1, m, 0, 0, 0⟩, ⟨9, n, 0, 0, 0⟩]) (d := ⟨6, n, 1, 2, 0⟩) (right_key _ _ _ _ (by simp) (by simp) hk) (by rw [ix_ne (ne_k (by simp [zN])), ix_ne (ne_k (by simp)), ix_ne (ne_k (by simp)), ix_ne (ne_k (by simp)), ix_nil]; rfl) (by simp))
  have k1 : 1 ≤ n := hk.1
  have k2 : n ≤ 4 := hk.2
  clear hnm
  clear hk
  go_enter Tryd.func10, Tryd.ntmps10
  go_wp2_with fail
  refine (new_any 50 _).mono ?_
  rintro e w0 ⟨b, g0, bm, rfl, hA, h1, h2, h3, h4⟩
  have S0 : St w w0 b g0 bm 1 50 [zN] := ⟨hA, h4, h1, h2, h3⟩
  have H0 := Lib.hid S0
  clear hA h1 h2 h3 h4 S0
  go_wp2_with fail
  refine (mk_any b g0 bm 1 50 [zN] 1 n 0 0 0 w0 H0.out.ar (H0.out.shp HS.out) (okN _ _ _ (by simp [i64ok]) HN.out (by simp [i64ok]))).mono ?_
  rintro e w1 ⟨g1, cap1, rfl, hA, hg, hk'⟩
  have e1 : mkR 50 [zN] ⟨1, n, 0, 0, 0⟩ = 1 := M1.out.2.1
  have e2 : mkE 50 [zN] ⟨1, n, 0, 0, 0⟩ = 0 := M1.out.2.2
  have hA : Ar w1 b g1 bm cap1 50 [zN, ⟨1, n, 0, 0, 0⟩] := by rw [M1.out.1] at hA; exact hA
  rw [e1, e2]
  have H1 := Lib.hid (H0.out.step hA hg hk')
  clear hA hg hk' e1 e2 H0
  go_wp2_with fail
  refine (mk_any b g1 bm cap1 50 [zN, ⟨1, n, 0, 0, 0⟩] 1 m 0 0 0 w1 H1.out.ar (H1.out.shp HS.out) (okN _ _ _ (by simp [i64ok]) HM.out (by simp [i64ok]))).mono ?_
  rintro e w2 ⟨g2, cap2, rfl, hA, hg, hk'⟩
  have e1 : mkR 50 [zN, ⟨1, n, 0, 0, 0⟩] ⟨1, m, 0, 0, 0⟩ = 2 := M2.out.2.1
  have e2 : mkE 50 [zN, ⟨1, n, 0, 0, 0⟩] ⟨1, m, 0, 0, 0⟩ = 0 := M2.out.2.2
  have hA : Ar w2 b g2 bm cap2 50 [zN, ⟨1, n, 0, 0, 0⟩, ⟨1, m, 0, 0, 0⟩] := by rw [M2.out.1] at hA; exact hA
  rw [e1, e2]
  have H2 := Lib.hid (H1.out.step hA hg hk')
  clear hA hg hk' e1 e2 H1
  go_wp2_with fail
  refine (mk_any b g2 bm cap2 50 [zN, ⟨1, n, 0, 0, 0⟩, ⟨1, m, 0, 0, 0⟩] 9 n 0 0 0 w2 H2.out.ar (H2.out.shp HS.out) (okN _ _ _ (by simp [i64ok]) HN.out (by simp [i64ok]))).mono ?_
  rintro e w3 ⟨g3, cap3, rfl, hA, hg, hk'⟩
  have e1 : mkR 50 [zN, ⟨1, n, 0, 0, 0⟩, ⟨1, m, 0, 0, 0⟩] ⟨9, n, 0, 0, 0⟩ = 3 := M3.out.2.1
  have e2 : mkE 50 [zN, ⟨1, n, 0, 0, 0⟩, ⟨1, m, 0, 0, 0⟩] ⟨9, n, 0, 0, 0⟩ = 0 := M3.out.2.2
  have hA : Ar w3 b g3 bm cap3 50 [zN, ⟨1, n, 0, 0, 0⟩, ⟨1, m, 0, 0, 0⟩, ⟨9, n, 0, 0, 0⟩] := by rw [M3.out.1] at hA; exact hA
  rw [e1, e2]
  have H3 := Lib.hid (H2.out.step hA hg hk')
  clear hA hg hk' e1 e2 H2
  go_wp2_with fail
  refine (mk_any b g3 bm cap3 50 [zN, ⟨1, n, 0, 0, 0⟩, ⟨1, m, 0, 0, 0⟩, ⟨9, n, 0, 0, 0⟩] 6 n 1 2 0 w3 H3.out.ar (H3.out.shp HS.out) (⟨by simp [i64ok], HN.out, by simp [i64ok], by simp [i64ok], by simp [i64ok]⟩)).mono ?_
  rintro e w4 ⟨g4, cap4, rfl, hA, hg, hk'⟩
  have e1 : mkR 50 [zN, ⟨1, n, 0, 0, 0⟩, ⟨1, m, 0, 0, 0⟩, ⟨9, n, 0, 0, 0⟩] ⟨6, n, 1, 2, 0⟩ = 4 := M4.out.2.1
  have e2 : mkE 50 [zN, ⟨1, n, 0, 0, 0⟩, ⟨1, m, 0, 0, 0⟩, ⟨9, n, 0, 0, 0⟩] ⟨6, n, 1, 2, 0⟩ = 0 := M4.out.2.2
  have hA : Ar w4 b g4 bm cap4 50 [zN, ⟨1, n, 0, 0, 0⟩, ⟨1, m, 0, 0, 0⟩, ⟨9, n, 0, 0, 0⟩, ⟨6, n, 1, 2, 0⟩] := by rw [M4.out.1] at hA; exact hA
  rw [e1, e2]
  have H4 := Lib.hid (H3.out.step hA hg hk')
  clear hA hg hk' e1 e2 H3
  have HW := Lib.hid (awake_any w4 (H4.out.shp HS.out))
  go_wp2_with (go_at_call 11; refine HW.out.mono ?_; rintro e w5 ⟨rfl, hb5⟩)
  go_ret
  exact ⟨rfl, (H4.out.keep hb5).bel⟩

set_option maxHeartbeats 4000000 in
theorem numbers_dn (n m : Int) (hn : u64ok n) (hm : u64ok m) (hnm : n ≠ m) (hk : ¬ (1 ≤ n ∧ n ≤ 4)) (w : World) (hs : Shp w) : Calls Tryd.prog 10 #[.int .u64 n, .int .u64 m] w fun e w' => e = .returned (.bool true) ∧ Below w.heap.size w w' := by
  have HS := Lib.hid hs; clear hs
  have HN := Lib.hid hn; clear hn
  have HM := Lib.hid hm; clear hm
  have hnm1 : (n == m) = false := by simpa using hnm
  have M1 := Lib.hid (mk_new (lim := 50) (L := [zN]) (d := ⟨1, n, 0, 0, 0⟩) (right_name _ _) (by rw [ix_ne (ne_k (by simp [zN])), ix_nil]; rfl) (by simp))
  have M2 := Lib.hid (mk_new (lim := 50) (L := [zN, ⟨1, n, 0, 0, 0⟩]) (d := ⟨1, m, 0, 0, 0⟩) (right_name _ _) (by rw [ix_ne (ne_k (by simp [zN])), ix_ne (ne_n (by simpa using hnm)), ix_nil]; rfl) (by simp))
  have M3 := Lib.hid (mk_new (lim := 50) (L := [zN, ⟨1, n, 0, 0, 0⟩, ⟨1, m, 0, 0, 0⟩]) (d := ⟨9, n, 0, 0, 0⟩) (right_word _ _) (by rw [ix_ne (ne_k (by simp [zN])), ix_ne (ne_k (by simp)), ix_ne (ne_k (by simp)), ix_nil]; rfl) (by simp))
  have M4 := Lib.hid (mk_wrong (lim := 50) (L := [zN, ⟨1, n, 0, 0, 0⟩, ⟨1, m, 0, 0, 0⟩, ⟨9, n, 0, 0, 0⟩]) (d := ⟨6, n, 1, 2, 0⟩) (right_key_not _ _ _ _ hk))
  clear hnm
  by_cases hk1 : n < 1
  · have hd : decide (1 ≤ n) = false := by simp; omega
    clear hk hk1
    go_enter Tryd.func10, Tryd.ntmps10
    go_wp2_with fail
    refine (new_any 50 _).mono ?_
    rintro e w0 ⟨b, g0, bm, rfl, hA, h1, h2, h3, h4⟩
    have S0 : St w w0 b g0 bm 1 50 [zN] := ⟨hA, h4, h1, h2, h3⟩
    have H0 := Lib.hid S0
    clear hA h1 h2 h3 h4 S0
    go_wp2_with fail
    refine (mk_any b g0 bm 1 50 [zN] 1 n 0 0 0 w0 H0.out.ar (H0.out.shp HS.out) (okN _ _ _ (by simp [i64ok]) HN.out (by simp [i64ok]))).mono ?_
    rintro e w1 ⟨g1, cap1, rfl, hA, hg, hk'⟩
    have e1 : mkR 50 [zN] ⟨1, n, 0, 0, 0⟩ = 1 := M1.out.2.1
    have e2 : mkE 50 [zN] ⟨1, n, 0, 0, 0⟩ = 0 := M1.out.2.2
    have hA : Ar w1 b g1 bm cap1 50 [zN, ⟨1, n, 0, 0, 0⟩] := by rw [M1.out.1] at hA; exact hA
    rw [e1, e2]
    have H1 := Lib.hid (H0.out.step hA hg hk')
    clear hA hg hk' e1 e2 H0
    go_wp2_with fail
    refine (mk_any b g1 bm cap1 50 [zN, ⟨1, n, 0, 0, 0⟩] 1 m 0 0 0 w1 H1.out.ar (H1.out.shp HS.out) (okN _ _ _ (by simp [i64ok]) HM.out (by simp [i64ok]))).mono ?_
    rintro e w2 ⟨g2, cap2, rfl, hA, hg, hk'⟩
    have e1 : mkR 50 [zN, ⟨1, n, 0, 0, 0⟩] ⟨1, m, 0, 0, 0⟩ = 2 := M2.out.2.1
    have e2 : mkE 50 [zN, ⟨1, n, 0, 0, 0⟩] ⟨1, m, 0, 0, 0⟩ = 0 := M2.out.2.2
    have hA : Ar w2 b g2 bm cap2 50 [zN, ⟨1, n, 0, 0, 0⟩, ⟨1, m, 0, 0, 0⟩] := by rw [M2.out.1] at hA; exact hA
    rw [e1, e2]
    have H2 := Lib.hid (H1.out.step hA hg hk')
    clear hA hg hk' e1 e2 H1
    go_wp2_with fail
    refine (mk_any b g2 bm cap2 50 [zN, ⟨1, n, 0, 0, 0⟩, ⟨1, m, 0, 0, 0⟩] 9 n 0 0 0 w2 H2.out.ar (H2.out.shp HS.out) (okN _ _ _ (by simp [i64ok]) HN.out (by simp [i64ok]))).mono ?_
    rintro e w3 ⟨g3, cap3, rfl, hA, hg, hk'⟩
    have e1 : mkR 50 [zN, ⟨1, n, 0, 0, 0⟩, ⟨1, m, 0, 0, 0⟩] ⟨9, n, 0, 0, 0⟩ = 3 := M3.out.2.1
    have e2 : mkE 50 [zN, ⟨1, n, 0, 0, 0⟩, ⟨1, m, 0, 0, 0⟩] ⟨9, n, 0, 0, 0⟩ = 0 := M3.out.2.2
    have hA : Ar w3 b g3 bm cap3 50 [zN, ⟨1, n, 0, 0, 0⟩, ⟨1, m, 0, 0, 0⟩, ⟨9, n, 0, 0, 0⟩] := by rw [M3.out.1] at hA; exact hA
    rw [e1, e2]
    have H3 := Lib.hid (H2.out.step hA hg hk')
    clear hA hg hk' e1 e2 H2
    go_wp2_with fail
    refine (mk_any b g3 bm cap3 50 [zN, ⟨1, n, 0, 0, 0⟩, ⟨1, m, 0, 0, 0⟩, ⟨9, n, 0, 0, 0⟩] 6 n 1 2 0 w3 H3.out.ar (H3.out.shp HS.out) (⟨by simp [i64ok], HN.out, by simp [i64ok], by simp [i64ok], by simp [i64ok]⟩)).mono ?_
    rintro e w4 ⟨g4, cap4, rfl, hA, hg, hk'⟩
    have e1 : mkR 50 [zN, ⟨1, n, 0, 0, 0⟩, ⟨1, m, 0, 0, 0⟩, ⟨9, n, 0, 0, 0⟩] ⟨6, n, 1, 2, 0⟩ = 0 := M4.out.2.1
    have e2 : mkE 50 [zN, ⟨1, n, 0, 0, 0⟩, ⟨1, m, 0, 0, 0⟩, ⟨9, n, 0, 0, 0⟩] ⟨6, n, 1, 2, 0⟩ = 1 := M4.out.2.2
    have hA : Ar w4 b g4 bm cap4 50 [zN, ⟨1, n, 0, 0, 0⟩, ⟨1, m, 0, 0, 0⟩, ⟨9, n, 0, 0, 0⟩] := by rw [M4.out.1] at hA; exact hA
    rw [e1, e2]
    have H4 := Lib.hid (H3.out.step hA hg hk')
    clear hA hg hk' e1 e2 H3
    have HW := Lib.hid (awake_any w4 (H4.out.shp HS.out))
    go_wp2_with (go_at_call 11; refine HW.out.mono ?_; rintro e w5 ⟨rfl, hb5⟩)
    go_ret
    exact ⟨rfl, (H4.out.keep hb5).bel⟩
  · have hd1 : 1 ≤ n := by omega
    have hd2 : decide (n ≤ 4) = false := by simp; omega
    clear hk hk1
    go_enter Tryd.func10, Tryd.ntmps10
    go_wp2_with fail
    refine (new_any 50 _).mono ?_
    rintro e w0 ⟨b, g0, bm, rfl, hA, h1, h2, h3, h4⟩
    have S0 : St w w0 b g0 bm 1 50 [zN] := ⟨hA, h4, h1, h2, h3⟩
    have H0 := Lib.hid S0
    clear hA h1 h2 h3 h4 S0
    go_wp2_with fail
    refine (mk_any b g0 bm 1 50 [zN] 1 n 0 0 0 w0 H0.out.ar (H0.out.shp HS.out) (okN _ _ _ (by simp [i64ok]) HN.out (by simp [i64ok]))).mono ?_
    rintro e w1 ⟨g1, cap1, rfl, hA, hg, hk'⟩
    have e1 : mkR 50 [zN] ⟨1, n, 0, 0, 0⟩ = 1 := M1.out.2.1
    have e2 : mkE 50 [zN] ⟨1, n, 0, 0, 0⟩ = 0 := M1.out.2.2
    have hA : Ar w1 b g1 bm cap1 50 [zN, ⟨1, n, 0, 0, 0⟩] := by rw [M1.out.1] at hA; exact hA
    rw [e1, e2]
    have H1 := Lib.hid (H0.out.step hA hg hk')
    clear hA hg hk' e1 e2 H0
    go_wp2_with fail
    refine (mk_any b g1 bm cap1 50 [zN, ⟨1, n, 0, 0, 0⟩] 1 m 0 0 0 w1 H1.out.ar (H1.out.shp HS.out) (okN _ _ _ (by simp [i64ok]) HM.out (by simp [i64ok]))).mono ?_
    rintro e w2 ⟨g2, cap2, rfl, hA, hg, hk'⟩
    have e1 : mkR 50 [zN, ⟨1, n, 0, 0, 0⟩] ⟨1, m, 0, 0, 0⟩ = 2 := M2.out.2.1
    have e2 : mkE 50 [zN, ⟨1, n, 0, 0, 0⟩] ⟨1, m, 0, 0, 0⟩ = 0 := M2.out.2.2
    have hA : Ar w2 b g2 bm cap2 50 [zN, ⟨1, n, 0, 0, 0⟩, ⟨1, m, 0, 0, 0⟩] := by rw [M2.out.1] at hA; exact hA
    rw [e1, e2]
    have H2 := Lib.hid (H1.out.step hA hg hk')
    clear hA hg hk' e1 e2 H1
    go_wp2_with fail
    refine (mk_any b g2 bm cap2 50 [zN, ⟨1, n, 0, 0, 0⟩, ⟨1, m, 0, 0, 0⟩] 9 n 0 0 0 w2 H2.out.ar (H2.out.shp HS.out) (okN _ _ _ (by simp [i64ok]) HN.out (by simp [i64ok]))).mono ?_
    rintro e w3 ⟨g3, cap3, rfl, hA, hg, hk'⟩
    have e1 : mkR 50 [zN, ⟨1, n, 0, 0, 0⟩, ⟨1, m, 0, 0, 0⟩] ⟨9, n, 0, 0, 0⟩ = 3 := M3.out.2.1
    have e2 : mkE 50 [zN, ⟨1, n, 0, 0, 0⟩, ⟨1, m, 0, 0, 0⟩] ⟨9, n, 0, 0, 0⟩ = 0 := M3.out.2.2
    have hA : Ar w3 b g3 bm cap3 50 [zN, ⟨1, n, 0, 0, 0⟩, ⟨1, m, 0, 0, 0⟩, ⟨9, n, 0, 0, 0⟩] := by rw [M3.out.1] at hA; exact hA
    rw [e1, e2]
    have H3 := Lib.hid (H2.out.step hA hg hk')
    clear hA hg hk' e1 e2 H2
    go_wp2_with fail
    refine (mk_any b g3 bm cap3 50 [zN, ⟨1, n, 0, 0, 0⟩, ⟨1, m, 0, 0, 0⟩, ⟨9, n, 0, 0, 0⟩] 6 n 1 2 0 w3 H3.out.ar (H3.out.shp HS.out) (⟨by simp [i64ok], HN.out, by simp [i64ok], by simp [i64ok], by simp [i64ok]⟩)).mono ?_
    rintro e w4 ⟨g4, cap4, rfl, hA, hg, hk'⟩
    have e1 : mkR 50 [zN, ⟨1, n, 0, 0, 0⟩, ⟨1, m, 0, 0, 0⟩, ⟨9, n, 0, 0, 0⟩] ⟨6, n, 1, 2, 0⟩ = 0 := M4.out.2.1
    have e2 : mkE 50 [zN, ⟨1, n, 0, 0, 0⟩, ⟨1, m, 0, 0, 0⟩, ⟨9, n, 0, 0, 0⟩] ⟨6, n, 1, 2, 0⟩ = 1 := M4.out.2.2
    have hA : Ar w4 b g4 bm cap4 50 [zN, ⟨1, n, 0, 0, 0⟩, ⟨1, m, 0, 0, 0⟩, ⟨9, n, 0, 0, 0⟩] := by rw [M4.out.1] at hA; exact hA
    rw [e1, e2]
    have H4 := Lib.hid (H3.out.step hA hg hk')
    clear hA hg hk' e1 e2 H3
    have HW := Lib.hid (awake_any w4 (H4.out.shp HS.out))
    go_wp2_with (go_at_call 11; refine HW.out.mono ?_; rintro e w5 ⟨rfl, hb5⟩)
    go_ret
    exact ⟨rfl, (H4.out.keep hb5).bel⟩

theorem numbers_any (n m : Int) (hn : u64ok n) (hm : u64ok m) (w : World) (hs : Shp w) : Calls Tryd.prog 10 #[.int .u64 n, .int .u64 m] w fun e w' => e = .returned (.bool true) ∧ Below w.heap.size w w' := by
  by_cases hnm : n = m
  · by_cases hk : 1 ≤ n ∧ n ≤ 4
    · exact numbers_sk n m hn hm hnm hk w hs
    · exact numbers_sn n m hn hm hnm hk w hs
  · by_cases hk : 1 ≤ n ∧ n ≤ 4
    · exact numbers_dk n m hn hm hnm hk w hs
    · exact numbers_dn n m hn hm hnm hk w hs
end Go.Proofs.YtemjhhjalnlmlaaDoor
