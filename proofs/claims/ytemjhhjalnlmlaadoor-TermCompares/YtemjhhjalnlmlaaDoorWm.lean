/- Walks: what the document fixes of two secrets (awake). -/
import Derived.Test.YtemjhhjalnlmlaaDoorWl
namespace Go.Proofs.YtemjhhjalnlmlaaDoor
open Go.RowKit Go.Maps

/-- An arena made since the world w. -/
structure St (w wi : World) (b g bm cap lim : Nat) (L : List Nd) : Prop where
  ar : Ar wi b g bm cap lim L
  bel : Below w.heap.size w wi
  hb : w.heap.size ≤ b
  hg : w.heap.size ≤ g
  hm : w.heap.size ≤ bm
section
variable {w wi w' : World} {b g bm cap lim : Nat} {L : List Nd}
theorem St.shp (h : St w wi b g bm cap lim L) (hs : Shp w) : Shp wi := hs.below h.bel
theorem St.keep (h : St w wi b g bm cap lim L) (hb : Below wi.heap.size wi w') : St w w' b g bm cap lim L :=
  ⟨h.ar.below hb, h.bel.trans (hb.mono h.bel.size), h.hb, h.hg, h.hm⟩
theorem St.step (h : St w wi b g bm cap lim L) {g' cap' : Nat} {M : List Nd} (hA : Ar w' b g' bm cap' lim M) (hg : g' = g ∨ wi.heap.size ≤ g') (hk : Kept wi w' b g bm) : St w w' b g' bm cap' lim M :=
  ⟨hA, hk.below h.bel h.bel.size h.hb h.hg h.hm, h.hb, by rcases hg with e | e; rw [e]; exact h.hg; have := h.bel.size; omega, h.hm⟩
end

def N1 : Nd := ⟨1, 1, 0, 0, 0⟩
def N2 : Nd := ⟨1, 2, 0, 0, 0⟩
def P1 : Nd := ⟨2, 0, 1, 0, 0⟩
def P2 : Nd := ⟨2, 0, 2, 0, 0⟩
def D1 : Nd := ⟨3, 0, 1, 2, 0⟩
theorem aw1 : mkL 20 [zN] N1 = [zN, N1] ∧ mkR 20 [zN] N1 = 1 ∧ mkE 20 [zN] N1 = 0 := mk_new (by decide) (by decide) (by decide)
theorem aw2 : mkL 20 [zN, N1] N2 = [zN, N1, N2] ∧ mkR 20 [zN, N1] N2 = 2 ∧ mkE 20 [zN, N1] N2 = 0 := mk_new (by decide) (by decide) (by decide)
theorem aw3 : mkL 20 [zN, N1, N2] P1 = [zN, N1, N2, P1] ∧ mkR 20 [zN, N1, N2] P1 = 3 ∧ mkE 20 [zN, N1, N2] P1 = 0 := mk_new (by decide) (by decide) (by decide)
theorem aw4 : mkL 20 [zN, N1, N2, P1] P2 = [zN, N1, N2, P1, P2] ∧ mkR 20 [zN, N1, N2, P1] P2 = 4 ∧ mkE 20 [zN, N1, N2, P1] P2 = 0 := mk_new (by decide) (by decide) (by decide)
theorem awc {M : List Nd} : cmp ([zN, N1, N2, P1, P2] ++ M) 1 2 = -1 := by
  have e1 : nd ([zN, N1, N2, P1, P2] ++ M) 1 = N1 := by rw [nd_append (by omega) (by decide)]; rfl
  have e2 : nd ([zN, N1, N2, P1, P2] ++ M) 2 = N2 := by rw [nd_append (by omega) (by decide)]; rfl
  rw [cmp_top (by omega) (both_append (by decide)) (by rw [e1, e2]; decide), e1, e2]; decide
theorem awc' {M : List Nd} : cmp ([zN, N1, N2, P1, P2] ++ M) 2 1 = 1 := by
  have e1 : nd ([zN, N1, N2, P1, P2] ++ M) 1 = N1 := by rw [nd_append (by omega) (by decide)]; rfl
  have e2 : nd ([zN, N1, N2, P1, P2] ++ M) 2 = N2 := by rw [nd_append (by omega) (by decide)]; rfl
  rw [cmp_top (by omega) (both_append (by decide)) (by rw [e1, e2]; decide), e1, e2]; decide
theorem awn5 : shN [zN, N1, N2, P1, P2] 1 4 = D1 := by
  have h := awc (M := [])
  rw [List.append_nil] at h
  unfold shN
  have e : nd [zN, N1, N2, P1, P2] 4 = P2 := rfl
  rw [e]
  show (if (2 : Int) ≠ 2 then _ else if cmp [zN, N1, N2, P1, P2] 1 2 ≤ 0 then _ else _) = D1
  rw [h]; rfl
theorem awn6 : shN [zN, N1, N2, P1, P2, D1] 2 3 = D1 := by
  have h := awc' (M := [D1])
  unfold shN
  have e : nd [zN, N1, N2, P1, P2, D1] 3 = P1 := rfl
  rw [e]
  show (if (2 : Int) ≠ 2 then _ else if cmp ([zN, N1, N2, P1, P2] ++ [D1]) 2 1 ≤ 0 then _ else _) = D1
  rw [h]; rfl
theorem awr5 : right [zN, N1, N2, P1, P2] D1 = true := by
  have h := awc (M := [])
  rw [List.append_nil] at h
  rw [right_iff]
  refine ⟨by decide, by decide, by decide, ?_⟩
  show decide (cmp [zN, N1, N2, P1, P2] 1 2 ≤ 0) = true
  rw [h]; decide
theorem awr6 : right [zN, N1, N2, P1, P2, D1] D1 = true := by
  have h := awc (M := [D1])
  rw [right_iff]
  refine ⟨by decide, by decide, by decide, ?_⟩
  show decide (cmp ([zN, N1, N2, P1, P2] ++ [D1]) 1 2 ≤ 0) = true
  rw [h]; decide
theorem aw5 : shL 20 [zN, N1, N2, P1, P2] 1 4 = [zN, N1, N2, P1, P2, D1] ∧ shR 20 [zN, N1, N2, P1, P2] 1 4 = 5 ∧ shE 20 [zN, N1, N2, P1, P2] 1 4 = 0 := by
  unfold shL shR shE
  rw [if_pos (by decide), if_pos (by decide), if_pos (by decide), awn5]
  exact mk_new awr5 (by decide) (by decide)
theorem aw6 : shL 20 [zN, N1, N2, P1, P2, D1] 2 3 = [zN, N1, N2, P1, P2, D1] ∧ shR 20 [zN, N1, N2, P1, P2, D1] 2 3 = 5 ∧ shE 20 [zN, N1, N2, P1, P2, D1] 2 3 = 0 := by
  unfold shL shR shE
  rw [if_pos (by decide), if_pos (by decide), if_pos (by decide), awn6]
  exact mk_old (i := 5) awr6 (by decide)

theorem okN (k : Int) (n a : Int) (hk : i64ok k) (hn : u64ok n) (ha : i64ok a) : (⟨k, n, a, 0, 0⟩ : Nd).ok := ⟨hk, hn, ha, by simp [i64ok], by simp [i64ok]⟩

set_option maxHeartbeats 4000000 in
theorem awake_any (w : World) (hs : Shp w) : Calls Tryd.prog 11 #[] w fun e w' => e = .returned (.bool true) ∧ Below w.heap.size w w' := by
  have HS := Lib.hid hs; clear hs
  go_enter Tryd.func11, Tryd.ntmps11
  go_wp2_with fail
  refine (new_any 20 _).mono ?_
  rintro e w0 ⟨b, g0, bm, rfl, hA, h1, h2, h3, h4⟩
  have S0 : St w w0 b g0 bm 1 20 [zN] := ⟨hA, h4, h1, h2, h3⟩
  have H0 := Lib.hid S0
  clear hA h1 h2 h3 h4 S0
  go_wp2_with fail
  refine (mk_any b g0 bm 1 20 [zN] 1 1 0 0 0 w0 H0.out.ar (H0.out.shp HS.out) (okN _ _ _ (by simp [i64ok]) (by simp [u64ok]) (by simp [i64ok]))).mono ?_
  rintro e w1 ⟨g1, cap1, rfl, hA, hg, hk⟩
  have e1 : mkR 20 [zN] ⟨1, 1, 0, 0, 0⟩ = 1 := aw1.2.1
  have e2 : mkE 20 [zN] ⟨1, 1, 0, 0, 0⟩ = 0 := aw1.2.2
  have hA : Ar w1 b g1 bm cap1 20 [zN, N1] := aw1.1 ▸ hA
  rw [e1, e2]
  have H1 := Lib.hid (H0.out.step hA hg hk)
  clear hA hg hk e1 e2 H0
  go_wp2_with fail
  refine (mk_any b g1 bm cap1 20 [zN, N1] 1 2 0 0 0 w1 H1.out.ar (H1.out.shp HS.out) (okN _ _ _ (by simp [i64ok]) (by simp [u64ok]) (by simp [i64ok]))).mono ?_
  rintro e w2 ⟨g2, cap2, rfl, hA, hg, hk⟩
  have e1 : mkR 20 [zN, N1] ⟨1, 2, 0, 0, 0⟩ = 2 := aw2.2.1
  have e2 : mkE 20 [zN, N1] ⟨1, 2, 0, 0, 0⟩ = 0 := aw2.2.2
  have hA : Ar w2 b g2 bm cap2 20 [zN, N1, N2] := aw2.1 ▸ hA
  rw [e1, e2]
  have H2 := Lib.hid (H1.out.step hA hg hk)
  clear hA hg hk e1 e2 H1
  go_wp2_with fail
  refine (mk_any b g2 bm cap2 20 [zN, N1, N2] 2 0 1 0 0 w2 H2.out.ar (H2.out.shp HS.out) (okN _ _ _ (by simp [i64ok]) (by simp [u64ok]) (by simp [i64ok]))).mono ?_
  rintro e w3 ⟨g3, cap3, rfl, hA, hg, hk⟩
  have e1 : mkR 20 [zN, N1, N2] ⟨2, 0, 1, 0, 0⟩ = 3 := aw3.2.1
  have e2 : mkE 20 [zN, N1, N2] ⟨2, 0, 1, 0, 0⟩ = 0 := aw3.2.2
  have hA : Ar w3 b g3 bm cap3 20 [zN, N1, N2, P1] := aw3.1 ▸ hA
  rw [e1, e2]
  have H3 := Lib.hid (H2.out.step hA hg hk)
  clear hA hg hk e1 e2 H2
  go_wp2_with fail
  refine (mk_any b g3 bm cap3 20 [zN, N1, N2, P1] 2 0 2 0 0 w3 H3.out.ar (H3.out.shp HS.out) (okN _ _ _ (by simp [i64ok]) (by simp [u64ok]) (by simp [i64ok]))).mono ?_
  rintro e w4 ⟨g4, cap4, rfl, hA, hg, hk⟩
  have e1 : mkR 20 [zN, N1, N2, P1] ⟨2, 0, 2, 0, 0⟩ = 4 := aw4.2.1
  have e2 : mkE 20 [zN, N1, N2, P1] ⟨2, 0, 2, 0, 0⟩ = 0 := aw4.2.2
  have hA : Ar w4 b g4 bm cap4 20 [zN, N1, N2, P1, P2] := aw4.1 ▸ hA
  rw [e1, e2]
  have H4 := Lib.hid (H3.out.step hA hg hk)
  clear hA hg hk e1 e2 H3
  go_wp2_with fail
  refine (share_any b g4 bm cap4 20 [zN, N1, N2, P1, P2] 1 4 w4 H4.out.ar (H4.out.shp HS.out)).mono ?_
  rintro e w5 ⟨g5, cap5, rfl, hA, hg, hk⟩
  have hA : Ar w5 b g5 bm cap5 20 [zN, N1, N2, P1, P2, D1] := aw5.1 ▸ hA
  rw [aw5.2.1, aw5.2.2]
  have H5 := Lib.hid (H4.out.step hA hg hk)
  clear hA hg hk H4
  go_wp2_with fail
  refine (share_any b g5 bm cap5 20 [zN, N1, N2, P1, P2, D1] 2 3 w5 H5.out.ar (H5.out.shp HS.out)).mono ?_
  rintro e w6 ⟨g6, cap6, rfl, hA, hg, hk⟩
  have hA : Ar w6 b g6 bm cap6 20 [zN, N1, N2, P1, P2, D1] := aw6.1 ▸ hA
  rw [aw6.2.1, aw6.2.2]
  have H6 := Lib.hid (H5.out.step hA hg hk)
  clear hA hg hk H5
  have HG := Lib.hid (get_yes b g6 bm cap6 20 [zN, N1, N2, P1, P2, D1] 5 (by decide) w6 H6.out.ar)
  go_wp2_with fail
  refine HG.out.mono ?_
  rintro e w7 ⟨rfl, hb7⟩
  have H7 := Lib.hid (H6.out.keep hb7)
  clear hb7 HG H6
  have hag : agg (([zN, N1, N2, P1, P2, D1] : List Nd).getD 5 zN) = .agg #[.int .i64 3, .int .u64 0, .int .i64 1, .int .i64 2, .int .i64 0] := rfl
  rw [hag]
  clear hag
  have HL := Lib.hid (fun o => len_any b (some ⟨g6, 0, none⟩) 6 cap6 (w7.alloc o) ((H7.out.keep ((Below.refl _ _).alloc (Nat.le_refl _) o)).ar.c0))
  have hb7 : b < w7.heap.size := H7.out.ar.blt
  go_wp2_with (go_at_call 17; refine (HL.out _).mono ?_; rintro e w' ⟨rfl, rfl⟩)
  go_ret
  exact ⟨rfl, (H7.out.keep ((Below.refl _ _).alloc (Nat.le_refl _) _)).bel⟩
end Go.Proofs.YtemjhhjalnlmlaaDoor
