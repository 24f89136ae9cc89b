/- Walks: the order of refs, as the reference reckons it. -/
import Derived.Test.YtemjhhjalnlmlaaDoorWd
namespace Go.Proofs.YtemjhhjalnlmlaaDoor
open Go.RowKit

theorem bcell {W w1 : World} (hb : Below W.heap.size W w1) : ∀ b o, b < W.heap.size → w1.cell? ⟨b, o, none⟩ = W.cell? ⟨b, o, none⟩ := fun b o h => hb.cell (p := ⟨b, o, none⟩) h
theorem rowAt.keep {w w' : World} {g : Nat} {L : List Nd} (h : rowAt w g L) (hk : w'.heap[g]? = w.heap[g]?) : rowAt w' g L := fun i hi => (h i hi).keep hk

theorem lexLast {c0 c1 c2 : Int} (h0 : c0 = 0) (h1 : c1 = 0) (h2 : c2 = 0) : orZ [0, 0, c0, c1, c2] = 0 := by simp [orZ, h0, h1, h2]
theorem lexAt (c : Int → Int) (kk : Nat) (h3 : kk < 3) (hz : ∀ t : Nat, t < kk → c t = 0) (hn : c kk ≠ 0) : orZ [0, 0, c 0, c 1, c 2] = c kk := by
  match kk, h3 with
  | 0, _ =>
    have hn : c 0 ≠ 0 := hn
    simp only [orZ, if_true]; rw [if_neg hn]; rfl
  | 1, _ =>
    have h0 : c 0 = 0 := hz 0 (by omega)
    have hn : c 1 ≠ 0 := hn
    simp only [orZ, if_true]
    rw [if_pos h0, if_neg hn]; rfl
  | 2, _ =>
    have h0 : c 0 = 0 := hz 0 (by omega)
    have h1 : c 1 = 0 := hz 1 (by omega)
    have hn : c 2 ≠ 0 := hn
    simp only [orZ, if_true]
    rw [if_pos h0, if_pos h1, if_neg hn]; rfl
theorem part_lt (t : Nat) (a1 b1 e1 a2 b2 e2 : Int) (i j : Nat) (hij : i ≠ j) (h1 : inAt a1 i ∧ inAt b1 i ∧ inAt e1 i) (h2 : inAt a2 j ∧ inAt b2 j ∧ inAt e2 j) :
    (partZ t a1 b1 e1).toNat + (partZ t a2 b2 e2).toNat < i + j := by
  unfold partZ inAt at *
  split
  · omega
  · split <;> omega

set_option maxHeartbeats 1000000 in
theorem refCmp_ind (lim : Int) (g cap : Nat) (L : List Nd) (hw : WFp L) (N : Nat) : ∀ (x y : Int) (w : World), x.toNat + y.toNat < N → rowAt w g L → g < w.heap.size →
    Calls Tryd.prog 19 #[.agg #[.int .i64 lim, .slice (some ⟨g, 0, none⟩) L.length cap], .int .i64 x, .int .i64 y] w fun e w' => e = .returned (.int .i64 (cmp L x y)) ∧ Below w.heap.size w w' := by
  have HW := Lib.hid hw; clear hw
  induction N with
  | zero => intro x y w h; omega
  | succ N ih =>
    intro x y w hN hr hg
    have IH := Lib.hid ih; clear ih
    have HR := Lib.hid hr; clear hr
    by_cases hxy : x = y
    · subst hxy
      rw [cmp_self]
      go_enter Tryd.func19, Tryd.ntmps19
      go_wp2_with fail
      go_ret
      exact ⟨rfl, (Below.refl _ _).alloc (Nat.le_refl _) _⟩
    · have h1 : (x == y) = false := by simpa using hxy
      cases hx : hasB L.length x
      · have hbo : both L x y = false := by simp [both, hx]
        cases hy : hasB L.length y
        · by_cases hlt : x < y
          · rw [show cmp L x y = -1 from by rw [cmp_miss hxy hbo]; simp [cmpMiss, hx, hy, cmpZ_lt hlt]]
            clear hxy hbo
            go_enter Tryd.func19, Tryd.ntmps19
            go_wp2_with (go_at_call 21; refine (refHas_any _ _ _ _ _ _).mono ?_; rintro e w' ⟨rfl, rfl⟩)
            go_ret
            exact ⟨rfl, (((((Below.refl _ _).alloc (Nat.le_refl _) _).alloc (by simp) _).alloc (by simp; omega) _).alloc (by simp; omega) _)⟩
          · rw [show cmp L x y = 1 from by rw [cmp_miss hxy hbo]; simp [cmpMiss, hx, hy, cmpZ_gt (show y < x by omega)]]
            have h2 : decide (x < y) = false := by simpa using hlt
            clear hxy hbo hlt
            go_enter Tryd.func19, Tryd.ntmps19
            go_wp2_with (go_at_call 21; refine (refHas_any _ _ _ _ _ _).mono ?_; rintro e w' ⟨rfl, rfl⟩)
            go_ret
            exact ⟨rfl, (((((Below.refl _ _).alloc (Nat.le_refl _) _).alloc (by simp) _).alloc (by simp; omega) _).alloc (by simp; omega) _)⟩
        · rw [show cmp L x y = 1 from by rw [cmp_miss hxy hbo]; simp [cmpMiss, hx, hy]]
          clear hxy hbo
          go_enter Tryd.func19, Tryd.ntmps19
          go_wp2_with (go_at_call 21; refine (refHas_any _ _ _ _ _ _).mono ?_; rintro e w' ⟨rfl, rfl⟩)
          go_ret
          exact ⟨rfl, (((((Below.refl _ _).alloc (Nat.le_refl _) _).alloc (by simp) _).alloc (by simp; omega) _).alloc (by simp; omega) _)⟩
      · cases hy : hasB L.length y
        · have hbo : both L x y = false := by simp [both, hx, hy]
          rw [show cmp L x y = -1 from by rw [cmp_miss hxy hbo]; simp [cmpMiss, hx]]
          clear hbo hxy
          go_enter Tryd.func19, Tryd.ntmps19
          go_wp2_with (go_at_call 21; refine (refHas_any _ _ _ _ _ _).mono ?_; rintro e w' ⟨rfl, rfl⟩)
          go_ret
          exact ⟨rfl, (((((Below.refl _ _).alloc (Nat.le_refl _) _).alloc (by simp) _).alloc (by simp; omega) _).alloc (by simp; omega) _)⟩
        · have hbo : both L x y = true := by simp [both, hx, hy]
          have hbb := both_iff.1 hbo
          obtain ⟨i, rfl⟩ := Int.eq_ofNat_of_zero_le hbb.1.1
          obtain ⟨j, rfl⟩ := Int.eq_ofNat_of_zero_le hbb.2.1
          have hi : i < L.length := by omega
          have hj : j < L.length := by omega
          have ri := HR.out i hi
          have rj := HR.out j hj
          have hlex := cmp_lex HW.out hbo
          have pi := HW.out.parts i hi
          have pj := HW.out.parts j hj
          have hij : i ≠ j := fun e => hxy (by rw [e])
          have hni : nd L (i : Int) = L.getD i zN := by unfold nd; rw [Int.toNat_natCast]
          have hnj : nd L (j : Int) = L.getD j zN := by unfold nd; rw [Int.toNat_natCast]
          rw [hni, hnj] at hlex
          clear hni hnj hbo hbb hxy
          obtain ⟨m, hmm⟩ : ∃ m, m = L.getD i zN := ⟨_, rfl⟩
          obtain ⟨n, hnn⟩ : ∃ n, n = L.getD j zN := ⟨_, rfl⟩
          rw [← hmm] at ri pi hlex
          rw [← hnn] at rj pj hlex
          clear hmm hnn
          obtain ⟨k1, n1, a1, b1, e1⟩ := m
          obtain ⟨k2, n2, a2, b2, e2⟩ := n
          obtain ⟨ri0, ri1, ri2, ri3, ri4⟩ := ri
          obtain ⟨rj0, rj1, rj2, rj3, rj4⟩ := rj
          simp only at ri0 ri1 ri2 ri3 ri4 rj0 rj1 rj2 rj3 rj4 hlex pi pj
          have HLex := Lib.hid hlex; clear hlex
          have HPi := Lib.hid pi; clear pi
          have HPj := Lib.hid pj; clear pj
          have q1 : g < w.heap.size + 1 := by omega
          have q2 : g < w.heap.size + 1 + 1 := by omega
          have q3 : g < w.heap.size + 1 + 1 + 1 := by omega
          by_cases hk : k1 = k2
          · subst hk
            by_cases hn : n1 = n2
            · subst hn
              go_enter Tryd.func19, Tryd.ntmps19
              go_wp2_with (go_at_call 21; refine (refHas_any _ _ _ _ _ _).mono ?_; rintro e w' ⟨rfl, rfl⟩)
              go_loopg [9, 10] 3 (fun r u9 _ wr => ∃ kk : Nat, kk + r = 3 ∧ u9 = .int .i64 kk ∧ (∀ t : Nat, t < kk → cmp L (partZ t a1 b1 e1) (partZ t a2 b2 e2) = 0) ∧ Below w.heap.size w wr ∧ w.heap.size + 5 ≤ wr.heap.size ∧
                wr.cell? ⟨w.heap.size, 0, none⟩ = some (.int .i64 lim) ∧ wr.cell? ⟨w.heap.size, 1, none⟩ = some (.slice (some ⟨g, 0, none⟩) L.length cap) ∧ boxAt wr (w.heap.size + 1 + 1 + 1) k1 n1 a1 b1 e1 ∧ boxAt wr (w.heap.size + 1 + 1 + 1 + 1) k1 n1 a2 b2 e2)
              case atStart => exact ⟨0, rfl, rfl, fun t ht => by omega, (((((Below.refl _ _).alloc (Nat.le_refl _) _).alloc (by simp) _).alloc (by simp; omega) _).alloc (by simp; omega) _).alloc (by simp; omega) _, by simp, by go_simp, by go_simp, by unfold boxAt; refine ⟨?_, ?_, ?_, ?_, ?_⟩ <;> go_simp, by unfold boxAt; refine ⟨?_, ?_, ?_, ?_, ?_⟩ <;> go_simp⟩
              case round =>
                obtain ⟨kk, hkr, rfl, hall, hbel, hsz, z0, z1, hbp, hbq⟩ := hrel
                have HA := Lib.hid hall; clear hall
                by_cases hlt : kk < 3
                · obtain ⟨p0, p1, p2, p3, p4⟩ := hbp
                  obtain ⟨o0, o1, o2, o3, o4⟩ := hbq
                  have s0 : w.heap.size < wr.heap.size := by omega
                  have s1 : w.heap.size + 1 + 1 + 1 < wr.heap.size := by omega
                  have s2 : w.heap.size + 1 + 1 + 1 + 1 < wr.heap.size := by omega
                  have t0 : w.heap.size < wr.heap.size + 1 := by omega
                  have t1 : w.heap.size + 1 + 1 + 1 < wr.heap.size + 1 := by omega
                  have t2 : w.heap.size + 1 + 1 + 1 + 1 < wr.heap.size + 1 := by omega
                  have v0 : w.heap.size < wr.heap.size + 1 + 1 := by omega
                  have v1 : w.heap.size + 1 + 1 + 1 < wr.heap.size + 1 + 1 := by omega
                  have v2 : w.heap.size + 1 + 1 + 1 + 1 < wr.heap.size + 1 + 1 := by omega
                  have HLT := Lib.hid (part_lt kk a1 b1 e1 a2 b2 e2 i j hij HPi.out HPj.out)
                  have HLT : Hid ((partZ kk a1 b1 e1).toNat + (partZ kk a2 b2 e2).toNat < N) := Lib.hid (by have := HLT.out; omega)
                  have HB2 := Lib.hid (fun o1 o2 => ((hbel.alloc hbel.size o1).alloc (Nat.le_trans hbel.size (by simp)) o2).drew)
                  have HRW : Hid (∀ o1 o2, rowAt ((wr.alloc o1).alloc o2).drew g L) := Lib.hid (fun o1 o2 => HR.out.keep ((HB2.out o1 o2).block g hg))
                  have HS : Hid (∀ o1 o2, g < ((wr.alloc o1).alloc o2).drew.heap.size) := Lib.hid (fun o1 o2 => by have := (HB2.out o1 o2).size; omega)
                  go_upto_region 20 with fail
                  go_cut [10] (fun s10 wx => s10 = .int .i64 (cmp L (partZ kk a1 b1 e1) (partZ kk a2 b2 e2)) ∧ Below w.heap.size w wx ∧ w.heap.size + 5 ≤ wx.heap.size ∧
                    wx.cell? ⟨w.heap.size, 0, none⟩ = some (.int .i64 lim) ∧ wx.cell? ⟨w.heap.size, 1, none⟩ = some (.slice (some ⟨g, 0, none⟩) L.length cap) ∧ boxAt wx (w.heap.size + 1 + 1 + 1) k1 n1 a1 b1 e1 ∧ boxAt wx (w.heap.size + 1 + 1 + 1 + 1) k1 n1 a2 b2 e2)
                  case first =>
                    go_region_held3 (fun w' => w'.cell? ⟨w.heap.size, 0, none⟩ = some (.int .i64 lim) ∧ w'.cell? ⟨w.heap.size, 1, none⟩ = some (.slice (some ⟨g, 0, none⟩) L.length cap) ∧
                        w'.cell? ⟨w.heap.size + 1 + 1 + 1, 0, none⟩ = some (.int .i64 k1) ∧ w'.cell? ⟨w.heap.size + 1 + 1 + 1, 1, none⟩ = some (.int .u64 n1) ∧ w'.cell? ⟨w.heap.size + 1 + 1 + 1, 2, none⟩ = some (.int .i64 a1) ∧ w'.cell? ⟨w.heap.size + 1 + 1 + 1, 3, none⟩ = some (.int .i64 b1) ∧ w'.cell? ⟨w.heap.size + 1 + 1 + 1, 4, none⟩ = some (.int .i64 e1) ∧
                        w'.cell? ⟨w.heap.size + 1 + 1 + 1 + 1, 0, none⟩ = some (.int .i64 k1) ∧ w'.cell? ⟨w.heap.size + 1 + 1 + 1 + 1, 1, none⟩ = some (.int .u64 n1) ∧ w'.cell? ⟨w.heap.size + 1 + 1 + 1 + 1, 2, none⟩ = some (.int .i64 a2) ∧ w'.cell? ⟨w.heap.size + 1 + 1 + 1 + 1, 3, none⟩ = some (.int .i64 b2) ∧ w'.cell? ⟨w.heap.size + 1 + 1 + 1 + 1, 4, none⟩ = some (.int .i64 e2)) (first | (go_simp; done) | (simp [*]; done))
                      (first
                        | (go_at_call 35; refine (part_any _ _ _ _ _ _ _).mono ?_; rintro e w' ⟨rfl, rfl⟩)
                        | (go_at_call 19; refine (IH.out (partZ kk a1 b1 e1) (partZ kk a2 b2 e2) _ HLT.out (HRW.out _ _) (HS.out _ _)).mono ?_; rintro e w' ⟨rfl, hb2⟩; have hbc := bcell hb2))
                    go_wp2_with fail
                    go_meet
                    case rel =>
                      refine ⟨rfl, (HB2.out _ _).trans (hb2.mono (HB2.out _ _).size), ?_, ?_, ?_, ?_, ?_⟩
                      · have := hb2.size; simp at this; omega
                      · rw [hbc _ _ (by simp; omega)]; go_simp
                      · rw [hbc _ _ (by simp; omega)]; go_simp
                      · unfold boxAt; refine ⟨?_, ?_, ?_, ?_, ?_⟩ <;> (rw [hbc _ _ (by simp; omega)]; go_simp)
                      · unfold boxAt; refine ⟨?_, ?_, ?_, ?_, ?_⟩ <;> (rw [hbc _ _ (by simp; omega)]; go_simp)
                  case rest =>
                    clear HB2 HRW HS z0 z1 p0 p1 p2 p3 p4 o0 o1 o2 o3 o4 hbel hsz s0 s1 s2 t0 t1 t2 v0 v1 v2
                    obtain ⟨rfl, hbel, hsz, z0, z1, hbp, hbq⟩ := hcut
                    obtain ⟨t, htt⟩ : ∃ t, t = cmp L (partZ kk a1 b1 e1) (partZ kk a2 b2 e2) := ⟨_, rfl⟩
                    rw [← htt]
                    by_cases h0 : t = 0
                    · subst h0
                      have HT := Lib.hid htt; clear htt
                      go_wp2_with fail
                      go_roundg (2 - kk)
                      case measure => omega
                      case rel =>
                        refine ⟨kk + 1, by omega, by go_num, fun t ht => ?_, hbel, hsz, z0, z1, hbp, hbq⟩
                        by_cases htk : t < kk
                        · exact HA.out t htk
                        · obtain rfl : t = kk := by omega
                          exact HT.out.symm
                    · have h2 : (t != 0) = true := by simpa using h0
                      have HF : Hid (cmp L ↑i ↑j = t) := Lib.hid (by
                        rw [HLex.out, cmpZ_eq, cmpZ_eq, htt]
                        exact lexAt (fun t => cmp L (partZ t a1 b1 e1) (partZ t a2 b2 e2)) kk hlt (fun t ht => HA.out t ht) (by rw [← htt]; exact h0))
                      clear htt h0
                      go_wp2_with fail
                      go_ret
                      exact ⟨by rw [HF.out]; rfl, hbel⟩
                · obtain rfl : kk = 3 := by omega
                  have HF : Hid (cmp L ↑i ↑j = 0) := Lib.hid (by
                    rw [HLex.out, cmpZ_eq, cmpZ_eq]
                    exact lexLast (HA.out 0 (by omega)) (HA.out 1 (by omega)) (HA.out 2 (by omega)))
                  go_wp2_with fail
                  go_ret
                  exact ⟨by rw [HF.out]; rfl, hbel⟩
            · have h2 : (n1 != n2) = true := by simpa using hn
              have HF : Hid (cmp L ↑i ↑j = cmpZ n1 n2) := Lib.hid (by rw [HLex.out]; simp only [orZ, cmpZ_eq, if_true]; rw [if_neg (fun e => hn (cmpZ_zero.1 e))])
              by_cases hlt : n1 < n2
              · go_enter Tryd.func19, Tryd.ntmps19
                go_wp2_with (go_at_call 21; refine (refHas_any _ _ _ _ _ _).mono ?_; rintro e w' ⟨rfl, rfl⟩)
                go_ret
                exact ⟨by rw [HF.out, cmpZ_lt hlt]; rfl, (((((Below.refl _ _).alloc (Nat.le_refl _) _).alloc (by simp) _).alloc (by simp; omega) _).alloc (by simp; omega) _).alloc (by simp; omega) _⟩
              · have h3 : decide (n1 < n2) = false := by simpa using hlt
                have hgt : n2 < n1 := by omega
                go_enter Tryd.func19, Tryd.ntmps19
                go_wp2_with (go_at_call 21; refine (refHas_any _ _ _ _ _ _).mono ?_; rintro e w' ⟨rfl, rfl⟩)
                go_ret
                exact ⟨by rw [HF.out, cmpZ_gt hgt]; rfl, (((((Below.refl _ _).alloc (Nat.le_refl _) _).alloc (by simp) _).alloc (by simp; omega) _).alloc (by simp; omega) _).alloc (by simp; omega) _⟩
          · have h2 : (k1 != k2) = true := by simpa using hk
            have HF : Hid (cmp L ↑i ↑j = cmpZ k1 k2) := Lib.hid (by rw [HLex.out]; simp only [orZ]; rw [if_neg (fun e => hk (cmpZ_zero.1 e))])
            by_cases hlt : k1 < k2
            · go_enter Tryd.func19, Tryd.ntmps19
              go_wp2_with (go_at_call 21; refine (refHas_any _ _ _ _ _ _).mono ?_; rintro e w' ⟨rfl, rfl⟩)
              go_ret
              exact ⟨by rw [HF.out, cmpZ_lt hlt]; rfl, (((((Below.refl _ _).alloc (Nat.le_refl _) _).alloc (by simp) _).alloc (by simp; omega) _).alloc (by simp; omega) _).alloc (by simp; omega) _⟩
            · have h3 : decide (k1 < k2) = false := by simpa using hlt
              have hgt : k2 < k1 := by omega
              go_enter Tryd.func19, Tryd.ntmps19
              go_wp2_with (go_at_call 21; refine (refHas_any _ _ _ _ _ _).mono ?_; rintro e w' ⟨rfl, rfl⟩)
              go_ret
              exact ⟨by rw [HF.out, cmpZ_gt hgt]; rfl, (((((Below.refl _ _).alloc (Nat.le_refl _) _).alloc (by simp) _).alloc (by simp; omega) _).alloc (by simp; omega) _).alloc (by simp; omega) _⟩
theorem refCmp_any (lim : Int) (g cap : Nat) (L : List Nd) (hw : WFp L) (x y : Int) (w : World) (hr : rowAt w g L) (hg : g < w.heap.size) :
    Calls Tryd.prog 19 #[.agg #[.int .i64 lim, .slice (some ⟨g, 0, none⟩) L.length cap], .int .i64 x, .int .i64 y] w fun e w' => e = .returned (.int .i64 (cmp L x y)) ∧ Below w.heap.size w w' :=
  refCmp_ind lim g cap L hw _ x y w (Nat.lt_succ_self _) hr hg
end Go.Proofs.YtemjhhjalnlmlaaDoor
