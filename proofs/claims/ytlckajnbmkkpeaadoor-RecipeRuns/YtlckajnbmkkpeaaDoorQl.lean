/- Walks: sharing, as the program does it. -/
import Derived.Test.YtlckajnbmkkpeaaDoorQf
namespace Go.Proofs.YtlckajnbmkkpeaaDoor
open Go.RowKit Go.Maps

set_option maxHeartbeats 2000000 in
theorem share_any (b g bm cap lim : Nat) (L : List Nd) (x y : Int) (w : World) (hA : Ar w b g bm cap lim L) (hsh : Shp w) :
    Calls Tryd.prog 65 #[.pointer (some ⟨b, 0, none⟩), .int .i64 x, .int .i64 y] w (ShPost b g bm lim L x y w) := by
  have c0 := hA.c0
  have hbl := hA.blt
  have hgl := hA.glt
  have q1 : b < w.heap.size + 1 := by omega
  have q2 : g < w.heap.size + 1 := by omega
  have HA := Lib.hid hA; clear hA
  have HSH := Lib.hid hsh; clear hsh
  cases hbo : both L x y
  · have HB := Lib.hid hbo; clear hbo
    go_enter Tryd.func65, Tryd.ntmps65
    go_wp2_with fail
    refine (has2_any b (some ⟨g, 0, none⟩) L.length cap _ _ x y _ ?_ ?_ ?_).mono ?_
    · go_simp
    · go_simp
    · go_simp
    rintro e w' ⟨rfl, rfl⟩
    rw [show (hasB L.length x && hasB L.length y) = false from HB.out]
    go_wp2_with fail
    go_ret2
    unfold ShPost shL shR shE
    rw [HB.out]
    exact ⟨g, cap, rfl, HA.out.below ((Below.refl _ _).alloc (Nat.le_refl _) _), .inl rfl, Kept.of ((Below.refl _ _).alloc (Nat.le_refl _) _)⟩
  · have hok := shN_ok HA.out.wf HA.out.small hbo
    have hyy := (both_iff.1 hbo).2
    obtain ⟨j, rfl⟩ := Int.eq_ofNat_of_zero_le hyy.1
    have hj : j < L.length := by omega
    have rj := HA.out.row j hj
    have hnd : nd L (j : Int) = L.getD j zN := by unfold nd; rw [Int.toNat_natCast]
    obtain ⟨m, hmm⟩ : ∃ m, m = L.getD j zN := ⟨_, rfl⟩
    rw [← hmm] at rj hnd
    clear hmm hyy
    obtain ⟨k2, n2, a2, b2, e2⟩ := m
    obtain ⟨rj0, rj1, rj2, rj3, rj4⟩ := rj
    simp only at rj0 rj1 rj2 rj3 rj4
    have HB2 := Lib.hid (fun o1 o2 => ((Below.refl w.heap.size w).alloc (Nat.le_refl _) o1).alloc (by simp) o2)
    have HBO := Lib.hid hbo; clear hbo
    by_cases hk : k2 = 2
    · subst hk
      have HC := Lib.hid (fun o1 o2 => compare_any b g cap L x a2 ((w.alloc o1).alloc o2) ((HA.out.below (HB2.out o1 o2)).c0) ((HA.out.below (HB2.out o1 o2)).row) HA.out.wf.toWFp HA.out.small (by simp; omega) (by simp; omega))
      by_cases hc : cmp L x a2 ≤ 0
      · have hsn : shN L x (j : Int) = ⟨3, 0, x, a2, 0⟩ := by unfold shN; rw [hnd]; simp [hc]
        rw [hsn] at hok
        have HOK := Lib.hid hok; clear hok
        have HSN := Lib.hid hsn; clear hsn hnd
        have hcd : decide (0 < cmp L x a2) = false := by simp; omega
        go_enter Tryd.func65, Tryd.ntmps65
        go_wp2_with fail
        refine (has2_any b (some ⟨g, 0, none⟩) L.length cap _ _ x (j : Int) _ ?_ ?_ ?_).mono ?_
        · go_simp
        · go_simp
        · go_simp
        rintro e w' ⟨rfl, rfl⟩
        rw [show (hasB L.length x && hasB L.length (j : Int)) = true from HBO.out]
        go_wp2_with fail
        refine (HC.out _ _).mono ?_
        rintro e w1 ⟨rfl, hb1⟩
        have HB3 := Lib.hid ((HB2.out _ _).trans (hb1.mono (HB2.out _ _).size))
        clear hb1
        go_wp2_with fail
        refine (mk_any b g bm cap lim L 3 0 x a2 0 w1 (HA.out.below HB3.out) (HSH.out.below HB3.out) HOK.out).mono ?_
        rintro e w2 ⟨g', cap', rfl, hA2, hg2, hk2⟩
        have HP := Lib.hid (sh_close HBO.out HSN.out HB3.out hA2 hg2 hk2)
        clear hA2 hg2 hk2
        go_wp2_with fail
        go_ret2
        exact HP.out
      · have hsn : shN L x (j : Int) = ⟨3, 0, a2, x, 0⟩ := by unfold shN; rw [hnd]; simp [hc]
        rw [hsn] at hok
        have HOK := Lib.hid hok; clear hok
        have HSN := Lib.hid hsn; clear hsn hnd
        have hcd : 0 < cmp L x a2 := by omega
        clear hc
        go_enter Tryd.func65, Tryd.ntmps65
        go_wp2_with fail
        refine (has2_any b (some ⟨g, 0, none⟩) L.length cap _ _ x (j : Int) _ ?_ ?_ ?_).mono ?_
        · go_simp
        · go_simp
        · go_simp
        rintro e w' ⟨rfl, rfl⟩
        rw [show (hasB L.length x && hasB L.length (j : Int)) = true from HBO.out]
        go_wp2_with fail
        refine (HC.out _ _).mono ?_
        rintro e w1 ⟨rfl, hb1⟩
        have HB3 := Lib.hid ((HB2.out _ _).trans (hb1.mono (HB2.out _ _).size))
        clear hb1
        go_wp2_with fail
        refine (mk_any b g bm cap lim L 3 0 a2 x 0 w1 (HA.out.below HB3.out) (HSH.out.below HB3.out) HOK.out).mono ?_
        rintro e w2 ⟨g', cap', rfl, hA2, hg2, hk2⟩
        have HP := Lib.hid (sh_close HBO.out HSN.out HB3.out hA2 hg2 hk2)
        clear hA2 hg2 hk2
        go_wp2_with fail
        go_ret2
        exact HP.out
    · have hsn : shN L x (j : Int) = ⟨4, 0, x, j, 0⟩ := by unfold shN; rw [hnd]; simp [hk]
      rw [hsn] at hok
      have HOK := Lib.hid hok; clear hok
      have HSN := Lib.hid hsn; clear hsn hnd
      have hkd : (k2 != 2) = true := by simpa using hk
      clear hk
      go_enter Tryd.func65, Tryd.ntmps65
      go_wp2_with fail
      refine (has2_any b (some ⟨g, 0, none⟩) L.length cap _ _ x (j : Int) _ ?_ ?_ ?_).mono ?_
      · go_simp
      · go_simp
      · go_simp
      rintro e w' ⟨rfl, rfl⟩
      rw [show (hasB L.length x && hasB L.length (j : Int)) = true from HBO.out]
      go_wp2_with fail
      refine (mk_any b g bm cap lim L 4 0 x j 0 _ (HA.out.below (HB2.out _ _)) (HSH.out.below (HB2.out _ _)) HOK.out).mono ?_
      rintro e w2 ⟨g', cap', rfl, hA2, hg2, hk2⟩
      have HP := Lib.hid (sh_close HBO.out HSN.out (HB2.out _ _) hA2 hg2 hk2)
      clear hA2 hg2 hk2
      go_wp2_with fail
      go_ret2
      exact HP.out
end Go.Proofs.YtlckajnbmkkpeaaDoor
