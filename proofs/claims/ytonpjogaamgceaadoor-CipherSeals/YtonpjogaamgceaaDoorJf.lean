/- Layer 10: the reference's walks: may, Seal, Open, Rekey. -/
import Derived.Test.YtonpjogaamgceaaDoorQg
import Derived.Test.YtonpjogaamgceaaDoorJd
import Derived.Test.YtonpjogaamgceaaDoorJe
namespace Go.Proofs.YtonpjogaamgceaaDoor
open Go.RowKit

set_option maxRecDepth 100000 in
set_option maxHeartbeats 2000000 in
theorem may_any (lim : Int) (s : Option Addr) (m cap : Nat) (c : Cf) (ad x : Int) (w : World) :
    Calls Tryd.prog 31 #[.agg #[.int .i64 lim, .slice s m cap], cfV c, .int .i64 ad, .int .i64 x] w fun e w' => e = .returned (.int .i64 (chk m c ad x)) ∧ Below w.heap.size w w' := by
  obtain ⟨k, h, n⟩ := c
  cases h1 : hasB m ad
  · rw [chk_ref (by rw [h1]; rfl)]
    have H1 := Lib.hid h1; clear h1
    unfold cfV
    go_enter Tryd.func31, Tryd.ntmps31
    go_wp2_with fail
    go_at_call 37
    refine (refHas_any lim s m cap ad _).mono ?_
    rintro e w1 ⟨rfl, rfl⟩
    rw [H1.out]
    go_wp2_with fail
    go_ret
    exact ⟨rfl, (((Below.refl _ _).alloc (Nat.le_refl _) _).alloc (by simp) _).alloc (by simp; omega) _⟩
  cases h2 : hasB m x
  · rw [chk_ref (by rw [h1, h2]; rfl)]
    have H1 := Lib.hid h1; clear h1
    have H2 := Lib.hid h2; clear h2
    unfold cfV
    go_enter Tryd.func31, Tryd.ntmps31
    go_wp2_with fail
    go_at_call 37
    refine (refHas_any lim s m cap ad _).mono ?_
    rintro e w1 ⟨rfl, rfl⟩
    rw [H1.out]
    go_wp2_with fail
    go_at_call 37
    refine (refHas_any lim s m cap x _).mono ?_
    rintro e w1 ⟨rfl, rfl⟩
    rw [H2.out]
    go_wp2_with fail
    go_ret
    exact ⟨rfl, ((((Below.refl _ _).alloc (Nat.le_refl _) _).alloc (by simp) _).alloc (by simp; omega) _).alloc (by simp; omega) _⟩
  have h12 : (hasB m ad && hasB m x) = true := by rw [h1, h2]; rfl
  have H1 := Lib.hid h1; clear h1
  have H2 := Lib.hid h2; clear h2
  cases h
  · rw [chk_none h12 rfl]
    clear h12
    unfold cfV
    go_enter Tryd.func31, Tryd.ntmps31
    go_wp2_with fail
    go_at_call 37
    refine (refHas_any lim s m cap ad _).mono ?_
    rintro e w1 ⟨rfl, rfl⟩
    rw [H1.out]
    go_wp2_with fail
    go_at_call 37
    refine (refHas_any lim s m cap x _).mono ?_
    rintro e w1 ⟨rfl, rfl⟩
    rw [H2.out]
    go_wp2_with fail
    go_ret
    exact ⟨rfl, ((((Below.refl _ _).alloc (Nat.le_refl _) _).alloc (by simp) _).alloc (by simp; omega) _).alloc (by simp; omega) _⟩
  cases hk : hasB m k
  · rw [chk_key h12 rfl hk]
    clear h12
    have HK := Lib.hid hk; clear hk
    unfold cfV
    go_enter Tryd.func31, Tryd.ntmps31
    go_wp2_with fail
    go_at_call 37
    refine (refHas_any lim s m cap ad _).mono ?_
    rintro e w1 ⟨rfl, rfl⟩
    rw [H1.out]
    go_wp2_with fail
    go_at_call 37
    refine (refHas_any lim s m cap x _).mono ?_
    rintro e w1 ⟨rfl, rfl⟩
    rw [H2.out]
    go_wp2_with fail
    go_at_call 37
    refine (refHas_any lim s m cap k _).mono ?_
    rintro e w1 ⟨rfl, rfl⟩
    rw [HK.out]
    go_wp2_with fail
    go_ret
    exact ⟨rfl, (((((Below.refl _ _).alloc (Nat.le_refl _) _).alloc (by simp) _).alloc (by simp; omega) _).alloc (by simp; omega) _).alloc (by simp; omega) _⟩
  by_cases hl : n = lastU
  · rw [chk_last h12 rfl hk hl]
    clear h12
    have hl : n = 18446744073709551615 := hl
    subst hl
    have HK := Lib.hid hk; clear hk
    unfold cfV
    go_enter Tryd.func31, Tryd.ntmps31
    go_wp2_with fail
    go_at_call 37
    refine (refHas_any lim s m cap ad _).mono ?_
    rintro e w1 ⟨rfl, rfl⟩
    rw [H1.out]
    go_wp2_with fail
    go_at_call 37
    refine (refHas_any lim s m cap x _).mono ?_
    rintro e w1 ⟨rfl, rfl⟩
    rw [H2.out]
    go_wp2_with fail
    go_at_call 37
    refine (refHas_any lim s m cap k _).mono ?_
    rintro e w1 ⟨rfl, rfl⟩
    rw [HK.out]
    go_wp2_with fail
    go_ret
    exact ⟨rfl, (((((Below.refl _ _).alloc (Nat.le_refl _) _).alloc (by simp) _).alloc (by simp; omega) _).alloc (by simp; omega) _).alloc (by simp; omega) _⟩
  · rw [chk_good h12 rfl hk hl]
    have hl2 : (n == 18446744073709551615) = false := by unfold lastU at hl; simpa using hl
    clear h12 hl
    have HK := Lib.hid hk; clear hk
    unfold cfV
    go_enter Tryd.func31, Tryd.ntmps31
    go_wp2_with fail
    go_at_call 37
    refine (refHas_any lim s m cap ad _).mono ?_
    rintro e w1 ⟨rfl, rfl⟩
    rw [H1.out]
    go_wp2_with fail
    go_at_call 37
    refine (refHas_any lim s m cap x _).mono ?_
    rintro e w1 ⟨rfl, rfl⟩
    rw [H2.out]
    go_wp2_with fail
    go_at_call 37
    refine (refHas_any lim s m cap k _).mono ?_
    rintro e w1 ⟨rfl, rfl⟩
    rw [HK.out]
    go_wp2_with fail
    go_ret
    exact ⟨rfl, (((((Below.refl _ _).alloc (Nat.le_refl _) _).alloc (by simp) _).alloc (by simp; omega) _).alloc (by simp; omega) _).alloc (by simp; omega) _⟩
end Go.Proofs.YtonpjogaamgceaaDoor
