/- Layer 10: the walks of cipher's small functions: New, next, sealed, check. -/
import Derived.Test.YtgjhhipkfglpgaaDoorQf
import Derived.Test.YtgjhhipkfglpgaaDoorJa
namespace Go.Proofs.YtgjhhipkfglpgaaDoor
open Go.RowKit

/-- A cipher's value. -/
def cfV (c : Cf) : Value := .agg #[.int .i64 c.k, .bool c.h, .int .u64 c.n]

set_option maxRecDepth 100000 in
set_option maxHeartbeats 400000 in
theorem cnew_any (k : Int) (w : World) : Calls Tryd.prog 19 #[.int .i64 k] w fun e w' => e = .returned (cfV ⟨k, true, 0⟩) ∧ Below w.heap.size w w' := by
  unfold cfV
  go_enter Tryd.func19, Tryd.ntmps19
  go_wp2
  refine bodyPost_ret (v := .agg #[.int .i64 k, .bool true, .int .u64 0]) (by simp [results, Tryd.results19, go_sem]) rfl ?_
  exact ⟨rfl, (Below.refl _ _).alloc (Nat.le_refl _) _⟩

set_option maxRecDepth 100000 in
set_option maxHeartbeats 400000 in
theorem next_any (c : Cf) (hn : u64ok c.n) (hl : c.n ≠ lastU) (hh : c.h = true) (w : World) : Calls Tryd.prog 34 #[cfV c] w fun e w' => e = .returned (cfV (nxt c)) ∧ Below w.heap.size w w' := by
  obtain ⟨k, h, n⟩ := c
  obtain rfl : h = true := hh
  have h1 : 0 ≤ n := hn.1
  have h2 : n + 1 ≤ 18446744073709551615 := by have := hn.2; unfold lastU at hl; simp only at this hl ⊢; omega
  have HW : IntKind.u64.wrap (n + 1) = n + 1 := by rw [IntKind.wrap_u64]; omega
  unfold cfV nxt
  clear hn hl
  go_enter Tryd.func34, Tryd.ntmps34
  go_wp2
  refine bodyPost_ret (v := .agg #[.int .i64 k, .bool true, .int .u64 (n + 1)]) (by simp [results, Tryd.results34, go_sem]) rfl ?_
  exact ⟨rfl, ((Below.refl _ _).alloc (Nat.le_refl _) _).alloc (by simp) _⟩

set_option maxRecDepth 100000 in
set_option maxHeartbeats 400000 in
theorem sealed_any (c : Cf) (ad p : Int) (w : World) : Calls Tryd.prog 33 #[cfV c, .int .i64 ad, .int .i64 p] w fun e w' => e = .returned (agg (slN c ad p)) ∧ Below w.heap.size w w' := by
  obtain ⟨k, h, n⟩ := c
  unfold cfV slN agg
  go_enter Tryd.func33, Tryd.ntmps33
  go_wp2
  refine bodyPost_ret (v := .agg #[.int .i64 7, .int .u64 n, .int .i64 k, .int .i64 ad, .int .i64 p]) (by simp [results, Tryd.results33, go_sem]) rfl ?_
  exact ⟨rfl, ((Below.refl _ _).alloc (Nat.le_refl _) _).alloc (by simp) _⟩

theorem has1_any (b : Nat) (s : Option Addr) (n cap : Nat) (g c : Nat) (x : Int) (w : World) (c0 : w.cell? ⟨b, 0, none⟩ = some (.slice s n cap))
    (h0 : w.cell? ⟨g, 0, none⟩ = some (.int .i64 x)) :
    Calls Tryd.prog 10 #[.pointer (some ⟨b, 0, none⟩), .slice (some ⟨g, 0, none⟩) 1 c] w fun e w' => e = .returned (.bool (hasB n x)) ∧ w = w' := by
  have h := hasAll_any b s n cap g c [x] w c0 (by simp) (fun i hi => by
    match i, hi with
    | 0, _ => exact h0)
  have e : allB n [x] = hasB n x := by simp [allB]
  rw [e] at h
  exact h

set_option maxRecDepth 100000 in
set_option maxHeartbeats 1000000 in
theorem check_any (b : Nat) (s : Option Addr) (m cap : Nat) (c : Cf) (ad x : Int) (w : World) (c0 : w.cell? ⟨b, 0, none⟩ = some (.slice s m cap)) (hb : b < w.heap.size) :
    Calls Tryd.prog 32 #[cfV c, .pointer (some ⟨b, 0, none⟩), .int .i64 ad, .int .i64 x] w fun e w' => e = .returned (.int .i64 (chk m c ad x)) ∧ Below w.heap.size w w' := by
  have lb1 : b < w.heap.size + 1 := by omega
  have lb2 : b < w.heap.size + 1 + 1 := by omega
  have BND : Hid (∀ o1 o2, Below w.heap.size w ((w.alloc o1).alloc o2)) := Lib.hid (fun o1 o2 => ((Below.refl _ _).alloc (Nat.le_refl _) _).alloc (by simp) _)
  have BND1 : Hid (∀ o1 o2 o3, Below w.heap.size w (((w.alloc o1).alloc o2).alloc o3)) := Lib.hid (fun o1 o2 o3 => (((Below.refl _ _).alloc (Nat.le_refl _) _).alloc (by simp) _).alloc (by simp; omega) _)
  obtain ⟨k, h, n⟩ := c
  cases h2 : (hasB m ad && hasB m x)
  · rw [chk_ref h2]
    have HH := Lib.hid h2; clear h2
    unfold cfV
    go_enter Tryd.func32, Tryd.ntmps32
    go_wp2_with fail
    go_at_call 10
    refine (has2_any b s m cap _ _ ad x _ ?_ ?_ ?_).mono ?_
    · go_simp
    · go_simp
    · go_simp
    rintro e w1 ⟨rfl, rfl⟩
    rw [HH.out]
    go_wp2_with fail
    go_ret
    exact ⟨rfl, BND.out _ _⟩
  cases h
  · rw [chk_none h2 rfl]
    have HH := Lib.hid h2; clear h2
    unfold cfV
    go_enter Tryd.func32, Tryd.ntmps32
    go_wp2_with fail
    go_at_call 10
    refine (has2_any b s m cap _ _ ad x _ ?_ ?_ ?_).mono ?_
    · go_simp
    · go_simp
    · go_simp
    rintro e w1 ⟨rfl, rfl⟩
    rw [HH.out]
    go_wp2_with fail
    go_ret
    exact ⟨rfl, BND.out _ _⟩
  cases hk : hasB m k
  · rw [chk_key h2 rfl hk]
    have HH := Lib.hid h2; clear h2
    have HK := Lib.hid hk; clear hk
    unfold cfV
    go_enter Tryd.func32, Tryd.ntmps32
    go_wp2_with fail
    go_at_call 10
    refine (has2_any b s m cap _ _ ad x _ ?_ ?_ ?_).mono ?_
    · go_simp
    · go_simp
    · go_simp
    rintro e w1 ⟨rfl, rfl⟩
    rw [HH.out]
    go_wp2_with fail
    go_wp2_with fail
    go_at_call 10
    refine (has1_any b s m cap _ _ k _ ?_ ?_).mono ?_
    · go_simp
    · go_simp
    rintro e w2 ⟨rfl, rfl⟩
    rw [HK.out]
    go_wp2_with fail
    go_ret
    exact ⟨rfl, BND1.out _ _ _⟩
  by_cases hl : n = lastU
  · rw [chk_last h2 rfl hk hl]
    have hl : n = 18446744073709551615 := hl
    subst hl
    have HH := Lib.hid h2; clear h2
    have HK := Lib.hid hk; clear hk
    unfold cfV
    go_enter Tryd.func32, Tryd.ntmps32
    go_wp2_with fail
    go_at_call 10
    refine (has2_any b s m cap _ _ ad x _ ?_ ?_ ?_).mono ?_
    · go_simp
    · go_simp
    · go_simp
    rintro e w1 ⟨rfl, rfl⟩
    rw [HH.out]
    go_wp2_with fail
    go_wp2_with fail
    go_at_call 10
    refine (has1_any b s m cap _ _ k _ ?_ ?_).mono ?_
    · go_simp
    · go_simp
    rintro e w2 ⟨rfl, rfl⟩
    rw [HK.out]
    go_wp2_with fail
    go_ret
    exact ⟨rfl, BND1.out _ _ _⟩
  · rw [chk_good h2 rfl hk hl]
    have hl2 : (n == 18446744073709551615) = false := by unfold lastU at hl; simpa using hl
    have HH := Lib.hid h2; clear h2
    have HK := Lib.hid hk; clear hk hl
    unfold cfV
    go_enter Tryd.func32, Tryd.ntmps32
    go_wp2_with fail
    go_at_call 10
    refine (has2_any b s m cap _ _ ad x _ ?_ ?_ ?_).mono ?_
    · go_simp
    · go_simp
    · go_simp
    rintro e w1 ⟨rfl, rfl⟩
    rw [HH.out]
    go_wp2_with fail
    go_wp2_with fail
    go_at_call 10
    refine (has1_any b s m cap _ _ k _ ?_ ?_).mono ?_
    · go_simp
    · go_simp
    rintro e w2 ⟨rfl, rfl⟩
    rw [HK.out]
    go_wp2_with fail
    go_ret
    exact ⟨rfl, BND1.out _ _ _⟩
end Go.Proofs.YtgjhhipkfglpgaaDoor
