/- Walks: whether all refs of a list are held; the first number of a list that is not nought; the first parts in which two nodes differ. -/
import Derived.Test.YtemjhhjalnlmlaaDoorWa
namespace Go.Proofs.YtemjhhjalnlmlaaDoor
open Go.RowKit

set_option maxHeartbeats 400000 in
theorem hasAll_any (b : Nat) (s : Option Addr) (n cap : Nat) (g c : Nat) (xs : List Int) (w : World) (c0 : w.cell? ⟨b, 0, none⟩ = some (.slice s n cap)) (hm : xs.length ≤ 1000)
    (hx : ∀ i, i < xs.length → w.cell? ⟨g, i, none⟩ = some (.int .i64 (xs.getD i 0))) :
    Calls Tryd.prog 20 #[.pointer (some ⟨b, 0, none⟩), .slice (some ⟨g, 0, none⟩) xs.length c] w fun e w' => e = .returned (.bool (allB n xs)) ∧ w = w' := by
  have HX := Lib.hid hx; clear hx
  go_enter Tryd.func20, Tryd.ntmps20
  go_wp2_with fail
  go_loop [6, 9] (fun _ i => ∃ k : Nat, k ≤ xs.length ∧ i = .int .i64 k ∧ allB n (xs.take k) = true) (fun _ i => xs.length - (intOf i).toNat)
  case atStart => exact ⟨0, Nat.zero_le _, rfl, by simp [allB]⟩
  case round =>
    obtain ⟨k, hk, rfl, hall⟩ := hrel
    have HA := Lib.hid hall; clear hall
    by_cases hlt : k < xs.length
    · have hc := HX.out k hlt
      obtain ⟨x, hxk⟩ : ∃ x, xs.getD k 0 = x := ⟨_, rfl⟩
      rw [hxk] at hc
      cases hh : hasB n x
      · have hf := Lib.hid (allB_take_not hlt (by rw [hxk]; exact hh))
        have HH := Lib.hid hh; clear hh hxk
        go_wp2_with (go_at_call 29; refine (has_any b s n cap _ _ c0).mono ?_; rintro e w' ⟨rfl, rfl⟩; rw [HH.out])
        go_ret
        exact ⟨by rw [hf.out]; rfl, rfl⟩
      · have hf := Lib.hid (allB_take_succ hlt HA.out (by rw [hxk]; exact hh))
        have HH := Lib.hid hh; clear hh hxk
        go_wp2_with (go_at_call 29; refine (has_any b s n cap _ _ c0).mono ?_; rintro e w' ⟨rfl, rfl⟩; rw [HH.out])
        go_round
        case rel => exact ⟨k + 1, by omega, by go_num, hf.out⟩
        case measure => simp [intOf]; omega
    · have hf : allB n xs = true := by rw [← HA.out, List.take_of_length_le (by omega)]
      have HF := Lib.hid hf; clear hf
      go_wp2_with fail
      go_ret
      exact ⟨by rw [HF.out]; rfl, rfl⟩

set_option maxHeartbeats 400000 in
theorem or_any (g c : Nat) (xs : List Int) (w : World) (hm : xs.length ≤ 1000)
    (hx : ∀ i, i < xs.length → w.cell? ⟨g, i, none⟩ = some (.int .i64 (xs.getD i 0))) :
    Calls Tryd.prog 31 #[.slice (some ⟨g, 0, none⟩) xs.length c] w fun e w' => e = .returned (.int .i64 (orZ xs)) ∧ w = w' := by
  have HX := Lib.hid hx; clear hx
  go_enter Tryd.func31, Tryd.ntmps31
  go_wp2_with fail
  go_loop [5, 8] (fun _ i => ∃ k : Nat, k ≤ xs.length ∧ i = .int .i64 k ∧ ∀ j, j < k → xs.getD j 0 = 0) (fun _ i => xs.length - (intOf i).toNat)
  case atStart => exact ⟨0, Nat.zero_le _, rfl, by simp⟩
  case round =>
    obtain ⟨k, hk, rfl, hall⟩ := hrel
    have HA := Lib.hid hall; clear hall
    by_cases hlt : k < xs.length
    · have hc := HX.out k hlt
      obtain ⟨x, hxk⟩ : ∃ x, xs.getD k 0 = x := ⟨_, rfl⟩
      rw [hxk] at hc
      by_cases hh : x = 0
      · subst hh
        have HK := Lib.hid hxk; clear hxk
        go_wp2_with fail
        go_round
        case rel => exact ⟨k + 1, by omega, by go_num, fun j hj => by
          by_cases hjk : j < k
          · exact HA.out j hjk
          · obtain rfl : j = k := by omega
            exact HK.out⟩
        case measure => simp [intOf]; omega
      · have h1 : (x != 0) = true := by simpa using hh
        have hf := Lib.hid (orZ_take hlt HA.out (by rw [hxk]; exact hh))
        have HK := Lib.hid hxk; clear hxk hh
        go_wp2_with fail
        go_ret
        exact ⟨by rw [hf.out, HK.out]; rfl, rfl⟩
    · have hf : orZ xs = 0 := orZ_none fun j hj => HA.out j (by omega)
      have HF := Lib.hid hf; clear hf
      go_wp2_with fail
      go_ret
      exact ⟨by rw [HF.out]; rfl, rfl⟩

set_option maxHeartbeats 400000 in
theorem first_any (k1 n1 a1 b1 c1 k2 n2 a2 b2 c2 : Int) (w : World) :
    Calls Tryd.prog 34 #[.agg #[.int .i64 k1, .int .u64 n1, .int .i64 a1, .int .i64 b1, .int .i64 c1], .agg #[.int .i64 k2, .int .u64 n2, .int .i64 a2, .int .i64 b2, .int .i64 c2]] w fun e w' =>
      e = .returned (.tuple #[.int .i64 (if a1 = a2 then (if b1 = b2 then c1 else b1) else a1), .int .i64 (if a1 = a2 then (if b1 = b2 then c2 else b2) else a2)]) ∧ Below w.heap.size w w' := by
  have hb : ∀ o1 o2, ∀ n, Below w.heap.size w (((w.alloc o1).alloc o2).drewN n) := fun o1 o2 n =>
    ((Below.refl _ _).alloc (Nat.le_refl _) _ |>.alloc (by simp) _).trans ⟨rfl, rfl, rfl, Nat.le_refl _, fun _ _ => rfl⟩
  by_cases h1 : a1 = a2
  · subst h1
    by_cases h2 : b1 = b2
    · subst h2
      go_enter Tryd.func34, Tryd.ntmps34
      go_wp2
      go_quiet (fail)
      go_wp2
      go_ret2
      exact ⟨by simp, hb _ _ _⟩
    · have h3 : (b1 != b2) = true := by simpa using h2
      go_enter Tryd.func34, Tryd.ntmps34
      go_wp2
      go_quiet (fail)
      go_wp2
      go_ret2
      exact ⟨by simp, hb _ _ _⟩
  · have h3 : (a1 != a2) = true := by simpa using h1
    go_enter Tryd.func34, Tryd.ntmps34
    go_wp2
    go_quiet (fail)
    go_wp2
    go_ret2
    exact ⟨by simp, hb _ _ _⟩
end Go.Proofs.YtemjhhjalnlmlaaDoor
