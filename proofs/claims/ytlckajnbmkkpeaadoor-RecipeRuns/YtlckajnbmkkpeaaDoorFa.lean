/- Layer 4: walks of the reference: ahead. -/
import Derived.Test.YtlckajnbmkkpeaaDoorEp
namespace Go.Proofs.YtlckajnbmkkpeaaDoor
open Go.RowKit Go.Maps

/-- What the reference's ahead answers. -/
def aheadB (u m : Nat) (s : Sp) : Bool :=
  (decide (1 ≤ u) || decide (s.a = 0)) && (decide (2 ≤ u) || decide (s.b = 0)) && (decide (3 ≤ u) || decide (s.c = 0)) &&
  (decide (u < 1) || (decide (0 ≤ s.a) && decide (s.a < m))) && (decide (u < 2) || (decide (0 ≤ s.b) && decide (s.b < m))) && (decide (u < 3) || (decide (0 ≤ s.c) && decide (s.c < m)))
def aggR (s : Sp) : Value := .agg #[.int .i64 s.op, .int .u64 s.n, .int .i64 s.a, .int .i64 s.b, .int .i64 s.c]

set_option maxRecDepth 100000 in
set_option maxHeartbeats 1000000 in
theorem ahead_0 (s : Sp) (m : Nat) (w : World) : Calls Tryd.prog 67 #[aggR s, .int .i64 0, .int .i64 m] w fun e w' => e = .returned (.bool (aheadB 0 m s)) ∧ Below w.heap.size w w' := by
  obtain ⟨op, n, a, b, c⟩ := s
  unfold aggR
  simp only
  · by_cases za : a = 0
    · have qa : (a != 0) = false := by simp [za]
      · by_cases zb : b = 0
        · have qb : (b != 0) = false := by simp [zb]
          · by_cases zc : c = 0
            · have qc : (c != 0) = false := by simp [zc]
              · go_enter Tryd.func67, Tryd.ntmps67
                go_wp2_with fail
                go_ret
                exact ⟨by simp [aheadB, za, zb, zc] <;> omega, (Below.refl _ _).alloc (Nat.le_refl _) _⟩
            · have qc : (c != 0) = true := by simpa using zc
              · go_enter Tryd.func67, Tryd.ntmps67
                go_wp2_with fail
                go_ret
                exact ⟨by simp [aheadB, za, zb, zc] <;> omega, (Below.refl _ _).alloc (Nat.le_refl _) _⟩
        · have qb : (b != 0) = true := by simpa using zb
          · go_enter Tryd.func67, Tryd.ntmps67
            go_wp2_with fail
            go_ret
            exact ⟨by simp [aheadB, za, zb] <;> omega, (Below.refl _ _).alloc (Nat.le_refl _) _⟩
    · have qa : (a != 0) = true := by simpa using za
      · go_enter Tryd.func67, Tryd.ntmps67
        go_wp2_with fail
        go_ret
        exact ⟨by simp [aheadB, za] <;> omega, (Below.refl _ _).alloc (Nat.le_refl _) _⟩

set_option maxRecDepth 100000 in
set_option maxHeartbeats 1000000 in
theorem ahead_1 (s : Sp) (m : Nat) (w : World) : Calls Tryd.prog 67 #[aggR s, .int .i64 1, .int .i64 m] w fun e w' => e = .returned (.bool (aheadB 1 m s)) ∧ Below w.heap.size w w' := by
  obtain ⟨op, n, a, b, c⟩ := s
  unfold aggR
  simp only
  · by_cases zb : b = 0
    · have qb : (b != 0) = false := by simp [zb]
      · by_cases zc : c = 0
        · have qc : (c != 0) = false := by simp [zc]
          · by_cases ga : 0 ≤ a
            · by_cases la : a < m
              · go_enter Tryd.func67, Tryd.ntmps67
                go_wp2_with fail
                go_ret
                exact ⟨by simp [aheadB, zb, zc, ga, la] <;> omega, (Below.refl _ _).alloc (Nat.le_refl _) _⟩
              · have la' : (m : Int) ≤ a := by omega
                · go_enter Tryd.func67, Tryd.ntmps67
                  go_wp2_with fail
                  go_ret
                  exact ⟨by simp [aheadB, zb, zc, ga, la] <;> omega, (Below.refl _ _).alloc (Nat.le_refl _) _⟩
            · have ga' : a < 0 := by omega
              · go_enter Tryd.func67, Tryd.ntmps67
                go_wp2_with fail
                go_ret
                exact ⟨by simp [aheadB, zb, zc, ga] <;> omega, (Below.refl _ _).alloc (Nat.le_refl _) _⟩
        · have qc : (c != 0) = true := by simpa using zc
          · go_enter Tryd.func67, Tryd.ntmps67
            go_wp2_with fail
            go_ret
            exact ⟨by simp [aheadB, zb, zc] <;> omega, (Below.refl _ _).alloc (Nat.le_refl _) _⟩
    · have qb : (b != 0) = true := by simpa using zb
      · go_enter Tryd.func67, Tryd.ntmps67
        go_wp2_with fail
        go_ret
        exact ⟨by simp [aheadB, zb] <;> omega, (Below.refl _ _).alloc (Nat.le_refl _) _⟩

set_option maxRecDepth 100000 in
set_option maxHeartbeats 1000000 in
theorem ahead_2 (s : Sp) (m : Nat) (w : World) : Calls Tryd.prog 67 #[aggR s, .int .i64 2, .int .i64 m] w fun e w' => e = .returned (.bool (aheadB 2 m s)) ∧ Below w.heap.size w w' := by
  obtain ⟨op, n, a, b, c⟩ := s
  unfold aggR
  simp only
  · by_cases zc : c = 0
    · have qc : (c != 0) = false := by simp [zc]
      · by_cases ga : 0 ≤ a
        · by_cases la : a < m
          · by_cases gb : 0 ≤ b
            · by_cases lb : b < m
              · go_enter Tryd.func67, Tryd.ntmps67
                go_wp2_with fail
                go_ret
                exact ⟨by simp [aheadB, zc, ga, la, gb, lb] <;> omega, (Below.refl _ _).alloc (Nat.le_refl _) _⟩
              · have lb' : (m : Int) ≤ b := by omega
                · go_enter Tryd.func67, Tryd.ntmps67
                  go_wp2_with fail
                  go_ret
                  exact ⟨by simp [aheadB, zc, ga, la, gb, lb] <;> omega, (Below.refl _ _).alloc (Nat.le_refl _) _⟩
            · have gb' : b < 0 := by omega
              · go_enter Tryd.func67, Tryd.ntmps67
                go_wp2_with fail
                go_ret
                exact ⟨by simp [aheadB, zc, ga, la, gb] <;> omega, (Below.refl _ _).alloc (Nat.le_refl _) _⟩
          · have la' : (m : Int) ≤ a := by omega
            · go_enter Tryd.func67, Tryd.ntmps67
              go_wp2_with fail
              go_ret
              exact ⟨by simp [aheadB, zc, ga, la] <;> omega, (Below.refl _ _).alloc (Nat.le_refl _) _⟩
        · have ga' : a < 0 := by omega
          · go_enter Tryd.func67, Tryd.ntmps67
            go_wp2_with fail
            go_ret
            exact ⟨by simp [aheadB, zc, ga] <;> omega, (Below.refl _ _).alloc (Nat.le_refl _) _⟩
    · have qc : (c != 0) = true := by simpa using zc
      · go_enter Tryd.func67, Tryd.ntmps67
        go_wp2_with fail
        go_ret
        exact ⟨by simp [aheadB, zc] <;> omega, (Below.refl _ _).alloc (Nat.le_refl _) _⟩

set_option maxRecDepth 100000 in
set_option maxHeartbeats 1000000 in
theorem ahead_3 (s : Sp) (m : Nat) (w : World) : Calls Tryd.prog 67 #[aggR s, .int .i64 3, .int .i64 m] w fun e w' => e = .returned (.bool (aheadB 3 m s)) ∧ Below w.heap.size w w' := by
  obtain ⟨op, n, a, b, c⟩ := s
  unfold aggR
  simp only
  · by_cases ga : 0 ≤ a
    · by_cases la : a < m
      · by_cases gb : 0 ≤ b
        · by_cases lb : b < m
          · by_cases gc : 0 ≤ c
            · by_cases lc : c < m
              · go_enter Tryd.func67, Tryd.ntmps67
                go_wp2_with fail
                go_ret
                exact ⟨by simp [aheadB, ga, la, gb, lb, gc, lc] <;> omega, (Below.refl _ _).alloc (Nat.le_refl _) _⟩
              · have lc' : (m : Int) ≤ c := by omega
                · go_enter Tryd.func67, Tryd.ntmps67
                  go_wp2_with fail
                  go_ret
                  exact ⟨by simp [aheadB, ga, la, gb, lb, gc, lc] <;> omega, (Below.refl _ _).alloc (Nat.le_refl _) _⟩
            · have gc' : c < 0 := by omega
              · go_enter Tryd.func67, Tryd.ntmps67
                go_wp2_with fail
                go_ret
                exact ⟨by simp [aheadB, ga, la, gb, lb, gc] <;> omega, (Below.refl _ _).alloc (Nat.le_refl _) _⟩
          · have lb' : (m : Int) ≤ b := by omega
            · go_enter Tryd.func67, Tryd.ntmps67
              go_wp2_with fail
              go_ret
              exact ⟨by simp [aheadB, ga, la, gb, lb] <;> omega, (Below.refl _ _).alloc (Nat.le_refl _) _⟩
        · have gb' : b < 0 := by omega
          · go_enter Tryd.func67, Tryd.ntmps67
            go_wp2_with fail
            go_ret
            exact ⟨by simp [aheadB, ga, la, gb] <;> omega, (Below.refl _ _).alloc (Nat.le_refl _) _⟩
      · have la' : (m : Int) ≤ a := by omega
        · go_enter Tryd.func67, Tryd.ntmps67
          go_wp2_with fail
          go_ret
          exact ⟨by simp [aheadB, ga, la] <;> omega, (Below.refl _ _).alloc (Nat.le_refl _) _⟩
    · have ga' : a < 0 := by omega
      · go_enter Tryd.func67, Tryd.ntmps67
        go_wp2_with fail
        go_ret
        exact ⟨by simp [aheadB, ga] <;> omega, (Below.refl _ _).alloc (Nat.le_refl _) _⟩
end Go.Proofs.YtlckajnbmkkpeaaDoor
