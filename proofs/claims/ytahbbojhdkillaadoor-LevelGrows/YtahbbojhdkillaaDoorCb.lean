/- Layer 7: a state in memory; walks of the small functions. -/
import Derived.Test.YtahbbojhdkillaaDoorMk
import Derived.Test.YtahbbojhdkillaaDoorCa
import Derived.ChangeKeysEq
namespace Go.Proofs.YtahbbojhdkillaaDoor
open Go.RowKit Go.Shelf

theorem gw_set (w : World) (g o : Nat) (v : Value) : w.grownBy (w.setCell ⟨g, o, none⟩ v) (some g) :=
  ⟨rfl, rfl, rfl, by simp [World.setCell], fun k _ hne => Below.heap_setCell _ _ _ _ (fun e => hne (by simp at e; rw [e]))⟩
theorem gw_trans {a b c : World} {r : Option Nat} (h1 : a.grownBy b r) (h2 : b.grownBy c r) : a.grownBy c r :=
  ⟨h2.os.trans h1.os, h2.tape.trans h1.tape, h2.output.trans h1.output, Nat.le_trans h1.size h2.size, fun k hk hr => (h2.block k (Nat.lt_of_lt_of_le hk h1.size) hr).trans (h1.block k hk hr)⟩
/-- The keys that DH tokens take. -/
def kyL : List Int := [0, 0, 0, 0, 0, 0, 1, 1, 1, 2, 2, 1, 2, 2, 0, 0]
def Ky (w : World) : Prop := ∀ i, i < 16 → w.cell? ⟨4, i, none⟩ = some (.int .i64 (kyL.getD i 0))
theorem Ky.keep {w w' : World} (h : Ky w) (hb : Below w.heap.size w w') : Ky w' := fun i hi => by
  rw [hb.cell (p := ⟨4, i, none⟩) (World.block_lt_of_cell? _ _ (h i hi))]; exact h i hi
/-- A state's cells. -/
def csA (f : Cs) : Array Value := #[.bool (f 0), .bool (f 1), .bool (f 2), .bool (f 3), .bool (f 4), .bool (f 5), .bool (f 6), .bool (f 7), .bool (f 8), .bool (f 9), .bool (f 10), .bool (f 11), .bool (f 12), .bool (f 13), .bool (f 14)]
def StV (w : World) (b : Nat) (f : Cs) : Prop := w.heap[b]? = some (.cells (csA f) 97 (0, 0))
theorem csA_at (f : Cs) : ∀ i, i < 15 → (csA f)[i]? = some (.bool (f i))
  | 0, _ => rfl | 1, _ => rfl | 2, _ => rfl | 3, _ => rfl | 4, _ => rfl | 5, _ => rfl | 6, _ => rfl | 7, _ => rfl
  | 8, _ => rfl | 9, _ => rfl | 10, _ => rfl | 11, _ => rfl | 12, _ => rfl | 13, _ => rfl | 14, _ => rfl
  | k + 15, h => absurd h (by omega)
theorem csA_up (f : Cs) : ∀ i, i < 15 → (csA f).set! i (.bool true) = csA (up f i)
  | 0, _ => rfl | 1, _ => rfl | 2, _ => rfl | 3, _ => rfl | 4, _ => rfl | 5, _ => rfl | 6, _ => rfl | 7, _ => rfl
  | 8, _ => rfl | 9, _ => rfl | 10, _ => rfl | 11, _ => rfl | 12, _ => rfl | 13, _ => rfl | 14, _ => rfl
  | k + 15, h => absurd h (by omega)
theorem StV.at {w : World} {b : Nat} {f : Cs} (h : StV w b f) (i : Nat) (hi : i < 15) : w.cell? ⟨b, i, none⟩ = some (.bool (f i)) := (cell_of_row w b i _ _ _ h).trans (csA_at f i hi)
theorem StV.fr {w : World} {b : Nat} {f : Cs} (h : StV w b f) (i : Nat) : w.frozen? ⟨b, i, none⟩ = false := frozen_of_row _ _ _ _ _ h
theorem StV.set {w : World} {b : Nat} {f : Cs} (h : StV w b f) (i : Nat) (hi : i < 15) : StV (w.setCell ⟨b, i, none⟩ (.bool true)) b (up f i) := by
  unfold StV at h ⊢
  rw [← csA_up f i hi]
  simp only [World.setCell, Array.getElem?_modify, if_true, h]
  rfl
theorem StV.keep {w w' : World} {b : Nat} {f : Cs} (h : StV w b f) (hb : Below w.heap.size w w') : StV w' b f := (hb.block _ (lt_of_heap h)).trans h

set_option maxRecDepth 100000 in
set_option maxHeartbeats 400000 in
theorem isKey_any (t : Int) (w : World) : Calls Tryd.prog 55 #[.int .i64 t] w fun e w' => e = .returned (.bool (decide (t = 1) || decide (t = 2))) ∧ w = w' := by
  go_enter Tryd.func55, Tryd.ntmps55
  go_wp2
  all_goals go_ret
  all_goals refine ⟨?_, rfl⟩
  all_goals simp_all
  all_goals (rw [Bool.eq_iff_iff]; simp; try omega)
set_option maxRecDepth 100000 in
set_option maxHeartbeats 400000 in
theorem isRole_any (t : Int) (w : World) : Calls Tryd.prog 67 #[.int .i64 t] w fun e w' => e = .returned (.bool (decide (t = 0) || decide (t = 1))) ∧ w = w' := by
  go_enter Tryd.func67, Tryd.ntmps67
  go_wp2
  all_goals go_ret
  all_goals refine ⟨?_, rfl⟩
  all_goals simp_all
  all_goals (rw [Bool.eq_iff_iff]; simp; try omega)

set_option maxRecDepth 100000 in
theorem eq2 (a b c d : Int) (w : World) : (Op.equalIn 10000 124 (.agg #[.int .i64 a, .int .i64 b]) (.agg #[.int .i64 c, .int .i64 d])).run Tryd.prog w = .ok (a == c && b == d) w := by
  have hc : Tryd.prog.cellsOf 3 = 1 := by kernel_rfl
  have h0 : ∀ (x y : Int) w, (part 3 #[.int .i64 x, .int .i64 y] 0).run Tryd.prog w = .ok (.int .i64 x) w := fun _ _ _ => by kernel_rfl
  have h1 : ∀ (x y : Int) w, (part 3 #[.int .i64 x, .int .i64 y] 1).run Tryd.prog w = .ok (.int .i64 y) w := fun _ _ _ => by kernel_rfl
  have hE : ∀ (x y : Int) w, (Op.equalIn 9999 3 (.int .i64 x) (.int .i64 y)).run Tryd.prog w = .ok (x == y) w := fun x y w => run_equalIn_int w 9998 _ _ _ _ _ Tryd.underlying3
  obtain ⟨i, hi⟩ := Option.isSome_iff_exists.1 (show (Tryd.prog.info? 3).isSome = true by kernel_rfl)
  rw [run_equalIn_array w 9999 _ _ Tryd.underlying124 hi, hc]
  simp only [List.range, List.range.loop, Op.eqItems, Sem.run_bind, Nat.zero_mul, Nat.one_mul, h0, hE, Result.andThen_ok]
  cases (a == c) <;> simp [h1, hE] <;> by_cases e : b = d <;> simp [e]
def shB (t : Int) : Bool := decide (3 ≤ t) && decide (t ≤ 6)
set_option maxRecDepth 100000 in
set_option maxHeartbeats 4000000 in
theorem isShared_any (t : Int) (h0 : 0 ≤ t) (h8 : t < 8) (w : World) (hk : Ky w) : Calls Tryd.prog 68 #[.int .i64 t] w fun e w' => e = .returned (.bool (shB t)) ∧ w = w' := by
  have k0 : w.cell? ⟨4, 0, none⟩ = some (.int .i64 0) := hk 0 (by omega)
  have k1 : w.cell? ⟨4, 1, none⟩ = some (.int .i64 0) := hk 1 (by omega)
  have k2 : w.cell? ⟨4, 2, none⟩ = some (.int .i64 0) := hk 2 (by omega)
  have k3 : w.cell? ⟨4, 3, none⟩ = some (.int .i64 0) := hk 3 (by omega)
  have k4 : w.cell? ⟨4, 4, none⟩ = some (.int .i64 0) := hk 4 (by omega)
  have k5 : w.cell? ⟨4, 5, none⟩ = some (.int .i64 0) := hk 5 (by omega)
  have k6 : w.cell? ⟨4, 6, none⟩ = some (.int .i64 1) := hk 6 (by omega)
  have k7 : w.cell? ⟨4, 7, none⟩ = some (.int .i64 1) := hk 7 (by omega)
  have k8 : w.cell? ⟨4, 8, none⟩ = some (.int .i64 1) := hk 8 (by omega)
  have k9 : w.cell? ⟨4, 9, none⟩ = some (.int .i64 2) := hk 9 (by omega)
  have k10 : w.cell? ⟨4, 10, none⟩ = some (.int .i64 2) := hk 10 (by omega)
  have k11 : w.cell? ⟨4, 11, none⟩ = some (.int .i64 1) := hk 11 (by omega)
  have k12 : w.cell? ⟨4, 12, none⟩ = some (.int .i64 2) := hk 12 (by omega)
  have k13 : w.cell? ⟨4, 13, none⟩ = some (.int .i64 2) := hk 13 (by omega)
  have k14 : w.cell? ⟨4, 14, none⟩ = some (.int .i64 0) := hk 14 (by omega)
  have k15 : w.cell? ⟨4, 15, none⟩ = some (.int .i64 0) := hk 15 (by omega)
  clear hk
  have q := eq2
  have ht : t = 0 ∨ t = 1 ∨ t = 2 ∨ t = 3 ∨ t = 4 ∨ t = 5 ∨ t = 6 ∨ t = 7 := by omega
  clear h0 h8
  rcases ht with rfl | rfl | rfl | rfl | rfl | rfl | rfl | rfl
  all_goals
    go_enter Tryd.func68, Tryd.ntmps68
    go_wp2_with fail
    go_ret
    exact ⟨rfl, rfl⟩

set_option maxRecDepth 100000 in
set_option maxHeartbeats 4000000 in
theorem process_any (b : Nat) (f : Cs) (r t : Int) (hr : r = 0 ∨ r = 1) (ht : isTok t = true) (w : World) (hs : StV w b f) : Calls Tryd.prog 56 #[.pointer (some ⟨b, 0, none⟩), .int .i64 r, .int .i64 t] w fun e w' => e = .returned (.tuple #[]) ∧ StV w' b (pc f r t) ∧ w.grownBy w' (some b) := by
  have hl := lt_of_heap hs
  have HS := Lib.hid hs; clear hs
  have ht := tok_cases ht
  rcases hr with rfl | rfl <;> rcases ht with rfl | rfl | rfl | rfl | rfl | rfl | rfl
  · have a := HS.out.at 8 (by omega)
    have z := HS.out.fr 8
    have a2 := HS.out.at 2 (by omega)
    have z2 := HS.out.fr 2
    go_enter Tryd.func56, Tryd.ntmps56
    go_wp2_with (first
      | (go_at_call 55; refine (isKey_any _ _).mono ?_; rintro e w1 ⟨rfl, rfl⟩)
      | (go_at_call 67; refine (isRole_any _ _).mono ?_; rintro e w1 ⟨rfl, rfl⟩))
    go_end0
    exact ⟨rfl, (HS.out.set 8 (by omega)).set 2 (by omega), gw_trans (gw_set _ _ _ _) (gw_set _ _ _ _)⟩
  · have a := HS.out.at 9 (by omega)
    have z := HS.out.fr 9
    have a2 := HS.out.at 3 (by omega)
    have z2 := HS.out.fr 3
    go_enter Tryd.func56, Tryd.ntmps56
    go_wp2_with (first
      | (go_at_call 55; refine (isKey_any _ _).mono ?_; rintro e w1 ⟨rfl, rfl⟩)
      | (go_at_call 67; refine (isRole_any _ _).mono ?_; rintro e w1 ⟨rfl, rfl⟩))
    go_end0
    exact ⟨rfl, (HS.out.set 9 (by omega)).set 3 (by omega), gw_trans (gw_set _ _ _ _) (gw_set _ _ _ _)⟩
  · have a := HS.out.at 10 (by omega)
    have z := HS.out.fr 10
    go_enter Tryd.func56, Tryd.ntmps56
    go_wp2_with (first
      | (go_at_call 55; refine (isKey_any _ _).mono ?_; rintro e w1 ⟨rfl, rfl⟩))
    go_end0
    exact ⟨rfl, HS.out.set 10 (by omega), gw_set _ _ _ _⟩
  · have a := HS.out.at 11 (by omega)
    have z := HS.out.fr 11
    go_enter Tryd.func56, Tryd.ntmps56
    go_wp2_with (first
      | (go_at_call 55; refine (isKey_any _ _).mono ?_; rintro e w1 ⟨rfl, rfl⟩))
    go_end0
    exact ⟨rfl, HS.out.set 11 (by omega), gw_set _ _ _ _⟩
  · have a := HS.out.at 12 (by omega)
    have z := HS.out.fr 12
    go_enter Tryd.func56, Tryd.ntmps56
    go_wp2_with (first
      | (go_at_call 55; refine (isKey_any _ _).mono ?_; rintro e w1 ⟨rfl, rfl⟩))
    go_end0
    exact ⟨rfl, HS.out.set 12 (by omega), gw_set _ _ _ _⟩
  · have a := HS.out.at 13 (by omega)
    have z := HS.out.fr 13
    go_enter Tryd.func56, Tryd.ntmps56
    go_wp2_with (first
      | (go_at_call 55; refine (isKey_any _ _).mono ?_; rintro e w1 ⟨rfl, rfl⟩))
    go_end0
    exact ⟨rfl, HS.out.set 13 (by omega), gw_set _ _ _ _⟩
  · have a := HS.out.at 14 (by omega)
    have z := HS.out.fr 14
    go_enter Tryd.func56, Tryd.ntmps56
    go_wp2_with (first
      | (go_at_call 55; refine (isKey_any _ _).mono ?_; rintro e w1 ⟨rfl, rfl⟩))
    go_end0
    exact ⟨rfl, HS.out.set 14 (by omega), gw_set _ _ _ _⟩
  · have a := HS.out.at 8 (by omega)
    have z := HS.out.fr 8
    have a2 := HS.out.at 5 (by omega)
    have z2 := HS.out.fr 5
    go_enter Tryd.func56, Tryd.ntmps56
    go_wp2_with (first
      | (go_at_call 55; refine (isKey_any _ _).mono ?_; rintro e w1 ⟨rfl, rfl⟩)
      | (go_at_call 67; refine (isRole_any _ _).mono ?_; rintro e w1 ⟨rfl, rfl⟩))
    go_end0
    exact ⟨rfl, (HS.out.set 8 (by omega)).set 5 (by omega), gw_trans (gw_set _ _ _ _) (gw_set _ _ _ _)⟩
  · have a := HS.out.at 9 (by omega)
    have z := HS.out.fr 9
    have a2 := HS.out.at 6 (by omega)
    have z2 := HS.out.fr 6
    go_enter Tryd.func56, Tryd.ntmps56
    go_wp2_with (first
      | (go_at_call 55; refine (isKey_any _ _).mono ?_; rintro e w1 ⟨rfl, rfl⟩)
      | (go_at_call 67; refine (isRole_any _ _).mono ?_; rintro e w1 ⟨rfl, rfl⟩))
    go_end0
    exact ⟨rfl, (HS.out.set 9 (by omega)).set 6 (by omega), gw_trans (gw_set _ _ _ _) (gw_set _ _ _ _)⟩
  · have a := HS.out.at 10 (by omega)
    have z := HS.out.fr 10
    go_enter Tryd.func56, Tryd.ntmps56
    go_wp2_with (first
      | (go_at_call 55; refine (isKey_any _ _).mono ?_; rintro e w1 ⟨rfl, rfl⟩))
    go_end0
    exact ⟨rfl, HS.out.set 10 (by omega), gw_set _ _ _ _⟩
  · have a := HS.out.at 11 (by omega)
    have z := HS.out.fr 11
    go_enter Tryd.func56, Tryd.ntmps56
    go_wp2_with (first
      | (go_at_call 55; refine (isKey_any _ _).mono ?_; rintro e w1 ⟨rfl, rfl⟩))
    go_end0
    exact ⟨rfl, HS.out.set 11 (by omega), gw_set _ _ _ _⟩
  · have a := HS.out.at 12 (by omega)
    have z := HS.out.fr 12
    go_enter Tryd.func56, Tryd.ntmps56
    go_wp2_with (first
      | (go_at_call 55; refine (isKey_any _ _).mono ?_; rintro e w1 ⟨rfl, rfl⟩))
    go_end0
    exact ⟨rfl, HS.out.set 12 (by omega), gw_set _ _ _ _⟩
  · have a := HS.out.at 13 (by omega)
    have z := HS.out.fr 13
    go_enter Tryd.func56, Tryd.ntmps56
    go_wp2_with (first
      | (go_at_call 55; refine (isKey_any _ _).mono ?_; rintro e w1 ⟨rfl, rfl⟩))
    go_end0
    exact ⟨rfl, HS.out.set 13 (by omega), gw_set _ _ _ _⟩
  · have a := HS.out.at 14 (by omega)
    have z := HS.out.fr 14
    go_enter Tryd.func56, Tryd.ntmps56
    go_wp2_with (first
      | (go_at_call 55; refine (isKey_any _ _).mono ?_; rintro e w1 ⟨rfl, rfl⟩))
    go_end0
    exact ⟨rfl, HS.out.set 14 (by omega), gw_set _ _ _ _⟩
end Go.Proofs.YtahbbojhdkillaaDoor
