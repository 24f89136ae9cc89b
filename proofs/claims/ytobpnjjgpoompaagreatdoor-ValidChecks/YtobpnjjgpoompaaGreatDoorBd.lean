/- Layer 6: the walk of canBePre. -/
import Derived.Test.YtobpnjjgpoompaaGreatDoorBc
namespace Go.Proofs.YtobpnjjgpoompaaGreatDoor
open Go.RowKit Go.Shelf

/-- A row of one or two ints that was just laid. -/
theorem ints_new1 (w : World) (a : Int) : IntsV (w.alloc (.cells #[.int .i64 a] 3)) (some ⟨w.heap.size, 0, none⟩) [a] := fun _ => ⟨_, _, rfl, fun i hi => by
  match i, hi with
  | 0, _ => rw [cell_of_row _ _ _ _ _ _ (heap_alloc_new w _)]; rfl⟩
theorem ints_new2 (w : World) (a b : Int) : IntsV (w.alloc (.cells #[.int .i64 a, .int .i64 b] 3)) (some ⟨w.heap.size, 0, none⟩) [a, b] := fun _ => ⟨_, _, rfl, fun i hi => by
  match i, hi with
  | 0, _ => rw [cell_of_row _ _ _ _ _ _ (heap_alloc_new w _)]; rfl
  | 1, _ => rw [cell_of_row _ _ _ _ _ _ (heap_alloc_new w _)]; rfl⟩
def preB (l : List Int) : Bool := decide (l = [1]) || decide (l = [2]) || decide (l = [1, 2])
set_option maxRecDepth 100000 in
set_option maxHeartbeats 4000000 in
theorem canBePre_any (s : Option Addr) (c : Nat) (l : List Int) (w : World) (hi : IntsV w s l) (hl : l.length ≤ 4096) : Calls Tryz.prog 82 #[.slice s l.length c] w fun e w' => e = .returned (.bool (preB l)) ∧ Below w.heap.size w w' := by
  have HI := Lib.hid hi; clear hi
  have HQ := Lib.hid (fun wx (hb : Below w.heap.size w wx) (a : Int) => equal_any s c l (some ⟨wx.heap.size, 0, none⟩) 1 [a] _ (HI.out.keep (hb.alloc hb.size _)) (ints_new1 wx a) (by omega) (by simp))
  have HQ2 := Lib.hid (fun wx (hb : Below w.heap.size w wx) => equal_any s c l (some ⟨wx.heap.size, 0, none⟩) 2 [1, 2] _ (HI.out.keep (hb.alloc hb.size _)) (ints_new2 wx 1 2) (by omega) (by simp))
  simp only [List.length_cons, List.length_nil, Nat.zero_add, Nat.reduceAdd] at HQ HQ2
  unfold preB
  by_cases h1 : l = [1]
  · have e1 : decide (l = [1]) = true := by simpa using h1
    have E1 := Lib.hid e1
    clear h1 e1
    go_enter Tryz.func82, Tryz.ntmps82
    go_wp2_with (go_at_call 95; refine (HQ.out _ (Below.refl _ _) 1).mono ?_; rintro e w1 ⟨rfl, hb1⟩; rw [E1.out])
    go_ret
    exact ⟨by rw [E1.out]; rfl, ((Below.refl _ _).alloc (Nat.le_refl _) _).trans (hb1.mono (by simp))⟩
  · have e1 : decide (l = [1]) = false := by simpa using h1
    by_cases h2 : l = [2]
    · have e2 : decide (l = [2]) = true := by simpa using h2
      have E1 := Lib.hid e1
      have E2 := Lib.hid e2
      clear h1 h2 e1 e2
      go_enter Tryz.func82, Tryz.ntmps82
      go_wp2_with (first
        | (have _k := HB1; go_at_call 95; refine (HQ.out _ HB1.out 2).mono ?_; rintro e w2 ⟨rfl, hb2⟩; rw [E2.out]; have HB2 := Lib.hid (HB1.out.trans ((((Below.refl _ _).alloc (Nat.le_refl _) _).trans (hb2.mono (by simp))).mono HB1.out.size)); clear hb2)
        | (go_at_call 95; refine (HQ.out _ (Below.refl _ _) 1).mono ?_; rintro e w1 ⟨rfl, hb1⟩; rw [E1.out]; have HB1 := Lib.hid (((Below.refl w.heap.size w).alloc (Nat.le_refl _) _).trans (hb1.mono (by simp))); clear hb1))
      go_ret
      exact ⟨by rw [E1.out, E2.out]; rfl, HB2.out⟩
    · have e2 : decide (l = [2]) = false := by simpa using h2
      have E1 := Lib.hid e1
      have E2 := Lib.hid e2
      clear h1 h2 e1 e2
      obtain ⟨b3, hb3⟩ : ∃ b, b = decide (l = [1, 2]) := ⟨_, rfl⟩
      rw [← hb3] at HQ2 ⊢
      clear hb3
      go_enter Tryz.func82, Tryz.ntmps82
      go_wp2_with (first
        | (have _k := HB2; go_at_call 95; refine (HQ2.out _ HB2.out).mono ?_; rintro e w3 ⟨rfl, hb3⟩; have HB3 := Lib.hid (HB2.out.trans ((((Below.refl _ _).alloc (Nat.le_refl _) _).trans (hb3.mono (by simp))).mono HB2.out.size)); clear hb3)
        | (have _k := HB1; go_at_call 95; refine (HQ.out _ HB1.out 2).mono ?_; rintro e w2 ⟨rfl, hb2⟩; rw [E2.out]; have HB2 := Lib.hid (HB1.out.trans ((((Below.refl _ _).alloc (Nat.le_refl _) _).trans (hb2.mono (by simp))).mono HB1.out.size)); clear hb2)
        | (go_at_call 95; refine (HQ.out _ (Below.refl _ _) 1).mono ?_; rintro e w1 ⟨rfl, hb1⟩; rw [E1.out]; have HB1 := Lib.hid (((Below.refl w.heap.size w).alloc (Nat.le_refl _) _).trans (hb1.mono (by simp))); clear hb1))
      go_ret
      exact ⟨by rw [E1.out, E2.out]; rfl, HB3.out⟩
end Go.Proofs.YtobpnjjgpoompaaGreatDoor
