/- Layer 4: the walk of pick. -/
import Derived.Test.YtlckajnbmkkpeaaDoorEd
namespace Go.Proofs.YtlckajnbmkkpeaaDoor
open Go.RowKit Go.Maps

def arrV (x y z : Int) : Value := .agg #[.int .i64 x, .int .i64 y, .int .i64 z]
def pickV (l is : List Int) : Value := if pickB l is = true then .tuple #[arrV ((pickL l is).getD 0 0) ((pickL l is).getD 1 0) ((pickL l is).getD 2 0), .bool true] else .tuple #[arrV 0 0 0, .bool false]
theorem pick_at {l : List Int} {i : Int} (h0 : 0 ≤ i) (h1 : i < l.length) {w : World} {g o : Nat} (hi : intsAt w g o l) : w.cell? ⟨g, o + i.toNat, none⟩ = some (.int .i64 (l.getD i.toNat 0)) := hi i.toNat (by omega)
theorem pick_no {l is : List Int} {i : Int} (hm : i ∈ is) (h : ¬ (0 ≤ i ∧ i < l.length)) : pickB l is = false := by
  unfold pickB
  rw [List.all_eq_false]
  exact ⟨i, hm, by simp; omega⟩

set_option maxRecDepth 100000 in
set_option maxHeartbeats 8000000 in
theorem pick_any (sl : Option Addr) (cl : Nat) (l : List Int) (si : Option Addr) (ci : Nat) (is : List Int) (w : World) (hl : IntsV w sl l) (hi : IntsV w si is) (h3 : is.length ≤ 3) :
    Calls Tryd.prog 64 #[.slice sl l.length cl, .slice si is.length ci] w fun e w' => e = .returned (pickV l is) ∧ Below w.heap.size w w' := by
  rcases is with _ | ⟨i0, _ | ⟨i1, _ | ⟨i2, _ | ⟨i3, r⟩⟩⟩⟩
  · have HPV : Hid (pickB l [] = true → pickV l [] = .tuple #[arrV 0 0 0, .bool true]) := Lib.hid (fun h => by unfold pickV; rw [if_pos h]; rfl)
    have HPN : Hid (pickB l [] = false → pickV l [] = .tuple #[arrV 0 0 0, .bool false]) := Lib.hid (fun h => by unfold pickV; rw [h]; rfl)
    clear hi
    have HOK : Hid (pickB l [] = true) := Lib.hid (by simp [pickB])
    go_enter Tryd.func64, Tryd.ntmps64
    go_wp2_with fail
    refine wp_loop_rounds 4 ?_
    rw [rounds_succ]
    go_wp2_with fail
    refine bodyPost_ret (v := .tuple #[.agg #[.int .i64 0, .int .i64 0, .int .i64 0], .bool true]) (by rw [results_cell_tmp rfl]; go_simp) rfl ?_
    refine ⟨?_, by first | exact ((Below.refl _ _).alloc (Nat.le_refl _) _).alloc (by simp) _ | exact (((((Below.refl _ _).alloc (Nat.le_refl _) _).alloc (by simp) _).setCell (by simp) _).setCell (by simp) _).setCell (by simp) _⟩
    rw [HPV.out HOK.out]
    rfl
  · have HPV : Hid (pickB l [i0] = true → pickV l [i0] = .tuple #[arrV (l.getD i0.toNat 0) 0 0, .bool true]) := Lib.hid (fun h => by unfold pickV; rw [if_pos h]; rfl)
    have HPN : Hid (pickB l [i0] = false → pickV l [i0] = .tuple #[arrV 0 0 0, .bool false]) := Lib.hid (fun h => by unfold pickV; rw [h]; rfl)
    obtain ⟨gi, oi, hs, lgi, hii⟩ := hi (by simp)
    subst hs
    have y0 : w.cell? ⟨gi, oi, none⟩ = some (.int .i64 i0) := hii 0 (by simp)
    have lgi1 : gi < w.heap.size + 1 := by omega
    have lgi2 : gi < w.heap.size + 1 + 1 := by omega
    clear hii hi
    by_cases n0 : i0 < 0
    · have HNO : Hid (pickB l [i0] = false) := Lib.hid (pick_no (i := i0) (by simp) (by omega))
      go_enter Tryd.func64, Tryd.ntmps64
      go_wp2_with fail
      refine wp_loop_rounds 4 ?_
      rw [rounds_succ]
      go_wp2_with fail
      refine bodyPost_ret (v := .tuple #[.agg #[.int .i64 0, .int .i64 0, .int .i64 0], .bool false]) (by rw [results_cell_tmp rfl]; go_simp) rfl ?_
      exact ⟨by rw [HPN.out HNO.out]; rfl, by first | exact ((Below.refl _ _).alloc (Nat.le_refl _) _).alloc (by simp) _⟩
    by_cases m0 : (l.length : Int) ≤ i0
    · have HNO : Hid (pickB l [i0] = false) := Lib.hid (pick_no (i := i0) (by simp) (by omega))
      go_enter Tryd.func64, Tryd.ntmps64
      go_wp2_with fail
      refine wp_loop_rounds 4 ?_
      rw [rounds_succ]
      go_wp2_with fail
      refine bodyPost_ret (v := .tuple #[.agg #[.int .i64 0, .int .i64 0, .int .i64 0], .bool false]) (by rw [results_cell_tmp rfl]; go_simp) rfl ?_
      exact ⟨by rw [HPN.out HNO.out]; rfl, by first | exact ((Below.refl _ _).alloc (Nat.le_refl _) _).alloc (by simp) _⟩
    obtain ⟨gl, ol, hsl, lgl, hil⟩ := hl (by omega)
    subst hsl
    have lgl1 : gl < w.heap.size + 1 := by omega
    have lgl2 : gl < w.heap.size + 1 + 1 := by omega
    have c0 := pick_at (by omega) (by omega : i0 < l.length) hil
    obtain ⟨x0, hx0⟩ : ∃ x, x = l.getD i0.toNat 0 := ⟨_, rfl⟩
    rw [← hx0] at c0
    have HX0 := Lib.hid hx0.symm
    clear hx0
    have p0 : 0 ≤ i0 := by omega
    have q0 : i0 < l.length := by omega
    clear hil hl
    have HOK : Hid (pickB l [i0] = true) := Lib.hid (by simp [pickB]; omega)
    go_enter Tryd.func64, Tryd.ntmps64
    go_wp2_with fail
    refine wp_loop_rounds 4 ?_
    rw [rounds_succ]
    go_wp2_with fail
    rw [rounds_succ]
    go_wp2_with fail
    refine bodyPost_ret (v := .tuple #[.agg #[.int .i64 x0, .int .i64 0, .int .i64 0], .bool true]) (by rw [results_cell_tmp rfl]; go_simp) rfl ?_
    refine ⟨?_, by first | exact ((Below.refl _ _).alloc (Nat.le_refl _) _).alloc (by simp) _ | exact (((((Below.refl _ _).alloc (Nat.le_refl _) _).alloc (by simp) _).setCell (by simp) _).setCell (by simp) _).setCell (by simp) _⟩
    rw [HPV.out HOK.out]
    rw [HX0.out]
    rfl
  · have HPV : Hid (pickB l [i0, i1] = true → pickV l [i0, i1] = .tuple #[arrV (l.getD i0.toNat 0) (l.getD i1.toNat 0) 0, .bool true]) := Lib.hid (fun h => by unfold pickV; rw [if_pos h]; rfl)
    have HPN : Hid (pickB l [i0, i1] = false → pickV l [i0, i1] = .tuple #[arrV 0 0 0, .bool false]) := Lib.hid (fun h => by unfold pickV; rw [h]; rfl)
    obtain ⟨gi, oi, hs, lgi, hii⟩ := hi (by simp)
    subst hs
    have y0 : w.cell? ⟨gi, oi, none⟩ = some (.int .i64 i0) := hii 0 (by simp)
    have y1 : w.cell? ⟨gi, oi + 1, none⟩ = some (.int .i64 i1) := hii 1 (by simp)
    have lgi1 : gi < w.heap.size + 1 := by omega
    have lgi2 : gi < w.heap.size + 1 + 1 := by omega
    clear hii hi
    by_cases n0 : i0 < 0
    · have HNO : Hid (pickB l [i0, i1] = false) := Lib.hid (pick_no (i := i0) (by simp) (by omega))
      go_enter Tryd.func64, Tryd.ntmps64
      go_wp2_with fail
      refine wp_loop_rounds 4 ?_
      rw [rounds_succ]
      go_wp2_with fail
      refine bodyPost_ret (v := .tuple #[.agg #[.int .i64 0, .int .i64 0, .int .i64 0], .bool false]) (by rw [results_cell_tmp rfl]; go_simp) rfl ?_
      exact ⟨by rw [HPN.out HNO.out]; rfl, by first | exact ((Below.refl _ _).alloc (Nat.le_refl _) _).alloc (by simp) _⟩
    by_cases m0 : (l.length : Int) ≤ i0
    · have HNO : Hid (pickB l [i0, i1] = false) := Lib.hid (pick_no (i := i0) (by simp) (by omega))
      go_enter Tryd.func64, Tryd.ntmps64
      go_wp2_with fail
      refine wp_loop_rounds 4 ?_
      rw [rounds_succ]
      go_wp2_with fail
      refine bodyPost_ret (v := .tuple #[.agg #[.int .i64 0, .int .i64 0, .int .i64 0], .bool false]) (by rw [results_cell_tmp rfl]; go_simp) rfl ?_
      exact ⟨by rw [HPN.out HNO.out]; rfl, by first | exact ((Below.refl _ _).alloc (Nat.le_refl _) _).alloc (by simp) _⟩
    obtain ⟨gl, ol, hsl, lgl, hil⟩ := hl (by omega)
    subst hsl
    have lgl1 : gl < w.heap.size + 1 := by omega
    have lgl2 : gl < w.heap.size + 1 + 1 := by omega
    have c0 := pick_at (by omega) (by omega : i0 < l.length) hil
    obtain ⟨x0, hx0⟩ : ∃ x, x = l.getD i0.toNat 0 := ⟨_, rfl⟩
    rw [← hx0] at c0
    have HX0 := Lib.hid hx0.symm
    clear hx0
    have p0 : 0 ≤ i0 := by omega
    have q0 : i0 < l.length := by omega
    by_cases n1 : i1 < 0
    · have HNO : Hid (pickB l [i0, i1] = false) := Lib.hid (pick_no (i := i1) (by simp) (by omega))
      go_enter Tryd.func64, Tryd.ntmps64
      go_wp2_with fail
      refine wp_loop_rounds 4 ?_
      rw [rounds_succ]
      go_wp2_with fail
      rw [rounds_succ]
      go_wp2_with fail
      refine bodyPost_ret (v := .tuple #[.agg #[.int .i64 0, .int .i64 0, .int .i64 0], .bool false]) (by rw [results_cell_tmp rfl]; go_simp) rfl ?_
      exact ⟨by rw [HPN.out HNO.out]; rfl, by first | exact ((Below.refl _ _).alloc (Nat.le_refl _) _).alloc (by simp) _⟩
    by_cases m1 : (l.length : Int) ≤ i1
    · have HNO : Hid (pickB l [i0, i1] = false) := Lib.hid (pick_no (i := i1) (by simp) (by omega))
      go_enter Tryd.func64, Tryd.ntmps64
      go_wp2_with fail
      refine wp_loop_rounds 4 ?_
      rw [rounds_succ]
      go_wp2_with fail
      rw [rounds_succ]
      go_wp2_with fail
      refine bodyPost_ret (v := .tuple #[.agg #[.int .i64 0, .int .i64 0, .int .i64 0], .bool false]) (by rw [results_cell_tmp rfl]; go_simp) rfl ?_
      exact ⟨by rw [HPN.out HNO.out]; rfl, by first | exact ((Below.refl _ _).alloc (Nat.le_refl _) _).alloc (by simp) _⟩
    have c1 := pick_at (by omega) (by omega : i1 < l.length) hil
    obtain ⟨x1, hx1⟩ : ∃ x, x = l.getD i1.toNat 0 := ⟨_, rfl⟩
    rw [← hx1] at c1
    have HX1 := Lib.hid hx1.symm
    clear hx1
    have p1 : 0 ≤ i1 := by omega
    have q1 : i1 < l.length := by omega
    clear hil hl
    have HOK : Hid (pickB l [i0, i1] = true) := Lib.hid (by simp [pickB]; omega)
    go_enter Tryd.func64, Tryd.ntmps64
    go_wp2_with fail
    refine wp_loop_rounds 4 ?_
    rw [rounds_succ]
    go_wp2_with fail
    rw [rounds_succ]
    go_wp2_with fail
    rw [rounds_succ]
    go_wp2_with fail
    refine bodyPost_ret (v := .tuple #[.agg #[.int .i64 x0, .int .i64 x1, .int .i64 0], .bool true]) (by rw [results_cell_tmp rfl]; go_simp) rfl ?_
    refine ⟨?_, by first | exact ((Below.refl _ _).alloc (Nat.le_refl _) _).alloc (by simp) _ | exact (((((Below.refl _ _).alloc (Nat.le_refl _) _).alloc (by simp) _).setCell (by simp) _).setCell (by simp) _).setCell (by simp) _⟩
    rw [HPV.out HOK.out]
    rw [HX0.out]
    rw [HX1.out]
    rfl
  · have HPV : Hid (pickB l [i0, i1, i2] = true → pickV l [i0, i1, i2] = .tuple #[arrV (l.getD i0.toNat 0) (l.getD i1.toNat 0) (l.getD i2.toNat 0), .bool true]) := Lib.hid (fun h => by unfold pickV; rw [if_pos h]; rfl)
    have HPN : Hid (pickB l [i0, i1, i2] = false → pickV l [i0, i1, i2] = .tuple #[arrV 0 0 0, .bool false]) := Lib.hid (fun h => by unfold pickV; rw [h]; rfl)
    obtain ⟨gi, oi, hs, lgi, hii⟩ := hi (by simp)
    subst hs
    have y0 : w.cell? ⟨gi, oi, none⟩ = some (.int .i64 i0) := hii 0 (by simp)
    have y1 : w.cell? ⟨gi, oi + 1, none⟩ = some (.int .i64 i1) := hii 1 (by simp)
    have y2 : w.cell? ⟨gi, oi + 2, none⟩ = some (.int .i64 i2) := hii 2 (by simp)
    have lgi1 : gi < w.heap.size + 1 := by omega
    have lgi2 : gi < w.heap.size + 1 + 1 := by omega
    clear hii hi
    by_cases n0 : i0 < 0
    · have HNO : Hid (pickB l [i0, i1, i2] = false) := Lib.hid (pick_no (i := i0) (by simp) (by omega))
      go_enter Tryd.func64, Tryd.ntmps64
      go_wp2_with fail
      refine wp_loop_rounds 4 ?_
      rw [rounds_succ]
      go_wp2_with fail
      refine bodyPost_ret (v := .tuple #[.agg #[.int .i64 0, .int .i64 0, .int .i64 0], .bool false]) (by rw [results_cell_tmp rfl]; go_simp) rfl ?_
      exact ⟨by rw [HPN.out HNO.out]; rfl, by first | exact ((Below.refl _ _).alloc (Nat.le_refl _) _).alloc (by simp) _⟩
    by_cases m0 : (l.length : Int) ≤ i0
    · have HNO : Hid (pickB l [i0, i1, i2] = false) := Lib.hid (pick_no (i := i0) (by simp) (by omega))
      go_enter Tryd.func64, Tryd.ntmps64
      go_wp2_with fail
      refine wp_loop_rounds 4 ?_
      rw [rounds_succ]
      go_wp2_with fail
      refine bodyPost_ret (v := .tuple #[.agg #[.int .i64 0, .int .i64 0, .int .i64 0], .bool false]) (by rw [results_cell_tmp rfl]; go_simp) rfl ?_
      exact ⟨by rw [HPN.out HNO.out]; rfl, by first | exact ((Below.refl _ _).alloc (Nat.le_refl _) _).alloc (by simp) _⟩
    obtain ⟨gl, ol, hsl, lgl, hil⟩ := hl (by omega)
    subst hsl
    have lgl1 : gl < w.heap.size + 1 := by omega
    have lgl2 : gl < w.heap.size + 1 + 1 := by omega
    have c0 := pick_at (by omega) (by omega : i0 < l.length) hil
    obtain ⟨x0, hx0⟩ : ∃ x, x = l.getD i0.toNat 0 := ⟨_, rfl⟩
    rw [← hx0] at c0
    have HX0 := Lib.hid hx0.symm
    clear hx0
    have p0 : 0 ≤ i0 := by omega
    have q0 : i0 < l.length := by omega
    by_cases n1 : i1 < 0
    · have HNO : Hid (pickB l [i0, i1, i2] = false) := Lib.hid (pick_no (i := i1) (by simp) (by omega))
      go_enter Tryd.func64, Tryd.ntmps64
      go_wp2_with fail
      refine wp_loop_rounds 4 ?_
      rw [rounds_succ]
      go_wp2_with fail
      rw [rounds_succ]
      go_wp2_with fail
      refine bodyPost_ret (v := .tuple #[.agg #[.int .i64 0, .int .i64 0, .int .i64 0], .bool false]) (by rw [results_cell_tmp rfl]; go_simp) rfl ?_
      exact ⟨by rw [HPN.out HNO.out]; rfl, by first | exact ((Below.refl _ _).alloc (Nat.le_refl _) _).alloc (by simp) _⟩
    by_cases m1 : (l.length : Int) ≤ i1
    · have HNO : Hid (pickB l [i0, i1, i2] = false) := Lib.hid (pick_no (i := i1) (by simp) (by omega))
      go_enter Tryd.func64, Tryd.ntmps64
      go_wp2_with fail
      refine wp_loop_rounds 4 ?_
      rw [rounds_succ]
      go_wp2_with fail
      rw [rounds_succ]
      go_wp2_with fail
      refine bodyPost_ret (v := .tuple #[.agg #[.int .i64 0, .int .i64 0, .int .i64 0], .bool false]) (by rw [results_cell_tmp rfl]; go_simp) rfl ?_
      exact ⟨by rw [HPN.out HNO.out]; rfl, by first | exact ((Below.refl _ _).alloc (Nat.le_refl _) _).alloc (by simp) _⟩
    have c1 := pick_at (by omega) (by omega : i1 < l.length) hil
    obtain ⟨x1, hx1⟩ : ∃ x, x = l.getD i1.toNat 0 := ⟨_, rfl⟩
    rw [← hx1] at c1
    have HX1 := Lib.hid hx1.symm
    clear hx1
    have p1 : 0 ≤ i1 := by omega
    have q1 : i1 < l.length := by omega
    by_cases n2 : i2 < 0
    · have HNO : Hid (pickB l [i0, i1, i2] = false) := Lib.hid (pick_no (i := i2) (by simp) (by omega))
      go_enter Tryd.func64, Tryd.ntmps64
      go_wp2_with fail
      refine wp_loop_rounds 4 ?_
      rw [rounds_succ]
      go_wp2_with fail
      rw [rounds_succ]
      go_wp2_with fail
      rw [rounds_succ]
      go_wp2_with fail
      refine bodyPost_ret (v := .tuple #[.agg #[.int .i64 0, .int .i64 0, .int .i64 0], .bool false]) (by rw [results_cell_tmp rfl]; go_simp) rfl ?_
      exact ⟨by rw [HPN.out HNO.out]; rfl, by first | exact ((Below.refl _ _).alloc (Nat.le_refl _) _).alloc (by simp) _⟩
    by_cases m2 : (l.length : Int) ≤ i2
    · have HNO : Hid (pickB l [i0, i1, i2] = false) := Lib.hid (pick_no (i := i2) (by simp) (by omega))
      go_enter Tryd.func64, Tryd.ntmps64
      go_wp2_with fail
      refine wp_loop_rounds 4 ?_
      rw [rounds_succ]
      go_wp2_with fail
      rw [rounds_succ]
      go_wp2_with fail
      rw [rounds_succ]
      go_wp2_with fail
      refine bodyPost_ret (v := .tuple #[.agg #[.int .i64 0, .int .i64 0, .int .i64 0], .bool false]) (by rw [results_cell_tmp rfl]; go_simp) rfl ?_
      exact ⟨by rw [HPN.out HNO.out]; rfl, by first | exact ((Below.refl _ _).alloc (Nat.le_refl _) _).alloc (by simp) _⟩
    have c2 := pick_at (by omega) (by omega : i2 < l.length) hil
    obtain ⟨x2, hx2⟩ : ∃ x, x = l.getD i2.toNat 0 := ⟨_, rfl⟩
    rw [← hx2] at c2
    have HX2 := Lib.hid hx2.symm
    clear hx2
    have p2 : 0 ≤ i2 := by omega
    have q2 : i2 < l.length := by omega
    clear hil hl
    have HOK : Hid (pickB l [i0, i1, i2] = true) := Lib.hid (by simp [pickB]; omega)
    go_enter Tryd.func64, Tryd.ntmps64
    go_wp2_with fail
    refine wp_loop_rounds 4 ?_
    rw [rounds_succ]
    go_wp2_with fail
    rw [rounds_succ]
    go_wp2_with fail
    rw [rounds_succ]
    go_wp2_with fail
    rw [rounds_succ]
    go_wp2_with fail
    refine bodyPost_ret (v := .tuple #[.agg #[.int .i64 x0, .int .i64 x1, .int .i64 x2], .bool true]) (by rw [results_cell_tmp rfl]; go_simp) rfl ?_
    refine ⟨?_, by first | exact ((Below.refl _ _).alloc (Nat.le_refl _) _).alloc (by simp) _ | exact (((((Below.refl _ _).alloc (Nat.le_refl _) _).alloc (by simp) _).setCell (by simp) _).setCell (by simp) _).setCell (by simp) _⟩
    rw [HPV.out HOK.out]
    rw [HX0.out]
    rw [HX1.out]
    rw [HX2.out]
    rfl
  · simp at h3
end Go.Proofs.YtlckajnbmkkpeaaDoor
