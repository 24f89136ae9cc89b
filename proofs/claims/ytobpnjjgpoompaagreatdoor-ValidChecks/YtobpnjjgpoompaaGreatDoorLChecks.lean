/- Layer 7: the law ValidChecks. -/
import Derived.Test.YtobpnjjgpoompaaGreatDoorCp
import Derived.Test.YtobpnjjgpoompaaGreatDoorNd
namespace Go.Proofs.YtobpnjjgpoompaaGreatDoor
open Go.RowKit Go.Shelf

set_option maxRecDepth 100000 in
set_option maxHeartbeats 2000000 in
theorem checks_good (x : Sl) (p : Pt) (w : World) (hE : Ev w) (hp : PatA w x p) : Calls Tryz.prog 3 #[patV x p] w fun e w' => e = .returned (.bool true) ∧ Below w.heap.size w w' := by
  have HE := Lib.hid hE; clear hE
  have HP := Lib.hid hp; clear hp
  have HA := Lib.hid (fun wx (hb : Below w.heap.size w wx) => awake_any wx (HE.out.keep hb))
  have HF := Lib.hid (fun wx (hb : Below w.heap.size w wx) => few_any x p wx (HP.out.keep hb))
  have HC := Lib.hid (fun wx (hb : Below w.heap.size w wx) => check_any x p wx (HP.out.keep hb) (HE.out.ky.keep hb))
  have HW := Lib.hid (bx_new w x p)
  cases f1 : fewB p with
  | false =>
    rw [f1] at HF
    unfold patV at HF ⊢
    clear f1
    go_enter Tryz.func3, Tryz.ntmps3
    go_wp2_with (go_at_call 9; refine (HF.out _ HW.out.bel).mono ?_; rintro e w2 ⟨rfl, hb2⟩; have HW2 := Lib.hid (HW.out.keep hb2); clear hb2)
    go_wp2_with (go_at_call 10; refine (HA.out _ HW2.out.bel).mono ?_; rintro e w9 ⟨rfl, hb9⟩; have HB9 := Lib.hid (HW2.out.bel.trans (hb9.mono HW2.out.bel.size)); clear hb9)
    go_ret
    exact ⟨rfl, HB9.out⟩
  | true =>
    rw [f1] at HF
    have HSH := Lib.hid (few_short f1)
    have HO := Lib.hid (fun wx (hb : Below w.heap.size w wx) => of_any x p HSH.out.2.2.1 wx (HP.out.keep hb))
    have hnl : p.nm.length ≤ 65536 := by
      simp only [fewB, Bool.and_eq_true, decide_eq_true_eq] at f1; omega
    have HRR := Lib.hid (fun y wx (h : PatA wx y p) => rright_any y p wx h hnl HSH.out.2.2.1)
    clear f1 hnl
    cases hr : right p with
    | false =>
      have hz := ck_wrong hr
      rw [hz.1, hz.2.1, hz.2.2, natZero] at HC
      rw [hr] at HRR
      clear hz hr
      unfold patV at HF HC HO HRR ⊢
      go_enter Tryz.func3, Tryz.ntmps3
      go_wp2_with fail
      go_at_call 9
      refine (HF.out _ HW.out.bel).mono ?_
      rintro e w2 ⟨rfl, hb2⟩
      have HW2 := Lib.hid (HW.out.keep hb2)
      clear hb2
      obtain ⟨b0, b1, b2, b3⟩ := HW2.out.cells
      have lb := lt_of_heap HW2.out.bx
      go_wp2_with fail
      go_at_call 11
      refine (HC.out _ HW2.out.bel).mono ?_
      rintro e w3 ⟨rfl, hb3⟩
      have HW3 := Lib.hid (HW2.out.keep hb3)
      clear hb3 b0 b1 b2 b3 lb
      obtain ⟨b0, b1, b2, b3⟩ := HW3.out.cells
      have lb := lt_of_heap HW3.out.bx
      go_wp2_with fail
      go_at_call 13
      refine (HO.out _ HW3.out.bel).mono ?_
      rintro e w4 ⟨y, rfl, hy4, hb4⟩
      have HW4 := Lib.hid (HW3.out.keep hb4)
      have HY4 := Lib.hid hy4
      clear hb4 hy4 b0 b1 b2 b3 lb
      go_wp2_with fail
      go_at_call 12
      refine (HRR.out y _ HY4.out).mono ?_
      rintro e w5 ⟨rfl, hb5⟩
      have HW5 := Lib.hid (HW4.out.keep hb5)
      clear hb5
      go_wp2_with fail
      go_at_call 10
      refine (HA.out _ HW5.out.bel).mono ?_
      rintro e w9 ⟨rfl, hb9⟩
      have HB9 := Lib.hid (HW5.out.bel.trans (hb9.mono HW5.out.bel.size))
      clear hb9
      go_wp2_with fail
      go_ret
      exact ⟨rfl, HB9.out⟩
    | true =>
      have HRC := Lib.hid (fun y wx (h : PatA wx y p) => rcheck_any y p wx h hr)
      rw [hr] at HRR
      clear hr
      unfold patV at HF HC HO HRR HRC ⊢
      generalize ckR p = a0 at HC HRC
      generalize ckI p = a1 at HC HRC
      generalize ckE p = a2 at HC HRC
      go_enter Tryz.func3, Tryz.ntmps3
      go_wp2_with fail
      go_at_call 9
      refine (HF.out _ HW.out.bel).mono ?_
      rintro e w2 ⟨rfl, hb2⟩
      have HW2 := Lib.hid (HW.out.keep hb2)
      clear hb2
      obtain ⟨b0, b1, b2, b3⟩ := HW2.out.cells
      have lb := lt_of_heap HW2.out.bx
      go_wp2_with fail
      go_at_call 11
      refine (HC.out _ HW2.out.bel).mono ?_
      rintro e w3 ⟨rfl, hb3⟩
      have HW3 := Lib.hid (HW2.out.keep hb3)
      clear hb3 b0 b1 b2 b3 lb
      obtain ⟨b0, b1, b2, b3⟩ := HW3.out.cells
      have lb := lt_of_heap HW3.out.bx
      go_wp2_with fail
      go_at_call 13
      refine (HO.out _ HW3.out.bel).mono ?_
      rintro e w4 ⟨y, rfl, hy4, hb4⟩
      have HW4 := Lib.hid (HW3.out.keep hb4)
      have HY4 := Lib.hid hy4
      clear hb4 hy4 b0 b1 b2 b3 lb
      go_wp2_with fail
      go_at_call 12
      refine (HRR.out y _ HY4.out).mono ?_
      rintro e w5 ⟨rfl, hb5⟩
      have HW5 := Lib.hid (HW4.out.keep hb5)
      clear hb5
      obtain ⟨b0, b1, b2, b3⟩ := HW5.out.cells
      have lb := lt_of_heap HW5.out.bx
      go_wp2_with fail
      go_at_call 13
      refine (HO.out _ HW5.out.bel).mono ?_
      rintro e w6 ⟨z, rfl, hz6, hb6⟩
      have HW6 := Lib.hid (HW5.out.keep hb6)
      have HZ6 := Lib.hid hz6
      clear hb6 hz6 b0 b1 b2 b3 lb
      go_wp2_with fail
      go_at_call 14
      refine (HRC.out z _ HZ6.out).mono ?_
      rintro e w7 ⟨rfl, hb7⟩
      have HW7 := Lib.hid (HW6.out.keep hb7)
      clear hb7
      go_wp2_with fail
      go_at_call 10
      refine (HA.out _ HW7.out.bel).mono ?_
      rintro e w9 ⟨rfl, hb9⟩
      have HB9 := Lib.hid (HW7.out.bel.trans (hb9.mono HW7.out.bel.size))
      clear hb9
      go_wp2_with fail
      go_ret
      exact ⟨rfl, HB9.out⟩
end Go.Proofs.YtobpnjjgpoompaaGreatDoor
