/- Layer 7: the law ValidMeans. -/
import Derived.Test.YtobpnjjgpoompaaGreatDoorCm
namespace Go.Proofs.YtobpnjjgpoompaaGreatDoor
open Go.RowKit Go.Shelf

set_option maxRecDepth 100000 in
set_option maxHeartbeats 4000000 in
theorem means_good (x : Sl) (p : Pt) (w : World) (hE : Ev w) (hp : PatA w x p) : Calls Tryz.prog 5 #[patV x p] w fun e w' => e = .returned (.bool true) ∧ Below w.heap.size w w' := by
  have HE := Lib.hid hE; clear hE
  have HP := Lib.hid hp; clear hp
  have HA := Lib.hid (fun wx (hb : Below w.heap.size w wx) => awake_any wx (HE.out.keep hb))
  have HF := Lib.hid (fun wx (hb : Below w.heap.size w wx) => few_any x p wx (HP.out.keep hb))
  have HC := Lib.hid (fun wx (hb : Below w.heap.size w wx) => check_any x p wx (HP.out.keep hb) (HE.out.ky.keep hb))
  have HW := Lib.hid (bx_new w x p)
  unfold patV at HF HC ⊢
  cases f1 : fewB p with
  | false =>
    rw [f1] at HF
    clear f1
    generalize ckR p = r0 at HC
    generalize ckI p = r1 at HC
    generalize ckE p = r2 at HC
    go_enter Tryz.func5, Tryz.ntmps5
    go_wp2_with (go_at_call 11; refine (HC.out _ HW.out.bel).mono ?_; rintro e w1 ⟨rfl, hb1⟩; have HW1 := Lib.hid (HW.out.keep hb1); clear hb1; obtain ⟨b0, b1, b2, b3⟩ := HW1.out.cells; have lw1 := lt_of_heap HW1.out.bx)
    go_wp2_with (go_at_call 9; refine (HF.out _ HW1.out.bel).mono ?_; rintro e w2 ⟨rfl, hb2⟩; have HW2 := Lib.hid (HW1.out.keep hb2); clear hb2 b0 b1 b2 b3; obtain ⟨b0, b1, b2, b3⟩ := HW2.out.cells; have lw2 := lt_of_heap HW2.out.bx)
    go_wp2_with (go_at_call 10; refine (HA.out _ HW2.out.bel).mono ?_; rintro e w9 ⟨rfl, hb9⟩; have HB9 := Lib.hid (HW2.out.bel.trans (hb9.mono HW2.out.bel.size)); clear hb9)
    go_ret
    exact ⟨rfl, HB9.out⟩
  | true =>
    rw [f1] at HF
    by_cases he : ckE p = 0
    · obtain ⟨hr, hok, hky, hsl, htn⟩ := ck_ok he
      have HO := Lib.hid (fun wx (hb : Below w.heap.size w wx) => of_any x p (right_bd hr).2.2.1 wx (HP.out.keep hb))
      have HR := Lib.hid hr
      have HOK := Lib.hid hok
      have HKY := Lib.hid hky
      have HSL := Lib.hid hsl
      have HTN := Lib.hid htn
      unfold patV at HO
      rw [he] at HC
      generalize ckR p = r0 at HC
      generalize ckI p = r1 at HC
      clear he hr hok hky hsl htn f1
      go_enter Tryz.func5, Tryz.ntmps5
      go_wp2_with (go_at_call 11; refine (HC.out _ HW.out.bel).mono ?_; rintro e w1 ⟨rfl, hb1⟩; have HW1 := Lib.hid (HW.out.keep hb1); clear hb1; obtain ⟨b0, b1, b2, b3⟩ := HW1.out.cells; have lw1 := lt_of_heap HW1.out.bx)
      go_wp2_with (go_at_call 9; refine (HF.out _ HW1.out.bel).mono ?_; rintro e w2 ⟨rfl, hb2⟩; have HW2 := Lib.hid (HW1.out.keep hb2); clear hb2 b0 b1 b2 b3; obtain ⟨b0, b1, b2, b3⟩ := HW2.out.cells; have lw2 := lt_of_heap HW2.out.bx)
      go_wp2_with (go_at_call 13; refine (HO.out _ HW2.out.bel).mono ?_; rintro e w3 ⟨y, rfl, hy3, hb3⟩; have HW3 := Lib.hid (HW2.out.keep hb3); have HY3 := Lib.hid hy3; clear hb3 hy3 b0 b1 b2 b3; obtain ⟨b0, b1, b2, b3⟩ := HW3.out.cells; have lw3 := lt_of_heap HW3.out.bx)
      have HQ := Lib.hid (bq_new HW3.out HY3.out)
      clear b0 b1 b2 b3 lw3
      generalize w3.alloc (.cells #[.string ⟨p.nm.toArray⟩, .slice y.s0 p.p0.length y.c0, .slice y.s1 p.p1.length y.c1, .slice y.s2 p.ms.length y.c2] 35) = w4 at *
      generalize w3.heap.size = qb at *
      have HM := Lib.hid (fun (who t : Int) wx (h : PatA wx y p) => metA_any y p who t wx h HR.out)
      have HK1 := Lib.hid (fun wx (hb : Below w.heap.size w wx) => keyed7_any x p (p.ms.length - 1) (by
        have := HR.out
        simp only [right, Bool.and_eq_true, decide_eq_true_eq] at this
        omega) HR.out wx (HP.out.keep hb) (HE.out.ky.keep hb))
      have HLN : Hid (1 ≤ p.ms.length ∧ p.ms.length ≤ 6) := Lib.hid (by
        have := HR.out
        simp only [right, Bool.and_eq_true, decide_eq_true_eq] at this
        omega)
      have hle : p.ms.length - 1 + 1 = p.ms.length := by have := HLN.out; omega
      rw [hle, List.take_length, HKY.out] at HK1
      clear hle
      unfold patV at HM HK1
      obtain ⟨⟨q0, q1, q2, q3⟩, lb, lq⟩ := HQ.out.cells
      refine wp_loop_rounds 5 ?_
      rw [rounds_succ]
      obtain ⟨v5, hv5⟩ : ∃ v, v = met 2 3 (flat p.ms) := ⟨_, rfl⟩
      have HC5 := Lib.hid (HM.out 2 3 _ HQ.out.pa)
      rw [← hv5] at HC5
      have hw5 : v5 ≤ 1 := by rw [hv5]; exact HOK.out.d 3 (by decide) (by decide)
      clear hv5
      have hx5 : ¬ (1 : Int) < v5 := by omega
      have hy5 : ¬ 1 < v5 := by omega
      go_wp2_with fail
      go_at_call 18
      refine HC5.out.mono ?_
      rintro e w5 ⟨rfl, hb5⟩
      have HQ5 := Lib.hid (HQ.out.keep hb5)
      clear hb5 q0 q1 q2 q3 lb lq
      obtain ⟨⟨q0, q1, q2, q3⟩, lb, lq⟩ := HQ5.out.cells
      clear hw5 HC5
      go_wp2_with fail
      rw [rounds_succ]
      obtain ⟨v6, hv6⟩ : ∃ v, v = met 2 4 (flat p.ms) := ⟨_, rfl⟩
      have HC6 := Lib.hid (HM.out 2 4 _ HQ5.out.pa)
      rw [← hv6] at HC6
      have hw6 : v6 ≤ 1 := by rw [hv6]; exact HOK.out.d 4 (by decide) (by decide)
      clear hv6
      have hx6 : ¬ (1 : Int) < v6 := by omega
      have hy6 : ¬ 1 < v6 := by omega
      go_wp2_with fail
      go_at_call 18
      refine HC6.out.mono ?_
      rintro e w6 ⟨rfl, hb6⟩
      have HQ6 := Lib.hid (HQ5.out.keep hb6)
      clear hb6 q0 q1 q2 q3 lb lq
      obtain ⟨⟨q0, q1, q2, q3⟩, lb, lq⟩ := HQ6.out.cells
      clear hw6 HC6
      go_wp2_with fail
      rw [rounds_succ]
      obtain ⟨v7, hv7⟩ : ∃ v, v = met 2 5 (flat p.ms) := ⟨_, rfl⟩
      have HC7 := Lib.hid (HM.out 2 5 _ HQ6.out.pa)
      rw [← hv7] at HC7
      have hw7 : v7 ≤ 1 := by rw [hv7]; exact HOK.out.d 5 (by decide) (by decide)
      clear hv7
      have hx7 : ¬ (1 : Int) < v7 := by omega
      have hy7 : ¬ 1 < v7 := by omega
      go_wp2_with fail
      go_at_call 18
      refine HC7.out.mono ?_
      rintro e w7 ⟨rfl, hb7⟩
      have HQ7 := Lib.hid (HQ6.out.keep hb7)
      clear hb7 q0 q1 q2 q3 lb lq
      obtain ⟨⟨q0, q1, q2, q3⟩, lb, lq⟩ := HQ7.out.cells
      clear hw7 HC7
      go_wp2_with fail
      rw [rounds_succ]
      obtain ⟨v8, hv8⟩ : ∃ v, v = met 2 6 (flat p.ms) := ⟨_, rfl⟩
      have HC8 := Lib.hid (HM.out 2 6 _ HQ7.out.pa)
      rw [← hv8] at HC8
      have hw8 : v8 ≤ 1 := by rw [hv8]; exact HOK.out.d 6 (by decide) (by decide)
      clear hv8
      have hx8 : ¬ (1 : Int) < v8 := by omega
      have hy8 : ¬ 1 < v8 := by omega
      go_wp2_with fail
      go_at_call 18
      refine HC8.out.mono ?_
      rintro e w8 ⟨rfl, hb8⟩
      have HQ8 := Lib.hid (HQ7.out.keep hb8)
      clear hb8 q0 q1 q2 q3 lb lq
      obtain ⟨⟨q0, q1, q2, q3⟩, lb, lq⟩ := HQ8.out.cells
      clear hw8 HC8
      go_wp2_with fail
      rw [rounds_succ]
      go_wp2_with fail
      refine wp_loop_rounds 3 ?_
      rw [rounds_succ]
      obtain ⟨v9, hv9⟩ : ∃ v, v = met 0 1 (flat p.ms) := ⟨_, rfl⟩
      have HC9 := Lib.hid (HM.out 0 1 _ HQ8.out.pa)
      rw [← hv9] at HC9
      have hw9 : v9 ≤ 1 := by rw [hv9]; exact (HOK.out.s 0 1 (by decide) (by decide)).1
      clear hv9
      have hx9 : ¬ (1 : Int) < v9 := by omega
      have hy9 : ¬ 1 < v9 := by omega
      go_wp2_with fail
      go_at_call 18
      refine HC9.out.mono ?_
      rintro e w9 ⟨rfl, hb9⟩
      have HQ9 := Lib.hid (HQ8.out.keep hb9)
      clear hb9 q0 q1 q2 q3 lb lq
      obtain ⟨⟨q0, q1, q2, q3⟩, lb, lq⟩ := HQ9.out.cells
      clear hw9 HC9
      obtain ⟨v10, hv10⟩ : ∃ v, v = met 0 2 (flat p.ms) := ⟨_, rfl⟩
      have HC10 := Lib.hid (HM.out 0 2 _ HQ9.out.pa)
      rw [← hv10] at HC10
      have hw10 : v10 ≤ 1 := by rw [hv10]; exact (HOK.out.s 0 2 (by decide) (by decide)).1
      clear hv10
      have hx10 : ¬ (1 : Int) < v10 := by omega
      have hy10 : ¬ 1 < v10 := by omega
      go_wp2_with fail
      go_at_call 18
      refine HC10.out.mono ?_
      rintro e w10 ⟨rfl, hb10⟩
      have HQ10 := Lib.hid (HQ9.out.keep hb10)
      clear hb10 q0 q1 q2 q3 lb lq
      obtain ⟨⟨q0, q1, q2, q3⟩, lb, lq⟩ := HQ10.out.cells
      clear hw10 HC10
      go_wp2_with fail
      rw [rounds_succ]
      obtain ⟨v11, hv11⟩ : ∃ v, v = met 1 1 (flat p.ms) := ⟨_, rfl⟩
      have HC11 := Lib.hid (HM.out 1 1 _ HQ10.out.pa)
      rw [← hv11] at HC11
      have hw11 : v11 ≤ 1 := by rw [hv11]; exact (HOK.out.s 1 1 (by decide) (by decide)).1
      clear hv11
      have hx11 : ¬ (1 : Int) < v11 := by omega
      have hy11 : ¬ 1 < v11 := by omega
      go_wp2_with fail
      go_at_call 18
      refine HC11.out.mono ?_
      rintro e w11 ⟨rfl, hb11⟩
      have HQ11 := Lib.hid (HQ10.out.keep hb11)
      clear hb11 q0 q1 q2 q3 lb lq
      obtain ⟨⟨q0, q1, q2, q3⟩, lb, lq⟩ := HQ11.out.cells
      clear hw11 HC11
      obtain ⟨v12, hv12⟩ : ∃ v, v = met 1 2 (flat p.ms) := ⟨_, rfl⟩
      have HC12 := Lib.hid (HM.out 1 2 _ HQ11.out.pa)
      rw [← hv12] at HC12
      have hw12 : v12 ≤ 1 := by rw [hv12]; exact (HOK.out.s 1 2 (by decide) (by decide)).1
      clear hv12
      have hx12 : ¬ (1 : Int) < v12 := by omega
      have hy12 : ¬ 1 < v12 := by omega
      go_wp2_with fail
      go_at_call 18
      refine HC12.out.mono ?_
      rintro e w12 ⟨rfl, hb12⟩
      have HQ12 := Lib.hid (HQ11.out.keep hb12)
      clear hb12 q0 q1 q2 q3 lb lq
      obtain ⟨⟨q0, q1, q2, q3⟩, lb, lq⟩ := HQ12.out.cells
      clear hw12 HC12
      go_wp2_with fail
      rw [rounds_succ]
      go_wp2_with fail
      clear q0 q1 q2 q3 lb lq
      obtain ⟨b0, b1, b2, b3⟩ := HQ12.out.bx.cells
      have lb := lt_of_heap HQ12.out.bx.bx
      have hn65 : (p.ms.length : Int) ≤ 65536 := by have := HLN.out; omega
      go_loopg [9] (p.ms.length - 1) (fun g u9 wr => ∃ k : Nat, k + g = p.ms.length ∧ u9 = .int .i64 k ∧ Aside (1 ≤ k ∧ Bx w w.heap.size x p wr))
      case atStart => exact ⟨1, by have := HLN.out; omega, rfl, (show _ ∧ _ from ⟨Nat.le_refl _, HQ12.out.bx⟩)⟩
      case round =>
        clear b0 b1 b2 b3 lb
        obtain ⟨k, hkg, rfl, hkk⟩ := hrel
        have HK0 := Lib.hid hkk.out
        clear hkk
        obtain ⟨b0, b1, b2, b3⟩ := HK0.out.2.cells
        have lb := lt_of_heap HK0.out.2.bx
        by_cases hlt : k < p.ms.length
        · have hk2 : (k : Int) < p.ms.length := by omega
          obtain ⟨g, o, hs, hia⟩ := (HP.out.im.keep HK0.out.2.bel) (by omega)
          obtain ⟨s0, c0, s1, c1, s2, c2⟩ := x
          simp only at hs b0 b1 b2 b3
          subst hs
          obtain ⟨m0, -⟩ := hia k hlt
          obtain ⟨j, hj⟩ : ∃ j, k = j + 1 := ⟨k - 1, by have := HK0.out.1; omega⟩
          obtain ⟨m1, -⟩ := hia j (by omega)
          have lg := World.block_lt_of_cell? _ _ m0
          have hne := HTN.out k HK0.out.1 hlt
          have ej : k - 1 = j := by omega
          rw [ej] at hne
          obtain ⟨fk, hfk⟩ : ∃ f, f = (p.ms.getD k default).fr := ⟨_, rfl⟩
          obtain ⟨fj, hfj⟩ : ∃ f, f = (p.ms.getD j default).fr := ⟨_, rfl⟩
          rw [← hfk] at m0 hne
          rw [← hfj] at m1 hne
          have hnb : (fk == fj) = false := by simpa using fun e => hne e.symm
          have hw : IntKind.i64.wrap ((k : Int) - 1) = (j : Int) := by
            rw [hj]
            have : ((((j + 1 : Nat) : Int)) - 1) = (j : Int) := by omega
            rw [this]
            exact wrap_le (by omega) (by omega)
          have hjn : (j : Int) < p.ms.length := by omega
          have hjn2 : j < p.ms.length := by omega
          clear hia hne ej hfk hfj hj
          go_wp2_with fail
          go_quiet (fail)
          go_wp2_with fail
          go_roundg (p.ms.length - (k + 1))
          case measure => have := HK0.out; omega
          case rel => exact ⟨k + 1, by omega, by go_num, (show _ ∧ _ from ⟨by omega, HK0.out.2.keep (belowN (Below.refl _ _))⟩)⟩
        · have hk2 : ¬ (k : Int) < p.ms.length := by omega
          have hw : IntKind.i64.wrap ((p.ms.length : Int) - 1) = ((p.ms.length - 1 : Nat) : Int) := by
            have : ((p.ms.length : Int) - 1) = ((p.ms.length - 1 : Nat) : Int) := by have := HLN.out; omega
            rw [this]
            exact wrap_le (by omega) (by omega)
          go_wp2_with fail
          go_at_call 19
          refine (HK1.out _ HK0.out.2.bel).mono ?_
          rintro e wk ⟨rfl, hbk⟩
          have HBK := Lib.hid (HK0.out.2.bel.trans (hbk.mono HK0.out.2.bel.size))
          clear hbk b0 b1 b2 b3 lb
          go_wp2_with (go_at_call 10; refine (HA.out _ HBK.out).mono ?_; rintro e w9 ⟨rfl, hb9⟩; have HB9 := Lib.hid (HBK.out.trans (hb9.mono HBK.out.size)); clear hb9)
          go_ret
          exact ⟨rfl, HB9.out⟩
    · have heb : (ckE p != 0) = true := by simpa using he
      generalize ckR p = r0 at HC
      generalize ckI p = r1 at HC
      generalize ckE p = r2 at HC heb
      clear he f1
      go_enter Tryz.func5, Tryz.ntmps5
      go_wp2_with (go_at_call 11; refine (HC.out _ HW.out.bel).mono ?_; rintro e w1 ⟨rfl, hb1⟩; have HW1 := Lib.hid (HW.out.keep hb1); clear hb1; obtain ⟨b0, b1, b2, b3⟩ := HW1.out.cells; have lw1 := lt_of_heap HW1.out.bx)
      go_wp2_with (go_at_call 9; refine (HF.out _ HW1.out.bel).mono ?_; rintro e w2 ⟨rfl, hb2⟩; have HW2 := Lib.hid (HW1.out.keep hb2); clear hb2 b0 b1 b2 b3; obtain ⟨b0, b1, b2, b3⟩ := HW2.out.cells; have lw2 := lt_of_heap HW2.out.bx)
      go_wp2_with (go_at_call 10; refine (HA.out _ HW2.out.bel).mono ?_; rintro e w9 ⟨rfl, hb9⟩; have HB9 := Lib.hid (HW2.out.bel.trans (hb9.mono HW2.out.bel.size)); clear hb9)
      go_ret
      exact ⟨rfl, HB9.out⟩
end Go.Proofs.YtobpnjjgpoompaaGreatDoor
