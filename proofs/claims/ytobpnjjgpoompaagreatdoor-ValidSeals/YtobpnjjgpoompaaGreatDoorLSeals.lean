/- Layer 7: the law ValidSeals. -/
import Derived.Test.YtobpnjjgpoompaaGreatDoorCm
namespace Go.Proofs.YtobpnjjgpoompaaGreatDoor
open Go.RowKit Go.Shelf

set_option maxRecDepth 100000 in
set_option maxHeartbeats 4000000 in
theorem seals_good (x : Sl) (p : Pt) (w : World) (hE : Ev w) (hp : PatA w x p) : Calls Tryz.prog 7 #[patV x p] w fun e w' => e = .returned (.bool true) ∧ Below w.heap.size w w' := by
  have HE := Lib.hid hE; clear hE
  have HP := Lib.hid hp; clear hp
  have HA := Lib.hid (fun wx (hb : Below w.heap.size w wx) => awake_any wx (HE.out.keep hb))
  have HF := Lib.hid (fun wx (hb : Below w.heap.size w wx) => few_any x p wx (HP.out.keep hb))
  have HC := Lib.hid (fun wx (hb : Below w.heap.size w wx) => check_any x p wx (HP.out.keep hb) (HE.out.ky.keep hb))
  have HW := Lib.hid (bx_new w x p)
  unfold patV at HF HC ⊢
  cases f1 : fewB p with
  | false =>
    rw [f1] at HF
    clear f1
    generalize ckR p = r0 at HC
    generalize ckI p = r1 at HC
    generalize ckE p = r2 at HC
    go_enter Tryz.func7, Tryz.ntmps7
    go_wp2_with (go_at_call 11; refine (HC.out _ HW.out.bel).mono ?_; rintro e w1 ⟨rfl, hb1⟩; have HW1 := Lib.hid (HW.out.keep hb1); clear hb1; obtain ⟨b0, b1, b2, b3⟩ := HW1.out.cells; have lw1 := lt_of_heap HW1.out.bx)
    go_wp2_with (go_at_call 9; refine (HF.out _ HW1.out.bel).mono ?_; rintro e w2 ⟨rfl, hb2⟩; have HW2 := Lib.hid (HW1.out.keep hb2); clear hb2 b0 b1 b2 b3; obtain ⟨b0, b1, b2, b3⟩ := HW2.out.cells; have lw2 := lt_of_heap HW2.out.bx)
    go_wp2_with (go_at_call 10; refine (HA.out _ HW2.out.bel).mono ?_; rintro e w9 ⟨rfl, hb9⟩; have HB9 := Lib.hid (HW2.out.bel.trans (hb9.mono HW2.out.bel.size)); clear hb9)
    go_ret
    exact ⟨rfl, HB9.out⟩
  | true =>
    rw [f1] at HF
    by_cases he : ckE p = 0
    · obtain ⟨hr, hok, hky, hsl, htn⟩ := ck_ok he
      have HO := Lib.hid (fun wx (hb : Below w.heap.size w wx) => of_any x p (right_bd hr).2.2.1 wx (HP.out.keep hb))
      have HR := Lib.hid hr
      have HOK := Lib.hid hok
      have HKY := Lib.hid hky
      have HSL := Lib.hid hsl
      have HTN := Lib.hid htn
      unfold patV at HO
      rw [he] at HC
      generalize ckR p = r0 at HC
      generalize ckI p = r1 at HC
      clear he hr hok hky hsl htn f1
      go_enter Tryz.func7, Tryz.ntmps7
      go_wp2_with (go_at_call 11; refine (HC.out _ HW.out.bel).mono ?_; rintro e w1 ⟨rfl, hb1⟩; have HW1 := Lib.hid (HW.out.keep hb1); clear hb1; obtain ⟨b0, b1, b2, b3⟩ := HW1.out.cells; have lw1 := lt_of_heap HW1.out.bx)
      go_wp2_with (go_at_call 9; refine (HF.out _ HW1.out.bel).mono ?_; rintro e w2 ⟨rfl, hb2⟩; have HW2 := Lib.hid (HW1.out.keep hb2); clear hb2 b0 b1 b2 b3; obtain ⟨b0, b1, b2, b3⟩ := HW2.out.cells; have lw2 := lt_of_heap HW2.out.bx)
      go_wp2_with (go_at_call 13; refine (HO.out _ HW2.out.bel).mono ?_; rintro e w3 ⟨y, rfl, hy3, hb3⟩; have HW3 := Lib.hid (HW2.out.keep hb3); have HY3 := Lib.hid hy3; clear hb3 hy3 b0 b1 b2 b3; obtain ⟨b0, b1, b2, b3⟩ := HW3.out.cells; have lw3 := lt_of_heap HW3.out.bx)
      have HQ := Lib.hid (bq_new HW3.out HY3.out)
      clear b0 b1 b2 b3 lw3
      generalize w3.alloc (.cells #[.string ⟨p.nm.toArray⟩, .slice y.s0 p.p0.length y.c0, .slice y.s1 p.p1.length y.c1, .slice y.s2 p.ms.length y.c2] 35) = w4 at *
      generalize w3.heap.size = qb at *
      have HM := Lib.hid (fun (t : Int) (k : Nat) (hk : k < p.ms.length) wx (h : PatA wx y p) => by
        have h1 := metN_any y p 2 t (k + 1) wx h HR.out (by have := (right_bd HR.out).2.2.1; omega)
        rw [show (((k + 1 : Nat)) : Int) = (k : Int) + 1 from by omega] at h1
        exact h1)
      have HTD := Lib.hid (fun (r : Int) (hr : r = 0 ∨ r = 1) (k : Nat) (hk : k < p.ms.length) wx (h : PatA wx y p) => by
        have h1 := toldN_any y p r 1 hr (k + 1) wx h HR.out (by have := (right_bd HR.out).2.2.1; omega)
        rw [show (((k + 1 : Nat)) : Int) = (k : Int) + 1 from by omega] at h1
        exact h1)
      have hn65 : (p.ms.length : Int) ≤ 65536 := by have := (right_bd HR.out).2.2.1; omega
      unfold patV at HM HTD
      go_loopg [29] p.ms.length (fun g u29 wr => ∃ k : Nat, k + g = p.ms.length ∧ u29 = .int .i64 k ∧ Aside (Bq w w.heap.size qb x y p wr))
      case atStart => exact ⟨0, by omega, rfl, HQ.out⟩
      case round =>
        obtain ⟨k, hkg, rfl, hq⟩ := hrel
        have HQR := Lib.hid hq.out; clear hq
        obtain ⟨⟨q0, q1, q2, q3⟩, lb, lq⟩ := HQR.out.cells
        by_cases hlt : k < p.ms.length
        · have hk2 : (k : Int) < p.ms.length := by omega
          obtain ⟨g, o, hs, hia⟩ := (HP.out.im.keep HQR.out.bx.bel) (by omega)
          obtain ⟨s0, c0, s1, c1, s2, c2⟩ := x
          simp only at hs
          subst hs
          obtain ⟨m0, sx, cx, m1, -⟩ := hia k hlt
          clear hia
          have lg := World.block_lt_of_cell? _ _ m0
          have hfr := (right_ms' HR.out (m := p.ms.getD k default) (by rw [List.getD_eq_getElem?_getD, List.getElem?_eq_getElem hlt]; exact List.getElem_mem _)).1
          have hsl := sl_ok (HSL.out k hlt)
          obtain ⟨fr, hf⟩ : ∃ f, f = (p.ms.getD k default).fr := ⟨_, rfl⟩
          rw [← hf] at m0 hfr hsl
          clear hf
          generalize (p.ms.getD k default).t.length = tl at m1
          have HQA := Lib.hid (HQR.out.keep ((Below.refl _ _).alloc (Nat.le_refl _) (.cells #[.int .i64 fr, .slice sx tl cx] 46)))
          have HBX := Lib.hid (heap_alloc_new wr (.cells #[.int .i64 fr, .slice sx tl cx] 46))
          have HMS := Lib.hid (fun t wx h => HM.out t k hlt wx h)
          have HTS := Lib.hid (fun wx h => HTD.out fr hfr k hlt wx h)
          obtain ⟨va, hva⟩ : ∃ v, v = met 2 (stT fr) (flat (p.ms.take (k + 1))) := ⟨_, rfl⟩
          obtain ⟨vb, hvb⟩ : ∃ v, v = met 2 3 (flat (p.ms.take (k + 1))) := ⟨_, rfl⟩
          obtain ⟨vc, hvc⟩ : ∃ v, v = met 2 7 (flat (p.ms.take (k + 1))) := ⟨_, rfl⟩
          have HMA := Lib.hid (fun wx h => HMS.out (stT fr) wx h)
          have HMB := Lib.hid (fun wx h => HMS.out 3 wx h)
          have HMC := Lib.hid (fun wx h => HMS.out 7 wx h)
          rw [← hva] at HMA hsl
          rw [← hvb] at HMB hsl
          rw [← hvc] at HMC hsl
          obtain ⟨ht1, ht2⟩ := hsl
          clear hva hvb hvc HMS
          rcases hfr with rfl | rfl
          · have e5 : stT 0 = 5 := rfl
            rw [e5] at HMA
            clear e5
            rcases Nat.eq_zero_or_pos va with hA | hA
            · subst hA
              rw [natZero] at HMA
              clear ht1
              rcases Nat.eq_zero_or_pos vc with hC | hC
              · subst hC
                rw [natZero] at HMC
                clear ht2
                go_wp2_with fail
                go_at_call 18
                refine (HMA.out _ HQA.out.pa).mono ?_
                rintro e w5 ⟨rfl, hb5⟩
                have HQ5 := Lib.hid (HQA.out.keep hb5)
                have HB5 := Lib.hid ((hb5.block _ (lt_of_heap HBX.out)).trans HBX.out)
                clear hb5 q0 q1 q2 q3 lb lq
                obtain ⟨⟨q0, q1, q2, q3⟩, lb, lq⟩ := HQ5.out.cells
                obtain ⟨n0, n1⟩ := box2c HB5.out
                go_wp2_with fail
                go_at_call 18
                refine (HMC.out _ HQ5.out.pa).mono ?_
                rintro e w7 ⟨rfl, hb7⟩
                have HQ7 := Lib.hid (HQ5.out.keep hb7)
                have HB7 := Lib.hid ((hb7.block _ (lt_of_heap HB5.out)).trans HB5.out)
                clear hb7 q0 q1 q2 q3 lb lq n0 n1
                obtain ⟨⟨q0, q1, q2, q3⟩, lb, lq⟩ := HQ7.out.cells
                obtain ⟨n0, n1⟩ := box2c HB7.out
                go_wp2_with fail
                go_roundg (p.ms.length - (k + 1))
                case measure => omega
                case rel => exact ⟨k + 1, by omega, by go_num, HQ7.out⟩
              · have hC2 : (0 : Int) < vc := by omega
                rw [ht2 hC] at HTS
                clear ht2
                go_wp2_with fail
                go_at_call 18
                refine (HMA.out _ HQA.out.pa).mono ?_
                rintro e w5 ⟨rfl, hb5⟩
                have HQ5 := Lib.hid (HQA.out.keep hb5)
                have HB5 := Lib.hid ((hb5.block _ (lt_of_heap HBX.out)).trans HBX.out)
                clear hb5 q0 q1 q2 q3 lb lq
                obtain ⟨⟨q0, q1, q2, q3⟩, lb, lq⟩ := HQ5.out.cells
                obtain ⟨n0, n1⟩ := box2c HB5.out
                go_wp2_with fail
                go_at_call 18
                refine (HMC.out _ HQ5.out.pa).mono ?_
                rintro e w7 ⟨rfl, hb7⟩
                have HQ7 := Lib.hid (HQ5.out.keep hb7)
                have HB7 := Lib.hid ((hb7.block _ (lt_of_heap HB5.out)).trans HB5.out)
                clear hb7 q0 q1 q2 q3 lb lq n0 n1
                obtain ⟨⟨q0, q1, q2, q3⟩, lb, lq⟩ := HQ7.out.cells
                obtain ⟨n0, n1⟩ := box2c HB7.out
                go_wp2_with fail
                go_at_call 20
                refine (HTS.out _ HQ7.out.pa).mono ?_
                rintro e w8 ⟨rfl, hb8⟩
                have HQ8 := Lib.hid (HQ7.out.keep hb8)
                clear hb8 q0 q1 q2 q3 lb lq n0 n1
                go_wp2_with fail
                go_roundg (p.ms.length - (k + 1))
                case measure => omega
                case rel => exact ⟨k + 1, by omega, by go_num, HQ8.out⟩
            · have hA2 : (0 : Int) < va := by omega
              have hB := ht1 hA
              have hB2 : (vb == 0) = false := by simpa using hB
              have hB3 : ((vb : Int) == 0) = false := by simp; omega
              clear ht1 hB
              rcases Nat.eq_zero_or_pos vc with hC | hC
              · subst hC
                rw [natZero] at HMC
                clear ht2
                go_wp2_with fail
                go_at_call 18
                refine (HMA.out _ HQA.out.pa).mono ?_
                rintro e w5 ⟨rfl, hb5⟩
                have HQ5 := Lib.hid (HQA.out.keep hb5)
                have HB5 := Lib.hid ((hb5.block _ (lt_of_heap HBX.out)).trans HBX.out)
                clear hb5 q0 q1 q2 q3 lb lq
                obtain ⟨⟨q0, q1, q2, q3⟩, lb, lq⟩ := HQ5.out.cells
                obtain ⟨n0, n1⟩ := box2c HB5.out
                go_wp2_with fail
                go_at_call 18
                refine (HMB.out _ HQ5.out.pa).mono ?_
                rintro e w6 ⟨rfl, hb6⟩
                have HQ6 := Lib.hid (HQ5.out.keep hb6)
                have HB6 := Lib.hid ((hb6.block _ (lt_of_heap HB5.out)).trans HB5.out)
                clear hb6 q0 q1 q2 q3 lb lq n0 n1
                obtain ⟨⟨q0, q1, q2, q3⟩, lb, lq⟩ := HQ6.out.cells
                obtain ⟨n0, n1⟩ := box2c HB6.out
                go_wp2_with fail
                go_at_call 18
                refine (HMC.out _ HQ6.out.pa).mono ?_
                rintro e w7 ⟨rfl, hb7⟩
                have HQ7 := Lib.hid (HQ6.out.keep hb7)
                have HB7 := Lib.hid ((hb7.block _ (lt_of_heap HB6.out)).trans HB6.out)
                clear hb7 q0 q1 q2 q3 lb lq n0 n1
                obtain ⟨⟨q0, q1, q2, q3⟩, lb, lq⟩ := HQ7.out.cells
                obtain ⟨n0, n1⟩ := box2c HB7.out
                go_wp2_with fail
                go_roundg (p.ms.length - (k + 1))
                case measure => omega
                case rel => exact ⟨k + 1, by omega, by go_num, HQ7.out⟩
              · have hC2 : (0 : Int) < vc := by omega
                rw [ht2 hC] at HTS
                clear ht2
                go_wp2_with fail
                go_at_call 18
                refine (HMA.out _ HQA.out.pa).mono ?_
                rintro e w5 ⟨rfl, hb5⟩
                have HQ5 := Lib.hid (HQA.out.keep hb5)
                have HB5 := Lib.hid ((hb5.block _ (lt_of_heap HBX.out)).trans HBX.out)
                clear hb5 q0 q1 q2 q3 lb lq
                obtain ⟨⟨q0, q1, q2, q3⟩, lb, lq⟩ := HQ5.out.cells
                obtain ⟨n0, n1⟩ := box2c HB5.out
                go_wp2_with fail
                go_at_call 18
                refine (HMB.out _ HQ5.out.pa).mono ?_
                rintro e w6 ⟨rfl, hb6⟩
                have HQ6 := Lib.hid (HQ5.out.keep hb6)
                have HB6 := Lib.hid ((hb6.block _ (lt_of_heap HB5.out)).trans HB5.out)
                clear hb6 q0 q1 q2 q3 lb lq n0 n1
                obtain ⟨⟨q0, q1, q2, q3⟩, lb, lq⟩ := HQ6.out.cells
                obtain ⟨n0, n1⟩ := box2c HB6.out
                go_wp2_with fail
                go_at_call 18
                refine (HMC.out _ HQ6.out.pa).mono ?_
                rintro e w7 ⟨rfl, hb7⟩
                have HQ7 := Lib.hid (HQ6.out.keep hb7)
                have HB7 := Lib.hid ((hb7.block _ (lt_of_heap HB6.out)).trans HB6.out)
                clear hb7 q0 q1 q2 q3 lb lq n0 n1
                obtain ⟨⟨q0, q1, q2, q3⟩, lb, lq⟩ := HQ7.out.cells
                obtain ⟨n0, n1⟩ := box2c HB7.out
                go_wp2_with fail
                go_at_call 20
                refine (HTS.out _ HQ7.out.pa).mono ?_
                rintro e w8 ⟨rfl, hb8⟩
                have HQ8 := Lib.hid (HQ7.out.keep hb8)
                clear hb8 q0 q1 q2 q3 lb lq n0 n1
                go_wp2_with fail
                go_roundg (p.ms.length - (k + 1))
                case measure => omega
                case rel => exact ⟨k + 1, by omega, by go_num, HQ8.out⟩
          · have e5 : stT 1 = 4 := rfl
            rw [e5] at HMA
            clear e5
            rcases Nat.eq_zero_or_pos va with hA | hA
            · subst hA
              rw [natZero] at HMA
              clear ht1
              rcases Nat.eq_zero_or_pos vc with hC | hC
              · subst hC
                rw [natZero] at HMC
                clear ht2
                go_wp2_with fail
                go_at_call 18
                refine (HMA.out _ HQA.out.pa).mono ?_
                rintro e w5 ⟨rfl, hb5⟩
                have HQ5 := Lib.hid (HQA.out.keep hb5)
                have HB5 := Lib.hid ((hb5.block _ (lt_of_heap HBX.out)).trans HBX.out)
                clear hb5 q0 q1 q2 q3 lb lq
                obtain ⟨⟨q0, q1, q2, q3⟩, lb, lq⟩ := HQ5.out.cells
                obtain ⟨n0, n1⟩ := box2c HB5.out
                go_wp2_with fail
                go_at_call 18
                refine (HMC.out _ HQ5.out.pa).mono ?_
                rintro e w7 ⟨rfl, hb7⟩
                have HQ7 := Lib.hid (HQ5.out.keep hb7)
                have HB7 := Lib.hid ((hb7.block _ (lt_of_heap HB5.out)).trans HB5.out)
                clear hb7 q0 q1 q2 q3 lb lq n0 n1
                obtain ⟨⟨q0, q1, q2, q3⟩, lb, lq⟩ := HQ7.out.cells
                obtain ⟨n0, n1⟩ := box2c HB7.out
                go_wp2_with fail
                go_roundg (p.ms.length - (k + 1))
                case measure => omega
                case rel => exact ⟨k + 1, by omega, by go_num, HQ7.out⟩
              · have hC2 : (0 : Int) < vc := by omega
                rw [ht2 hC] at HTS
                clear ht2
                go_wp2_with fail
                go_at_call 18
                refine (HMA.out _ HQA.out.pa).mono ?_
                rintro e w5 ⟨rfl, hb5⟩
                have HQ5 := Lib.hid (HQA.out.keep hb5)
                have HB5 := Lib.hid ((hb5.block _ (lt_of_heap HBX.out)).trans HBX.out)
                clear hb5 q0 q1 q2 q3 lb lq
                obtain ⟨⟨q0, q1, q2, q3⟩, lb, lq⟩ := HQ5.out.cells
                obtain ⟨n0, n1⟩ := box2c HB5.out
                go_wp2_with fail
                go_at_call 18
                refine (HMC.out _ HQ5.out.pa).mono ?_
                rintro e w7 ⟨rfl, hb7⟩
                have HQ7 := Lib.hid (HQ5.out.keep hb7)
                have HB7 := Lib.hid ((hb7.block _ (lt_of_heap HB5.out)).trans HB5.out)
                clear hb7 q0 q1 q2 q3 lb lq n0 n1
                obtain ⟨⟨q0, q1, q2, q3⟩, lb, lq⟩ := HQ7.out.cells
                obtain ⟨n0, n1⟩ := box2c HB7.out
                go_wp2_with fail
                go_at_call 20
                refine (HTS.out _ HQ7.out.pa).mono ?_
                rintro e w8 ⟨rfl, hb8⟩
                have HQ8 := Lib.hid (HQ7.out.keep hb8)
                clear hb8 q0 q1 q2 q3 lb lq n0 n1
                go_wp2_with fail
                go_roundg (p.ms.length - (k + 1))
                case measure => omega
                case rel => exact ⟨k + 1, by omega, by go_num, HQ8.out⟩
            · have hA2 : (0 : Int) < va := by omega
              have hB := ht1 hA
              have hB2 : (vb == 0) = false := by simpa using hB
              have hB3 : ((vb : Int) == 0) = false := by simp; omega
              clear ht1 hB
              rcases Nat.eq_zero_or_pos vc with hC | hC
              · subst hC
                rw [natZero] at HMC
                clear ht2
                go_wp2_with fail
                go_at_call 18
                refine (HMA.out _ HQA.out.pa).mono ?_
                rintro e w5 ⟨rfl, hb5⟩
                have HQ5 := Lib.hid (HQA.out.keep hb5)
                have HB5 := Lib.hid ((hb5.block _ (lt_of_heap HBX.out)).trans HBX.out)
                clear hb5 q0 q1 q2 q3 lb lq
                obtain ⟨⟨q0, q1, q2, q3⟩, lb, lq⟩ := HQ5.out.cells
                obtain ⟨n0, n1⟩ := box2c HB5.out
                go_wp2_with fail
                go_at_call 18
                refine (HMB.out _ HQ5.out.pa).mono ?_
                rintro e w6 ⟨rfl, hb6⟩
                have HQ6 := Lib.hid (HQ5.out.keep hb6)
                have HB6 := Lib.hid ((hb6.block _ (lt_of_heap HB5.out)).trans HB5.out)
                clear hb6 q0 q1 q2 q3 lb lq n0 n1
                obtain ⟨⟨q0, q1, q2, q3⟩, lb, lq⟩ := HQ6.out.cells
                obtain ⟨n0, n1⟩ := box2c HB6.out
                go_wp2_with fail
                go_at_call 18
                refine (HMC.out _ HQ6.out.pa).mono ?_
                rintro e w7 ⟨rfl, hb7⟩
                have HQ7 := Lib.hid (HQ6.out.keep hb7)
                have HB7 := Lib.hid ((hb7.block _ (lt_of_heap HB6.out)).trans HB6.out)
                clear hb7 q0 q1 q2 q3 lb lq n0 n1
                obtain ⟨⟨q0, q1, q2, q3⟩, lb, lq⟩ := HQ7.out.cells
                obtain ⟨n0, n1⟩ := box2c HB7.out
                go_wp2_with fail
                go_roundg (p.ms.length - (k + 1))
                case measure => omega
                case rel => exact ⟨k + 1, by omega, by go_num, HQ7.out⟩
              · have hC2 : (0 : Int) < vc := by omega
                rw [ht2 hC] at HTS
                clear ht2
                go_wp2_with fail
                go_at_call 18
                refine (HMA.out _ HQA.out.pa).mono ?_
                rintro e w5 ⟨rfl, hb5⟩
                have HQ5 := Lib.hid (HQA.out.keep hb5)
                have HB5 := Lib.hid ((hb5.block _ (lt_of_heap HBX.out)).trans HBX.out)
                clear hb5 q0 q1 q2 q3 lb lq
                obtain ⟨⟨q0, q1, q2, q3⟩, lb, lq⟩ := HQ5.out.cells
                obtain ⟨n0, n1⟩ := box2c HB5.out
                go_wp2_with fail
                go_at_call 18
                refine (HMB.out _ HQ5.out.pa).mono ?_
                rintro e w6 ⟨rfl, hb6⟩
                have HQ6 := Lib.hid (HQ5.out.keep hb6)
                have HB6 := Lib.hid ((hb6.block _ (lt_of_heap HB5.out)).trans HB5.out)
                clear hb6 q0 q1 q2 q3 lb lq n0 n1
                obtain ⟨⟨q0, q1, q2, q3⟩, lb, lq⟩ := HQ6.out.cells
                obtain ⟨n0, n1⟩ := box2c HB6.out
                go_wp2_with fail
                go_at_call 18
                refine (HMC.out _ HQ6.out.pa).mono ?_
                rintro e w7 ⟨rfl, hb7⟩
                have HQ7 := Lib.hid (HQ6.out.keep hb7)
                have HB7 := Lib.hid ((hb7.block _ (lt_of_heap HB6.out)).trans HB6.out)
                clear hb7 q0 q1 q2 q3 lb lq n0 n1
                obtain ⟨⟨q0, q1, q2, q3⟩, lb, lq⟩ := HQ7.out.cells
                obtain ⟨n0, n1⟩ := box2c HB7.out
                go_wp2_with fail
                go_at_call 20
                refine (HTS.out _ HQ7.out.pa).mono ?_
                rintro e w8 ⟨rfl, hb8⟩
                have HQ8 := Lib.hid (HQ7.out.keep hb8)
                clear hb8 q0 q1 q2 q3 lb lq n0 n1
                go_wp2_with fail
                go_roundg (p.ms.length - (k + 1))
                case measure => omega
                case rel => exact ⟨k + 1, by omega, by go_num, HQ8.out⟩
        · have hk2 : ¬ (k : Int) < p.ms.length := by omega
          clear q0 q1 q2 q3
          go_wp2_with (go_at_call 10; refine (HA.out _ HQR.out.bx.bel).mono ?_; rintro e w9 ⟨rfl, hb9⟩; have HB9 := Lib.hid (HQR.out.bx.bel.trans (hb9.mono HQR.out.bx.bel.size)); clear hb9)
          go_ret
          exact ⟨rfl, HB9.out⟩
    · have heb : (ckE p != 0) = true := by simpa using he
      generalize ckR p = r0 at HC
      generalize ckI p = r1 at HC
      generalize ckE p = r2 at HC heb
      clear he f1
      go_enter Tryz.func7, Tryz.ntmps7
      go_wp2_with (go_at_call 11; refine (HC.out _ HW.out.bel).mono ?_; rintro e w1 ⟨rfl, hb1⟩; have HW1 := Lib.hid (HW.out.keep hb1); clear hb1; obtain ⟨b0, b1, b2, b3⟩ := HW1.out.cells; have lw1 := lt_of_heap HW1.out.bx)
      go_wp2_with (go_at_call 9; refine (HF.out _ HW1.out.bel).mono ?_; rintro e w2 ⟨rfl, hb2⟩; have HW2 := Lib.hid (HW1.out.keep hb2); clear hb2 b0 b1 b2 b3; obtain ⟨b0, b1, b2, b3⟩ := HW2.out.cells; have lw2 := lt_of_heap HW2.out.bx)
      go_wp2_with (go_at_call 10; refine (HA.out _ HW2.out.bel).mono ?_; rintro e w9 ⟨rfl, hb9⟩; have HB9 := Lib.hid (HW2.out.bel.trans (hb9.mono HW2.out.bel.size)); clear hb9)
      go_ret
      exact ⟨rfl, HB9.out⟩
end Go.Proofs.YtobpnjjgpoompaaGreatDoor
