/- Layer 7: the law ValidPre. -/
import Derived.Test.YtobpnjjgpoompaaGreatDoorCm
namespace Go.Proofs.YtobpnjjgpoompaaGreatDoor
open Go.RowKit Go.Shelf

set_option maxRecDepth 100000 in
set_option maxHeartbeats 4000000 in
theorem pre_good (x : Sl) (p : Pt) (w : World) (hE : Ev w) (hp : PatA w x p) : Calls Tryz.prog 6 #[patV x p] w fun e w' => e = .returned (.bool true) ∧ Below w.heap.size w w' := by
  have HE := Lib.hid hE; clear hE
  have HP := Lib.hid hp; clear hp
  have HA := Lib.hid (fun wx (hb : Below w.heap.size w wx) => awake_any wx (HE.out.keep hb))
  have HF := Lib.hid (fun wx (hb : Below w.heap.size w wx) => few_any x p wx (HP.out.keep hb))
  have HC := Lib.hid (fun wx (hb : Below w.heap.size w wx) => check_any x p wx (HP.out.keep hb) (HE.out.ky.keep hb))
  have HW := Lib.hid (bx_new w x p)
  unfold patV at HF HC ⊢
  cases f1 : fewB p with
  | false =>
    rw [f1] at HF
    clear f1
    generalize ckR p = r0 at HC
    generalize ckI p = r1 at HC
    generalize ckE p = r2 at HC
    go_enter Tryz.func6, Tryz.ntmps6
    go_wp2_with (go_at_call 11; refine (HC.out _ HW.out.bel).mono ?_; rintro e w1 ⟨rfl, hb1⟩; have HW1 := Lib.hid (HW.out.keep hb1); clear hb1; obtain ⟨b0, b1, b2, b3⟩ := HW1.out.cells; have lw1 := lt_of_heap HW1.out.bx)
    go_wp2_with (go_at_call 9; refine (HF.out _ HW1.out.bel).mono ?_; rintro e w2 ⟨rfl, hb2⟩; have HW2 := Lib.hid (HW1.out.keep hb2); clear hb2 b0 b1 b2 b3; obtain ⟨b0, b1, b2, b3⟩ := HW2.out.cells; have lw2 := lt_of_heap HW2.out.bx)
    go_wp2_with (go_at_call 10; refine (HA.out _ HW2.out.bel).mono ?_; rintro e w9 ⟨rfl, hb9⟩; have HB9 := Lib.hid (HW2.out.bel.trans (hb9.mono HW2.out.bel.size)); clear hb9)
    go_ret
    exact ⟨rfl, HB9.out⟩
  | true =>
    rw [f1] at HF
    by_cases he : ckE p = 0
    · obtain ⟨hr, hok, hky, hsl, htn⟩ := ck_ok he
      have HO := Lib.hid (fun wx (hb : Below w.heap.size w wx) => of_any x p (right_bd hr).2.2.1 wx (HP.out.keep hb))
      have HR := Lib.hid hr
      have HOK := Lib.hid hok
      have HKY := Lib.hid hky
      have HSL := Lib.hid hsl
      have HTN := Lib.hid htn
      unfold patV at HO
      rw [he] at HC
      generalize ckR p = r0 at HC
      generalize ckI p = r1 at HC
      clear he hr hok hky hsl htn f1
      go_enter Tryz.func6, Tryz.ntmps6
      go_wp2_with (go_at_call 11; refine (HC.out _ HW.out.bel).mono ?_; rintro e w1 ⟨rfl, hb1⟩; have HW1 := Lib.hid (HW.out.keep hb1); clear hb1; obtain ⟨b0, b1, b2, b3⟩ := HW1.out.cells; have lw1 := lt_of_heap HW1.out.bx)
      go_wp2_with (go_at_call 9; refine (HF.out _ HW1.out.bel).mono ?_; rintro e w2 ⟨rfl, hb2⟩; have HW2 := Lib.hid (HW1.out.keep hb2); clear hb2 b0 b1 b2 b3; obtain ⟨b0, b1, b2, b3⟩ := HW2.out.cells; have lw2 := lt_of_heap HW2.out.bx)
      go_wp2_with (go_at_call 13; refine (HO.out _ HW2.out.bel).mono ?_; rintro e w3 ⟨y, rfl, hy3, hb3⟩; have HW3 := Lib.hid (HW2.out.keep hb3); have HY3 := Lib.hid hy3; clear hb3 hy3 b0 b1 b2 b3; obtain ⟨b0, b1, b2, b3⟩ := HW3.out.cells; have lw3 := lt_of_heap HW3.out.bx)
      have HQ := Lib.hid (bq_new HW3.out HY3.out)
      clear b0 b1 b2 b3 lw3
      generalize w3.alloc (.cells #[.string ⟨p.nm.toArray⟩, .slice y.s0 p.p0.length y.c0, .slice y.s1 p.p1.length y.c1, .slice y.s2 p.ms.length y.c2] 35) = w4 at *
      generalize w3.heap.size = qb at *
      have HM := Lib.hid (fun (who t : Int) (hw : who = 0 ∨ who = 1) (ht : t ∈ prw p who) wx (h : PatA wx y p) => by
        have h1 := metA_any y p who t wx h HR.out
        have h2 : t = 1 ∨ t = 2 := by
          have := right_pre HR.out
          rcases hw with rfl | rfl
          · exact this.2.1 t ht
          · exact this.2.2 t ht
        rw [(HOK.out.s who t hw h2).2 (by rw [List.contains_iff_mem]; exact ht), natZero] at h1
        exact h1)
      have HBD := Lib.hid (right_bd HR.out)
      have hz0 : (p.p0.length : Int) ≤ 65536 := by have := HBD.out.1; omega
      have hz1 : (p.p1.length : Int) ≤ 65536 := by have := HBD.out.2.1; omega
      unfold patV at HM
      obtain ⟨b0, b1, b2, b3⟩ := HQ.out.bx.cells
      have lb := lt_of_heap HQ.out.bx.bx
      refine wp_loop_rounds 3 ?_
      rw [rounds_succ]
      go_wp2_with fail
      clear b0 b1 b2 b3 lb
      go_loopg [34] p.p0.length (fun g u34 wr => ∃ i : Nat, i + g = p.p0.length ∧ u34 = .int .i64 i ∧ Aside (Bq w w.heap.size qb x y p wr))
      case atStart => exact ⟨0, by omega, rfl, HQ.out⟩
      case round =>
        obtain ⟨i, hig, rfl, hq⟩ := hrel
        have HQR := Lib.hid hq.out; clear hq
        obtain ⟨⟨q0, q1, q2, q3⟩, lb, lq⟩ := HQR.out.cells
        by_cases hlt : i < p.p0.length
        · obtain ⟨g, o, hs, hia⟩ := (HP.out.i0.keep HQR.out.bx.bel) (by omega)
          obtain ⟨s0, c0, s1, c1, s2, c2⟩ := x
          simp only at hs
          subst hs
          have hx := hia i hlt
          clear hia
          obtain ⟨t, hxx⟩ : ∃ t, t = p.p0.getD i 0 := ⟨_, rfl⟩
          rw [← hxx] at hx
          have HT : Hid (t ∈ prw p 0) := Lib.hid (by
            have e : prw p 0 = p.p0 := by unfold prw; simp
            rw [e, hxx, List.getD_eq_getElem?_getD, List.getElem?_eq_getElem hlt]; exact List.getElem_mem _)
          clear hxx
          have hi2 : (i : Int) < p.p0.length := by omega
          have HMT := Lib.hid (HM.out 0 t (by decide) HT.out wr HQR.out.pa)
          go_wp2_with (go_at_call 18; refine HMT.out.mono ?_; rintro e w5 ⟨rfl, hb5⟩; have HQ5 := Lib.hid (HQR.out.keep hb5); clear hb5 q0 q1 q2 q3)
          go_roundg (p.p0.length - (i + 1))
          case measure => omega
          case rel => exact ⟨i + 1, by omega, by go_num, HQ5.out⟩
        · have hi2 : ¬ (i : Int) < p.p0.length := by omega
          have HQ1 := Lib.hid HQR.out
          clear q0 q1 q2 q3
          obtain ⟨b0, b1, b2, b3⟩ := HQR.out.bx.cells
          go_wp2_with fail
          rw [rounds_succ]
          go_wp2_with fail
          clear b0 b1 b2 b3 lb lq
          go_loopg [34] p.p1.length (fun g u34 wr => ∃ i : Nat, i + g = p.p1.length ∧ u34 = .int .i64 i ∧ Aside (Bq w w.heap.size qb x y p wr))
          case atStart => exact ⟨0, by omega, rfl, HQ1.out⟩
          case round =>
            obtain ⟨i, hig, rfl, hq⟩ := hrel
            have HQR := Lib.hid hq.out; clear hq
            obtain ⟨⟨q0, q1, q2, q3⟩, lb, lq⟩ := HQR.out.cells
            by_cases hlt : i < p.p1.length
            · obtain ⟨g, o, hs, hia⟩ := (HP.out.i1.keep HQR.out.bx.bel) (by omega)
              obtain ⟨s0, c0, s1, c1, s2, c2⟩ := x
              simp only at hs
              subst hs
              have hx := hia i hlt
              clear hia
              obtain ⟨t, hxx⟩ : ∃ t, t = p.p1.getD i 0 := ⟨_, rfl⟩
              rw [← hxx] at hx
              have HT : Hid (t ∈ prw p 1) := Lib.hid (by
                have e : prw p 1 = p.p1 := by unfold prw; simp
                rw [e, hxx, List.getD_eq_getElem?_getD, List.getElem?_eq_getElem hlt]; exact List.getElem_mem _)
              clear hxx
              have hi2 : (i : Int) < p.p1.length := by omega
              have HMT := Lib.hid (HM.out 1 t (by decide) HT.out wr HQR.out.pa)
              go_wp2_with (go_at_call 18; refine HMT.out.mono ?_; rintro e w5 ⟨rfl, hb5⟩; have HQ5 := Lib.hid (HQR.out.keep hb5); clear hb5 q0 q1 q2 q3)
              go_roundg (p.p1.length - (i + 1))
              case measure => omega
              case rel => exact ⟨i + 1, by omega, by go_num, HQ5.out⟩
            · have hi2 : ¬ (i : Int) < p.p1.length := by omega
              have HQ2 := Lib.hid HQR.out
              clear q0 q1 q2 q3
              obtain ⟨b0, b1, b2, b3⟩ := HQR.out.bx.cells
              go_wp2_with fail
              rw [rounds_succ]
              go_wp2_with (go_at_call 10; refine (HA.out _ HQ2.out.bx.bel).mono ?_; rintro e w9 ⟨rfl, hb9⟩; have HB9 := Lib.hid (HQ2.out.bx.bel.trans (hb9.mono HQ2.out.bx.bel.size)); clear hb9)
              go_ret
              exact ⟨rfl, HB9.out⟩
    · have heb : (ckE p != 0) = true := by simpa using he
      generalize ckR p = r0 at HC
      generalize ckI p = r1 at HC
      generalize ckE p = r2 at HC heb
      clear he f1
      go_enter Tryz.func6, Tryz.ntmps6
      go_wp2_with (go_at_call 11; refine (HC.out _ HW.out.bel).mono ?_; rintro e w1 ⟨rfl, hb1⟩; have HW1 := Lib.hid (HW.out.keep hb1); clear hb1; obtain ⟨b0, b1, b2, b3⟩ := HW1.out.cells; have lw1 := lt_of_heap HW1.out.bx)
      go_wp2_with (go_at_call 9; refine (HF.out _ HW1.out.bel).mono ?_; rintro e w2 ⟨rfl, hb2⟩; have HW2 := Lib.hid (HW1.out.keep hb2); clear hb2 b0 b1 b2 b3; obtain ⟨b0, b1, b2, b3⟩ := HW2.out.cells; have lw2 := lt_of_heap HW2.out.bx)
      go_wp2_with (go_at_call 10; refine (HA.out _ HW2.out.bel).mono ?_; rintro e w9 ⟨rfl, hb9⟩; have HB9 := Lib.hid (HW2.out.bel.trans (hb9.mono HW2.out.bel.size)); clear hb9)
      go_ret
      exact ⟨rfl, HB9.out⟩
end Go.Proofs.YtobpnjjgpoompaaGreatDoor
