/- The law TokenPrints. -/
import Derived.Test.YtdihgfpnogiblaaDoorLa
import Derived.Test.YtdihgfpnogiblaaDoorNa
import Derived.Test.YtdihgfpnogiblaaDoorNd
import Derived.Test.YtdihgfpnogiblaaDoorNe
namespace Go.Proofs.YtdihgfpnogiblaaDoor
open Go.RowKit Go.Shelf

set_option maxRecDepth 100000 in
set_option maxHeartbeats 8000000 in
theorem prints_good (x : Sl) (p : Pt) (w : World) (hE : En w) (hp : PatA w x p) : Calls Tryd.prog 3 #[patV x p] w fun e w' => e = .returned (.bool true) ∧ Below w.heap.size w w' := by
  have HE := Lib.hid hE; clear hE
  have HP := Lib.hid hp; clear hp
  have HA := Lib.hid (fun wx (hb : Below w.heap.size w wx) => awake_any wx (HE.out.keep hb))
  have HF := Lib.hid (fun wx (hb : Below w.heap.size w wx) => few_any x p wx (HP.out.keep hb))
  have HPR := Lib.hid (fun wx (hb : Below w.heap.size w wx) => print_any x p wx (HP.out.keep hb) (HE.out.keep hb))
  have HRT := Lib.hid (fun wx (hb : Below w.heap.size w wx) => right_any x p wx (HP.out.keep hb))
  have HW := Lib.hid (bx_new w x p)
  cases f1 : fewB p with
  | false =>
    rw [f1] at HF
    clear f1 HP HRT
    unfold patV at *
    go_enter Tryd.func3, Tryd.ntmps3
    go_wp2_with (first
      | (go_at_call 9; refine (HF.out _ HW.out.bel).mono ?_; rintro e w1 ⟨rfl, hb1⟩; have HB1 := Lib.hid (HW.out.keep hb1).bel; clear hb1)
      | (go_at_call 10; refine (HA.out _ HB1.out).mono ?_; rintro e w9 ⟨rfl, hb9⟩; have HB9 := Lib.hid (HB1.out.trans (hb9.mono HB1.out.size)); clear hb9))
    go_ret
    exact ⟨rfl, HB9.out⟩
  | true =>
    rw [f1] at HF
    have HSH := Lib.hid (few_short f1)
    have HO := Lib.hid (fun wx (hb : Below w.heap.size w wx) => of_any x p HSH.out.2.2.1 wx (HP.out.keep hb))
    have HRR := Lib.hid (fun u wx (h : PatA wx u p) => rright_any u p wx h (by
      simp only [fewB, Bool.and_eq_true, decide_eq_true_eq] at f1
      omega) HSH.out.2.2.1)
    clear f1
    cases hr : right p with
    | false =>
      have e1 : prnR p = [] := by unfold prnR; rw [hr]; rfl
      have e2 : prnE p = 1 := by unfold prnE; rw [hr]; rfl
      rw [e1, e2] at HPR
      rw [hr] at HRT HRR
      clear hr e1 e2 HP
      unfold patV at *
      go_enter Tryd.func3, Tryd.ntmps3
      go_wp2_with (first
        | (go_at_call 9; refine (HF.out _ HW.out.bel).mono ?_; rintro e w1 ⟨rfl, hb1⟩; have HB1 := Lib.hid (HW.out.keep hb1); clear hb1; obtain ⟨a0, a1, a2, a3⟩ := HB1.out.cells)
        | (go_at_call 11; refine (HPR.out _ HB1.out.bel).mono ?_; rintro e w2 ⟨rfl, hb2⟩; have HB2 := Lib.hid (HB1.out.keep hb2); clear hb2 a0 a1 a2 a3; obtain ⟨a0, a1, a2, a3⟩ := HB2.out.cells)
        | (go_at_call 13; refine (HO.out _ HB2.out.bel).mono ?_; rintro e w3 ⟨u, rfl, hu, hb3⟩; have HU := Lib.hid hu; have HB3 := Lib.hid (HB2.out.keep hb3); clear hu hb3)
        | (go_at_call 12; refine (HRR.out u _ HU.out).mono ?_; rintro e w4 ⟨rfl, hb4⟩; have HB4 := Lib.hid (HB3.out.keep hb4); clear hb4 a0 a1 a2 a3; obtain ⟨a0, a1, a2, a3⟩ := HB4.out.cells)
        | (go_at_call 14; refine (HRT.out _ HB4.out.bel).mono ?_; rintro e w5 ⟨rfl, hb5⟩; have HB5 := Lib.hid (HB4.out.keep hb5); clear hb5)
        | (go_at_call 10; refine (HA.out _ HB5.out.bel).mono ?_; rintro e w9 ⟨rfl, hb9⟩; have HB9 := Lib.hid (HB5.out.keep hb9).bel; clear hb9))
      go_ret
      exact ⟨rfl, HB9.out⟩
    | true =>
      have e1 : prnR p = prn p := by unfold prnR; rw [hr]; rfl
      have e2 : prnE p = 0 := by unfold prnE; rw [hr]; rfl
      obtain ⟨S, hS⟩ : ∃ S : ByteArray, S = ⟨(prn p).toArray⟩ := ⟨_, rfl⟩
      rw [e1, e2, ← hS] at HPR
      rw [hr] at HRT HRR
      have hsd : S.data.toList = prn p := by rw [hS]
      have hps : psP S.data.toList = p ∧ psE S.data.toList = 0 := by
        have h := isTxt_prn hr
        have g := guess_prn hr
        unfold psP psE
        rw [hsd, h, g]; exact ⟨rfl, rfl⟩
      have HPS := Lib.hid (fun wx (hb : Below w.heap.size w wx) => parse_any S wx (HE.out.keep hb))
      rw [hps.1, hps.2] at HPS
      have HRP := Lib.hid (fun u wx (h : PatA wx u p) => rprint_any u p wx h hr)
      rw [← hS] at HRP
      have HSM := Lib.hid (fun z wx (hb : Below w.heap.size w wx) (h : PatA wx z p) => same_any x z p p wx (HP.out.keep hb) h HSH.out HSH.out)
      have HRS := Lib.hid (fun u v wx (h1 : PatA wx u p) (h2 : PatA wx v p) => rsame_any u v p p wx h1 h2 HSH.out HSH.out)
      have hpp : decide (p = p) = true := by simp
      rw [hpp] at HSM HRS
      have HOQ := Lib.hid (fun z wx (h : PatA wx z p) => of_any z p HSH.out.2.2.1 wx h)
      clear hr e1 e2 hps hsd hS hpp HP
      unfold patV at *
      go_enter Tryd.func3, Tryd.ntmps3
      go_wp2_with (first
        | (go_at_call 9; refine (HF.out _ HW.out.bel).mono ?_; rintro e w1 ⟨rfl, hb1⟩; have HB1 := Lib.hid (HW.out.keep hb1); clear hb1; obtain ⟨a0, a1, a2, a3⟩ := HB1.out.cells)
        | (go_at_call 11; refine (HPR.out _ HB1.out.bel).mono ?_; rintro e w2 ⟨rfl, hb2⟩; have HB2 := Lib.hid (HB1.out.keep hb2); clear hb2 a0 a1 a2 a3; obtain ⟨a0, a1, a2, a3⟩ := HB2.out.cells)
        | (go_at_call 13; refine (HO.out _ HB2.out.bel).mono ?_; rintro e w3 ⟨u, rfl, hu, hb3⟩; have HU := Lib.hid hu; have HB3 := Lib.hid (HB2.out.keep hb3); clear hu hb3)
        | (go_at_call 12; refine (HRR.out u _ HU.out).mono ?_; rintro e w4 ⟨rfl, hb4⟩; have HB4 := Lib.hid (HB3.out.keep hb4); clear hb4 a0 a1 a2 a3; obtain ⟨a0, a1, a2, a3⟩ := HB4.out.cells)
        | (go_at_call 14; refine (HRT.out _ HB4.out.bel).mono ?_; rintro e w5 ⟨rfl, hb5⟩; have HB5 := Lib.hid (HB4.out.keep hb5); clear hb5 a0 a1 a2 a3)
        | (go_at_call 15; refine (HPS.out _ HB5.out.bel).mono ?_; rintro e w6 ⟨z, rfl, hz, hb6⟩; have HZ := Lib.hid hz; have HB6 := Lib.hid (HB5.out.keep hb6); clear hz hb6))
      have HB7 : Hid (Bx w w.heap.size x p (w6.alloc (.cells #[.string ⟨p.nm.toArray⟩, .slice z.s0 p.p0.length z.c0, .slice z.s1 p.p1.length z.c1, .slice z.s2 p.ms.length z.c2] 26)) ∧ Bx w w6.heap.size z p (w6.alloc (.cells #[.string ⟨p.nm.toArray⟩, .slice z.s0 p.p0.length z.c0, .slice z.s1 p.p1.length z.c1, .slice z.s2 p.ms.length z.c2] 26)) ∧ PatA (w6.alloc (.cells #[.string ⟨p.nm.toArray⟩, .slice z.s0 p.p0.length z.c0, .slice z.s1 p.p1.length z.c1, .slice z.s2 p.ms.length z.c2] 26)) z p) := Lib.hid ⟨HB6.out.keep ((Below.refl _ _).alloc (Nat.le_refl _) _), bx_more HB6.out.bel z p, HZ.out.keep ((Below.refl _ _).alloc (Nat.le_refl _) _)⟩
      generalize w6.alloc (.cells #[.string ⟨p.nm.toArray⟩, .slice z.s0 p.p0.length z.c0, .slice z.s1 p.p1.length z.c1, .slice z.s2 p.ms.length z.c2] 26) = W7 at *
      obtain ⟨a0, a1, a2, a3⟩ := HB7.out.1.cells
      obtain ⟨b0, b1, b2, b3⟩ := HB7.out.2.1.cells
      generalize w6.heap.size = bz at *
      go_region_held3 (fun w' => w'.cell? ⟨w.heap.size, 0, none⟩ = some (.string ⟨p.nm.toArray⟩) ∧ w'.cell? ⟨w.heap.size, 1, none⟩ = some (.slice x.s0 p.p0.length x.c0) ∧ w'.cell? ⟨w.heap.size, 2, none⟩ = some (.slice x.s1 p.p1.length x.c1) ∧ w'.cell? ⟨w.heap.size, 3, none⟩ = some (.slice x.s2 p.ms.length x.c2) ∧ w'.cell? ⟨bz, 0, none⟩ = some (.string ⟨p.nm.toArray⟩) ∧ w'.cell? ⟨bz, 1, none⟩ = some (.slice z.s0 p.p0.length z.c0) ∧ w'.cell? ⟨bz, 2, none⟩ = some (.slice z.s1 p.p1.length z.c1) ∧ w'.cell? ⟨bz, 3, none⟩ = some (.slice z.s2 p.ms.length z.c2)) (go_keep)
        (first
          | (have _k := JB4; go_at_call 13; refine (HOQ.out z _ JB4.out.2.2.1).mono ?_; rintro e v5 ⟨n2, rfl, hn2, hb⟩; have JB5 := Lib.hid (And.intro (JB4.out.1.keep hb) (And.intro (JB4.out.2.1.keep hb) (And.intro (JB4.out.2.2.2.keep hb) hn2))); clear hn2 hb; obtain ⟨k0, k1, k2, k3⟩ := JB5.out.1.cells; obtain ⟨l0, l1, l2, l3⟩ := JB5.out.2.1.cells)
          | (have _k := JB3; go_at_call 13; refine (HO.out _ JB3.out.1.bel).mono ?_; rintro e v4 ⟨n1, rfl, hn1, hb⟩; have JB4 := Lib.hid (And.intro (JB3.out.1.keep hb) (And.intro (JB3.out.2.1.keep hb) (And.intro (JB3.out.2.2.keep hb) hn1))); clear hn1 hb; obtain ⟨i0, i1, i2, i3⟩ := JB4.out.1.cells; obtain ⟨j0, j1, j2, j3⟩ := JB4.out.2.1.cells)
          | ((fail_if_success (have _k := JB1)); go_at_call 13; refine (HO.out _ (HB7.out.1.keep (Below.refl _ _).drew).bel).mono ?_; rintro e v1 ⟨n0, rfl, hn0, hb⟩; have JB1 := Lib.hid (And.intro ((HB7.out.1.keep (Below.refl _ _).drew).keep hb) (And.intro ((HB7.out.2.1.keep (Below.refl _ _).drew).keep hb) (And.intro ((HB7.out.2.2.keep (Below.refl _ _).drew).keep hb) hn0))); clear hn0 hb; obtain ⟨c0, c1, c2, c3⟩ := JB1.out.1.cells; obtain ⟨d0, d1, d2, d3⟩ := JB1.out.2.1.cells)
          | (go_at_call 16; refine (HRP.out n0 _ JB1.out.2.2.2).mono ?_; rintro e v2 ⟨rfl, hb⟩; have JB2 := Lib.hid (And.intro (JB1.out.1.keep hb) (And.intro (JB1.out.2.1.keep hb) (JB1.out.2.2.1.keep hb))); clear hb; obtain ⟨e0, e1, e2, e3⟩ := JB2.out.1.cells; obtain ⟨f0, f1, f2, f3⟩ := JB2.out.2.1.cells)
          | (go_at_call 17; refine (HSM.out z _ JB2.out.1.bel JB2.out.2.2).mono ?_; rintro e v3 ⟨rfl, hb⟩; have JB3 := Lib.hid (And.intro (JB2.out.1.keep hb) (And.intro (JB2.out.2.1.keep hb) (JB2.out.2.2.keep hb))); clear hb; obtain ⟨g0, g1, g2, g3⟩ := JB3.out.1.cells; obtain ⟨h0, h1, h2, h3⟩ := JB3.out.2.1.cells)
          | (go_at_call 18; refine (HRS.out n1 n2 _ JB5.out.2.2.1 JB5.out.2.2.2).mono ?_; rintro e v6 ⟨rfl, hb⟩; have JB6 := Lib.hid (And.intro (JB5.out.1.keep hb) (JB5.out.2.1.keep hb)); clear hb; obtain ⟨m0, m1, m2, m3⟩ := JB6.out.1.cells; obtain ⟨o0, o1, o2, o3⟩ := JB6.out.2.cells)
          | (go_at_call 10; refine (HA.out _ JB6.out.1.bel).mono ?_; rintro e v9 ⟨rfl, hb⟩; have JB9 := Lib.hid (And.intro (JB6.out.1.keep hb) (JB6.out.2.keep hb)); clear hb; obtain ⟨p0, p1, p2, p3⟩ := JB9.out.1.cells; obtain ⟨r0, r1, r2, r3⟩ := JB9.out.2.cells))
      all_goals
        go_wp2_with fail
        go_ret
        exact ⟨rfl, JB9.out.1.bel⟩
end Go.Proofs.YtdihgfpnogiblaaDoor
