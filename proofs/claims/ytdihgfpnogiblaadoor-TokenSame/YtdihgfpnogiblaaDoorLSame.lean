/- The law TokenSame. -/
import Derived.Test.YtdihgfpnogiblaaDoorLa
import Derived.Test.YtdihgfpnogiblaaDoorNa
import Derived.Test.YtdihgfpnogiblaaDoorNe
namespace Go.Proofs.YtdihgfpnogiblaaDoor
open Go.RowKit Go.Shelf

set_option maxRecDepth 100000 in
set_option maxHeartbeats 8000000 in
theorem same_good (x : Sl) (p : Pt) (y : Sl) (q : Pt) (w : World) (hE : En w) (hp : PatA w x p) (hq : PatA w y q) : Calls Tryd.prog 5 #[patV x p, patV y q] w fun e w' => e = .returned (.bool true) ∧ Below w.heap.size w w' := by
  have HE := Lib.hid hE; clear hE
  have HP := Lib.hid hp; clear hp
  have HQ := Lib.hid hq; clear hq
  have HA := Lib.hid (fun wx (hb : Below w.heap.size w wx) => awake_any wx (HE.out.keep hb))
  have HF1 := Lib.hid (fun wx (hb : Below w.heap.size w wx) => few_any x p wx (HP.out.keep hb))
  have HF2 := Lib.hid (fun wx (hb : Below w.heap.size w wx) => few_any y q wx (HQ.out.keep hb))
  have HS := Lib.hid (fun (h1 : fewB p = true) (h2 : fewB q = true) wx (hb : Below w.heap.size w wx) => same_any x y p q wx (HP.out.keep hb) (HQ.out.keep hb) (few_short h1) (few_short h2))
  have HSP := Lib.hid (fun (h1 : fewB p = true) wx (hb : Below w.heap.size w wx) => same_any x x p p wx (HP.out.keep hb) (HP.out.keep hb) (few_short h1) (few_short h1))
  have HO1 := Lib.hid (fun (h1 : fewB p = true) wx (hb : Below w.heap.size w wx) => of_any x p (few_short h1).2.2.1 wx (HP.out.keep hb))
  have HO2 := Lib.hid (fun (h2 : fewB q = true) wx (hb : Below w.heap.size w wx) => of_any y q (few_short h2).2.2.1 wx (HQ.out.keep hb))
  have HW : Hid (Bx w w.heap.size x p ((w.alloc (.cells #[.string ⟨p.nm.toArray⟩, .slice x.s0 p.p0.length x.c0, .slice x.s1 p.p1.length x.c1, .slice x.s2 p.ms.length x.c2] 26)).alloc (.cells #[.string ⟨q.nm.toArray⟩, .slice y.s0 q.p0.length y.c0, .slice y.s1 q.p1.length y.c1, .slice y.s2 q.ms.length y.c2] 26)) ∧ Bx w (w.heap.size + 1) y q ((w.alloc (.cells #[.string ⟨p.nm.toArray⟩, .slice x.s0 p.p0.length x.c0, .slice x.s1 p.p1.length x.c1, .slice x.s2 p.ms.length x.c2] 26)).alloc (.cells #[.string ⟨q.nm.toArray⟩, .slice y.s0 q.p0.length y.c0, .slice y.s1 q.p1.length y.c1, .slice y.s2 q.ms.length y.c2] 26))) := Lib.hid (by
    have h1 := bx_new w x p
    have h2 := bx_more h1.bel y q
    rw [World.size_alloc] at h2
    exact ⟨h1.keep ((Below.refl _ _).alloc (Nat.le_refl _) _), h2⟩)
  clear HP HQ HE
  unfold patV at *
  cases f1 : fewB p with
  | false =>
    rw [f1] at HF1
    clear f1
    go_enter Tryd.func5, Tryd.ntmps5
    go_wp2_with (first
      | (go_at_call 9; refine (HF1.out _ HW.out.1.bel).mono ?_; rintro e w1 ⟨rfl, hb1⟩; have HB1 := Lib.hid (HW.out.1.keep hb1).bel; clear hb1)
      | (go_at_call 10; refine (HA.out _ HB1.out).mono ?_; rintro e w9 ⟨rfl, hb9⟩; have HB9 := Lib.hid (HB1.out.trans (hb9.mono HB1.out.size)); clear hb9))
    go_ret
    exact ⟨rfl, HB9.out⟩
  | true =>
    rw [f1] at HF1
    cases f2 : fewB q with
    | false =>
      rw [f2] at HF2
      clear f1 f2
      go_enter Tryd.func5, Tryd.ntmps5
      go_wp2_with (first
        | (have _k := HB1; go_at_call 9; refine (HF2.out _ HB1.out.1.bel).mono ?_; rintro e w2 ⟨rfl, hb2⟩; have HB2 := Lib.hid (HB1.out.1.keep hb2).bel; clear hb2)
        | (go_at_call 9; refine (HF1.out _ HW.out.1.bel).mono ?_; rintro e w1 ⟨rfl, hb1⟩; have HB1 := Lib.hid (And.intro (HW.out.1.keep hb1) (HW.out.2.keep hb1)); clear hb1; obtain ⟨a0, a1, a2, a3⟩ := HB1.out.1.cells; obtain ⟨b0, b1, b2, b3⟩ := HB1.out.2.cells)
        | (go_at_call 10; refine (HA.out _ HB2.out).mono ?_; rintro e w9 ⟨rfl, hb9⟩; have HB9 := Lib.hid (HB2.out.trans (hb9.mono HB2.out.size)); clear hb9))
      go_ret
      exact ⟨rfl, HB9.out⟩
    | true =>
      rw [f2] at HF2
      have JS := Lib.hid (HS.out f1 f2)
      have JSP := Lib.hid (HSP.out f1)
      have JO1 := Lib.hid (HO1.out f1)
      have JO2 := Lib.hid (HO2.out f2)
      clear HS HSP HO1 HO2
      have HR := Lib.hid (fun u v wx (h1 : PatA wx u p) (h2 : PatA wx v q) => rsame_any u v p q wx h1 h2 (few_short f1) (few_short f2))
      unfold patV at HR
      clear f1 f2
      obtain ⟨d, hd⟩ : ∃ d, decide (p = q) = d := ⟨_, rfl⟩
      rw [hd] at JS HR
      have hpp : decide (p = p) = true := by simp
      rw [hpp] at JSP
      clear hd hpp
      cases d
      all_goals
        go_enter Tryd.func5, Tryd.ntmps5
        go_wp2_with (first
          | (have _k := HB1; go_at_call 9; refine (HF2.out _ HB1.out.1.bel).mono ?_; rintro e w2 ⟨rfl, hb2⟩; have HB2 := Lib.hid (And.intro (HB1.out.1.keep hb2) (HB1.out.2.keep hb2)); clear hb2 a0 a1 a2 a3 b0 b1 b2 b3)
          | (go_at_call 9; refine (HF1.out _ HW.out.1.bel).mono ?_; rintro e w1 ⟨rfl, hb1⟩; have HB1 := Lib.hid (And.intro (HW.out.1.keep hb1) (HW.out.2.keep hb1)); clear hb1; obtain ⟨a0, a1, a2, a3⟩ := HB1.out.1.cells; obtain ⟨b0, b1, b2, b3⟩ := HB1.out.2.cells))
        obtain ⟨a0, a1, a2, a3⟩ := HB2.out.1.cells
        obtain ⟨b0, b1, b2, b3⟩ := HB2.out.2.cells
        go_region_held3 (fun w' => w'.cell? ⟨w.heap.size, 0, none⟩ = some (.string ⟨p.nm.toArray⟩) ∧ w'.cell? ⟨w.heap.size, 1, none⟩ = some (.slice x.s0 p.p0.length x.c0) ∧ w'.cell? ⟨w.heap.size, 2, none⟩ = some (.slice x.s1 p.p1.length x.c1) ∧ w'.cell? ⟨w.heap.size, 3, none⟩ = some (.slice x.s2 p.ms.length x.c2) ∧ w'.cell? ⟨w.heap.size + 1, 0, none⟩ = some (.string ⟨q.nm.toArray⟩) ∧ w'.cell? ⟨w.heap.size + 1, 1, none⟩ = some (.slice y.s0 q.p0.length y.c0) ∧ w'.cell? ⟨w.heap.size + 1, 2, none⟩ = some (.slice y.s1 q.p1.length y.c1) ∧ w'.cell? ⟨w.heap.size + 1, 3, none⟩ = some (.slice y.s2 q.ms.length y.c2)) (go_keep)
          (first
            | (have _k := HB6; go_at_call 17; refine (JSP.out _ HB6.out.1.bel).mono ?_; rintro e w7 ⟨rfl, hb7⟩; have HB7 := Lib.hid (And.intro (HB6.out.1.keep hb7) (HB6.out.2.keep hb7)); clear hb7; obtain ⟨g0, g1, g2, g3⟩ := HB7.out.1.cells; obtain ⟨j0, j1, j2, j3⟩ := HB7.out.2.cells)
            | ((fail_if_success (have _k := HB3)); go_at_call 17; refine (JS.out _ (HB2.out.1.keep (Below.refl _ _).drew).bel).mono ?_; rintro e w3 ⟨rfl, hb3⟩; have HB3 := Lib.hid (And.intro ((HB2.out.1.keep (Below.refl _ _).drew).keep hb3) ((HB2.out.2.keep (Below.refl _ _).drew).keep hb3)); clear hb3; obtain ⟨c0, c1, c2, c3⟩ := HB3.out.1.cells; obtain ⟨d0, d1, d2, d3⟩ := HB3.out.2.cells)
            | (have _k := HB4; go_at_call 13; refine (JO2.out _ HB4.out.1.bel).mono ?_; rintro e w5 ⟨v, rfl, hv, hb5⟩; have HB5 := Lib.hid (And.intro (HB4.out.1.keep hb5) (HB4.out.2.keep hb5)); have HV := Lib.hid hv; have HU2 := Lib.hid (HU.out.keep hb5); clear hb5 hv; obtain ⟨i0, i1, i2, i3⟩ := HB5.out.1.cells; obtain ⟨k0, k1, k2, k3⟩ := HB5.out.2.cells)
            | ((fail_if_success (have _k := HB4)); go_at_call 13; refine (JO1.out _ HB3.out.1.bel).mono ?_; rintro e w4 ⟨u, rfl, hu, hb4⟩; have HB4 := Lib.hid (And.intro (HB3.out.1.keep hb4) (HB3.out.2.keep hb4)); have HU := Lib.hid hu; clear hb4 hu; obtain ⟨e0, e1, e2, e3⟩ := HB4.out.1.cells; obtain ⟨f0, f1, f2, f3⟩ := HB4.out.2.cells)
            | (go_at_call 18; refine (HR.out u v _ HU2.out HV.out).mono ?_; rintro e w6 ⟨rfl, hb6⟩; have HB6 := Lib.hid (And.intro (HB5.out.1.keep hb6) (HB5.out.2.keep hb6)); clear hb6; obtain ⟨m0, m1, m2, m3⟩ := HB6.out.1.cells; obtain ⟨n0, n1, n2, n3⟩ := HB6.out.2.cells)
            | (go_at_call 10; refine (HA.out _ HB7.out.1.bel).mono ?_; rintro e w9 ⟨rfl, hb9⟩; have HB9 := Lib.hid (And.intro (HB7.out.1.keep hb9) (HB7.out.2.keep hb9)); clear hb9; obtain ⟨o0, o1, o2, o3⟩ := HB9.out.1.cells; obtain ⟨r0, r1, r2, r3⟩ := HB9.out.2.cells))
        all_goals
          go_wp2_with fail
          go_ret
          exact ⟨rfl, HB9.out.1.bel⟩
end Go.Proofs.YtdihgfpnogiblaaDoor
