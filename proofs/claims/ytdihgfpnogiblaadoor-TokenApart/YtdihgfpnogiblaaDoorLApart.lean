/- The law TokenApart. -/
import Derived.Test.YtdihgfpnogiblaaDoorLa
namespace Go.Proofs.YtdihgfpnogiblaaDoor
open Go.RowKit Go.Shelf

set_option maxRecDepth 100000 in
set_option maxHeartbeats 8000000 in
theorem apart_good (x : Sl) (p : Pt) (y : Sl) (q : Pt) (w : World) (hE : En w) (hp : PatA w x p) (hq : PatA w y q) : Calls Tryd.prog 7 #[patV x p, patV y q] w fun e w' => e = .returned (.bool true) ∧ Below w.heap.size w w' := by
  have HE := Lib.hid hE; clear hE
  have HP := Lib.hid hp; clear hp
  have HQ := Lib.hid hq; clear hq
  have HA := Lib.hid (fun wx (hb : Below w.heap.size w wx) => awake_any wx (HE.out.keep hb))
  have HF1 := Lib.hid (fun wx (hb : Below w.heap.size w wx) => few_any x p wx (HP.out.keep hb))
  have HF2 := Lib.hid (fun wx (hb : Below w.heap.size w wx) => few_any y q wx (HQ.out.keep hb))
  have HP1 := Lib.hid (fun wx (hb : Below w.heap.size w wx) => print_any x p wx (HP.out.keep hb) (HE.out.keep hb))
  have HP2 := Lib.hid (fun wx (hb : Below w.heap.size w wx) => print_any y q wx (HQ.out.keep hb) (HE.out.keep hb))
  have HS := Lib.hid (fun (h1 : fewB p = true) (h2 : fewB q = true) wx (hb : Below w.heap.size w wx) => same_any x y p q wx (HP.out.keep hb) (HQ.out.keep hb) (few_short h1) (few_short h2))
  have HW : Hid (Bx w w.heap.size x p ((w.alloc (.cells #[.string ⟨p.nm.toArray⟩, .slice x.s0 p.p0.length x.c0, .slice x.s1 p.p1.length x.c1, .slice x.s2 p.ms.length x.c2] 26)).alloc (.cells #[.string ⟨q.nm.toArray⟩, .slice y.s0 q.p0.length y.c0, .slice y.s1 q.p1.length y.c1, .slice y.s2 q.ms.length y.c2] 26)) ∧ Bx w (w.heap.size + 1) y q ((w.alloc (.cells #[.string ⟨p.nm.toArray⟩, .slice x.s0 p.p0.length x.c0, .slice x.s1 p.p1.length x.c1, .slice x.s2 p.ms.length x.c2] 26)).alloc (.cells #[.string ⟨q.nm.toArray⟩, .slice y.s0 q.p0.length y.c0, .slice y.s1 q.p1.length y.c1, .slice y.s2 q.ms.length y.c2] 26))) := Lib.hid (by
    have h1 := bx_new w x p
    have h2 := bx_more h1.bel y q
    rw [World.size_alloc] at h2
    exact ⟨h1.keep ((Below.refl _ _).alloc (Nat.le_refl _) _), h2⟩)
  clear HP HQ HE
  unfold patV at *
  cases f1 : fewB p with
  | false =>
    rw [f1] at HF1
    clear f1
    go_enter Tryd.func7, Tryd.ntmps7
    go_wp2_with (first
      | (go_at_call 9; refine (HF1.out _ HW.out.1.bel).mono ?_; rintro e w1 ⟨rfl, hb1⟩; have HB1 := Lib.hid (HW.out.1.keep hb1).bel; clear hb1)
      | (go_at_call 10; refine (HA.out _ HB1.out).mono ?_; rintro e w9 ⟨rfl, hb9⟩; have HB9 := Lib.hid (HB1.out.trans (hb9.mono HB1.out.size)); clear hb9))
    go_ret
    exact ⟨rfl, HB9.out⟩
  | true =>
    rw [f1] at HF1
    cases f2 : fewB q with
    | false =>
      rw [f2] at HF2
      clear f1 f2
      go_enter Tryd.func7, Tryd.ntmps7
      go_wp2_with (first
        | (have _k := HB1; go_at_call 9; refine (HF2.out _ HB1.out.1.bel).mono ?_; rintro e w2 ⟨rfl, hb2⟩; have HB2 := Lib.hid (HB1.out.1.keep hb2).bel; clear hb2)
        | (go_at_call 9; refine (HF1.out _ HW.out.1.bel).mono ?_; rintro e w1 ⟨rfl, hb1⟩; have HB1 := Lib.hid (And.intro (HW.out.1.keep hb1) (HW.out.2.keep hb1)); clear hb1; obtain ⟨a0, a1, a2, a3⟩ := HB1.out.1.cells; obtain ⟨b0, b1, b2, b3⟩ := HB1.out.2.cells)
        | (go_at_call 10; refine (HA.out _ HB2.out).mono ?_; rintro e w9 ⟨rfl, hb9⟩; have HB9 := Lib.hid (HB2.out.trans (hb9.mono HB2.out.size)); clear hb9))
      go_ret
      exact ⟨rfl, HB9.out⟩
    | true =>
      rw [f2] at HF2
      have HS := Lib.hid (HS.out f1 f2)
      clear f1 f2
      obtain ⟨S, hS⟩ : ∃ S : ByteArray, S = ⟨(prnR p).toArray⟩ := ⟨_, rfl⟩
      obtain ⟨T, hT⟩ : ∃ T : ByteArray, T = ⟨(prnR q).toArray⟩ := ⟨_, rfl⟩
      obtain ⟨e1, he1⟩ : ∃ e, e = prnE p := ⟨_, rfl⟩
      obtain ⟨e2, he2⟩ : ∃ e, e = prnE q := ⟨_, rfl⟩
      rw [← hS, ← he1] at HP1
      rw [← hT, ← he2] at HP2
      have hcase : ((e1 = 1) ∨ (e1 = 0 ∧ e2 = 1)) ∨ (e1 = 0 ∧ e2 = 0 ∧ (S.toList == T.toList) = decide (p = q)) := by
        cases r1 : right p with
        | false => exact .inl (.inl (by rw [he1, prnE, r1]; rfl))
        | true =>
          have e10 : e1 = 0 := by rw [he1, prnE, r1]; rfl
          cases r2 : right q with
          | false => exact .inl (.inr ⟨e10, by rw [he2, prnE, r2]; rfl⟩)
          | true =>
            refine .inr ⟨e10, by rw [he2, prnE, r2]; rfl, ?_⟩
            rw [hS, hT, ByteArray.toList_eq, ByteArray.toList_eq]
            unfold prnR
            rw [r1, r2]
            by_cases h : p = q
            · simp [h]
            · have : prn p ≠ prn q := fun e => h (prn_inj r1 r2 e)
              simp [h, this]
      clear hS hT he1 he2
      rcases hcase with (rfl | ⟨rfl, rfl⟩) | ⟨rfl, rfl, hST⟩
      · go_enter Tryd.func7, Tryd.ntmps7
        go_wp2_with (first
          | (have _k := HB1; go_at_call 9; refine (HF2.out _ HB1.out.1.bel).mono ?_; rintro e w2 ⟨rfl, hb2⟩; have HB2 := Lib.hid (And.intro (HB1.out.1.keep hb2) (HB1.out.2.keep hb2)); clear hb2 a0 a1 a2 a3 b0 b1 b2 b3; obtain ⟨a0, a1, a2, a3⟩ := HB2.out.1.cells; obtain ⟨b0, b1, b2, b3⟩ := HB2.out.2.cells)
          | (go_at_call 9; refine (HF1.out _ HW.out.1.bel).mono ?_; rintro e w1 ⟨rfl, hb1⟩; have HB1 := Lib.hid (And.intro (HW.out.1.keep hb1) (HW.out.2.keep hb1)); clear hb1; obtain ⟨a0, a1, a2, a3⟩ := HB1.out.1.cells; obtain ⟨b0, b1, b2, b3⟩ := HB1.out.2.cells)
          | (have _k := HB3; go_at_call 11; refine (HP2.out _ HB3.out.1.bel).mono ?_; rintro e w4 ⟨rfl, hb4⟩; have HB4 := Lib.hid (And.intro (HB3.out.1.keep hb4) (HB3.out.2.keep hb4)); clear hb4 a0 a1 a2 a3 b0 b1 b2 b3; obtain ⟨a0, a1, a2, a3⟩ := HB4.out.1.cells; obtain ⟨b0, b1, b2, b3⟩ := HB4.out.2.cells)
          | (go_at_call 11; refine (HP1.out _ HB2.out.1.bel).mono ?_; rintro e w3 ⟨rfl, hb3⟩; have HB3 := Lib.hid (And.intro (HB2.out.1.keep hb3) (HB2.out.2.keep hb3)); clear hb3 a0 a1 a2 a3 b0 b1 b2 b3; obtain ⟨a0, a1, a2, a3⟩ := HB3.out.1.cells; obtain ⟨b0, b1, b2, b3⟩ := HB3.out.2.cells)
          | (go_at_call 10; refine (HA.out _ HB4.out.1.bel).mono ?_; rintro e w9 ⟨rfl, hb9⟩; have HB9 := Lib.hid (HB4.out.1.keep hb9).bel; clear hb9))
        go_ret
        exact ⟨rfl, HB9.out⟩
      · go_enter Tryd.func7, Tryd.ntmps7
        go_wp2_with (first
          | (have _k := HB1; go_at_call 9; refine (HF2.out _ HB1.out.1.bel).mono ?_; rintro e w2 ⟨rfl, hb2⟩; have HB2 := Lib.hid (And.intro (HB1.out.1.keep hb2) (HB1.out.2.keep hb2)); clear hb2 a0 a1 a2 a3 b0 b1 b2 b3; obtain ⟨a0, a1, a2, a3⟩ := HB2.out.1.cells; obtain ⟨b0, b1, b2, b3⟩ := HB2.out.2.cells)
          | (go_at_call 9; refine (HF1.out _ HW.out.1.bel).mono ?_; rintro e w1 ⟨rfl, hb1⟩; have HB1 := Lib.hid (And.intro (HW.out.1.keep hb1) (HW.out.2.keep hb1)); clear hb1; obtain ⟨a0, a1, a2, a3⟩ := HB1.out.1.cells; obtain ⟨b0, b1, b2, b3⟩ := HB1.out.2.cells)
          | (have _k := HB3; go_at_call 11; refine (HP2.out _ HB3.out.1.bel).mono ?_; rintro e w4 ⟨rfl, hb4⟩; have HB4 := Lib.hid (And.intro (HB3.out.1.keep hb4) (HB3.out.2.keep hb4)); clear hb4 a0 a1 a2 a3 b0 b1 b2 b3; obtain ⟨a0, a1, a2, a3⟩ := HB4.out.1.cells; obtain ⟨b0, b1, b2, b3⟩ := HB4.out.2.cells)
          | (go_at_call 11; refine (HP1.out _ HB2.out.1.bel).mono ?_; rintro e w3 ⟨rfl, hb3⟩; have HB3 := Lib.hid (And.intro (HB2.out.1.keep hb3) (HB2.out.2.keep hb3)); clear hb3 a0 a1 a2 a3 b0 b1 b2 b3; obtain ⟨a0, a1, a2, a3⟩ := HB3.out.1.cells; obtain ⟨b0, b1, b2, b3⟩ := HB3.out.2.cells)
          | (go_at_call 10; refine (HA.out _ HB4.out.1.bel).mono ?_; rintro e w9 ⟨rfl, hb9⟩; have HB9 := Lib.hid (HB4.out.1.keep hb9).bel; clear hb9))
        go_ret
        exact ⟨rfl, HB9.out⟩
      · obtain ⟨d, hd⟩ : ∃ d, decide (p = q) = d := ⟨_, rfl⟩
        rw [hd] at hST
        have hdd : (d == d) = true := by simp
        go_enter Tryd.func7, Tryd.ntmps7
        go_wp2_with (first
          | (have _k := HB1; go_at_call 9; refine (HF2.out _ HB1.out.1.bel).mono ?_; rintro e w2 ⟨rfl, hb2⟩; have HB2 := Lib.hid (And.intro (HB1.out.1.keep hb2) (HB1.out.2.keep hb2)); clear hb2 a0 a1 a2 a3 b0 b1 b2 b3; obtain ⟨a0, a1, a2, a3⟩ := HB2.out.1.cells; obtain ⟨b0, b1, b2, b3⟩ := HB2.out.2.cells)
          | (go_at_call 9; refine (HF1.out _ HW.out.1.bel).mono ?_; rintro e w1 ⟨rfl, hb1⟩; have HB1 := Lib.hid (And.intro (HW.out.1.keep hb1) (HW.out.2.keep hb1)); clear hb1; obtain ⟨a0, a1, a2, a3⟩ := HB1.out.1.cells; obtain ⟨b0, b1, b2, b3⟩ := HB1.out.2.cells)
          | (have _k := HB3; go_at_call 11; refine (HP2.out _ HB3.out.1.bel).mono ?_; rintro e w4 ⟨rfl, hb4⟩; have HB4 := Lib.hid (And.intro (HB3.out.1.keep hb4) (HB3.out.2.keep hb4)); clear hb4 a0 a1 a2 a3 b0 b1 b2 b3; obtain ⟨a0, a1, a2, a3⟩ := HB4.out.1.cells; obtain ⟨b0, b1, b2, b3⟩ := HB4.out.2.cells)
          | (go_at_call 11; refine (HP1.out _ HB2.out.1.bel).mono ?_; rintro e w3 ⟨rfl, hb3⟩; have HB3 := Lib.hid (And.intro (HB2.out.1.keep hb3) (HB2.out.2.keep hb3)); clear hb3 a0 a1 a2 a3 b0 b1 b2 b3; obtain ⟨a0, a1, a2, a3⟩ := HB3.out.1.cells; obtain ⟨b0, b1, b2, b3⟩ := HB3.out.2.cells)
          | (go_at_call 17; refine (HS.out _ HB4.out.1.bel).mono ?_; rintro e w5 ⟨rfl, hb5⟩; rw [hd]; have HB5 := Lib.hid (HB4.out.1.keep hb5).bel; clear hb5)
          | (go_at_call 10; refine (HA.out _ HB5.out).mono ?_; rintro e w9 ⟨rfl, hb9⟩; have HB9 := Lib.hid (HB5.out.trans (hb9.mono HB5.out.size)); clear hb9))
        go_ret
        exact ⟨rfl, HB9.out⟩
end Go.Proofs.YtdihgfpnogiblaaDoor
