/- The law TokenParses. -/
import Derived.Test.YtdihgfpnogiblaaDoorLa
import Derived.Test.YtdihgfpnogiblaaDoorNa
import Derived.Test.YtdihgfpnogiblaaDoorNd
namespace Go.Proofs.YtdihgfpnogiblaaDoor
open Go.RowKit Go.Shelf

theorem same_nil (x : Sl) (w : World) (hx : PatA w x zP) : Calls Tryd.prog 17 #[patV x zP, patV nilS zP] w fun e w' => e = .returned (.bool true) ∧ Below w.heap.size w w' :=
  (same_any x nilS zP zP w hx (patA_zero w) zero_short zero_short).mono fun _ _ ⟨he, hb⟩ => ⟨by rw [he]; simp, hb⟩

set_option maxRecDepth 100000 in
set_option maxHeartbeats 8000000 in
theorem parses_good (s : ByteArray) (w : World) (hE : En w) : Calls Tryd.prog 4 #[.string s] w fun e w' => e = .returned (.bool true) ∧ Below w.heap.size w w' := by
  have HE := Lib.hid hE; clear hE
  have HA := Lib.hid (fun wx (hb : Below w.heap.size w wx) => awake_any wx (HE.out.keep hb))
  by_cases hl : 400 < s.size
  · have hl' : (400 : Int) < s.size := by omega
    clear hl
    go_enter Tryd.func4, Tryd.ntmps4
    go_wp2_with (go_at_call 10; refine (HA.out _ (Below.refl _ _)).mono ?_; rintro e w9 ⟨rfl, hb9⟩)
    go_ret
    exact ⟨rfl, hb9⟩
  · have hl' : ¬ (400 : Int) < s.size := by omega
    clear hl
    have HPS := Lib.hid (parse_any s w HE.out)
    cases ht : isTxt s.data.toList with
    | false =>
      have e1 : psP s.data.toList = zP := by unfold psP; rw [ht]; rfl
      have e2 : psE s.data.toList = 2 := by unfold psE; rw [ht]; rfl
      rw [e1, e2] at HPS
      clear ht e1 e2
      go_enter Tryd.func4, Tryd.ntmps4
      go_wp2_with (first
        | (go_at_call 15; refine HPS.out.mono ?_; rintro e w1 ⟨x, rfl, hx, hb1⟩; have HX := Lib.hid hx; have HB1 := Lib.hid hb1; clear hx hb1; simp only [patV, zP, List.length_nil])
        | (go_at_call 17; refine (same_nil x _ (HX.out.keep ((Below.refl _ _).alloc (Nat.le_refl _) _))).mono ?_; rintro e w2 ⟨rfl, hb2⟩; have HB2 := Lib.hid (HB1.out.trans ((((Below.refl _ _).alloc (Nat.le_refl _) _).trans (hb2.mono (by simp))).mono HB1.out.size)); clear hb2)
        | (go_at_call 10; refine (HA.out _ HB2.out).mono ?_; rintro e w9 ⟨rfl, hb9⟩; have HB9 := Lib.hid (HB2.out.trans (hb9.mono HB2.out.size)); clear hb9))
      go_ret
      exact ⟨rfl, HB9.out⟩
    | true =>
      obtain ⟨hr, hpr⟩ := isTxt_right ht
      have e1 : psP s.data.toList = guess s.data.toList := by unfold psP; rw [ht]; rfl
      have e2 : psE s.data.toList = 0 := by unfold psE; rw [ht]; rfl
      rw [e1, e2] at HPS
      obtain ⟨p, hp⟩ : ∃ p, p = guess s.data.toList := ⟨_, rfl⟩
      rw [← hp] at HPS hr hpr
      have HSH := Lib.hid (right_short hr)
      have HRT := Lib.hid hr
      have HO := Lib.hid (fun x wx (h : PatA wx x p) => of_any x p HSH.out.2.2.1 wx h)
      have HRR := Lib.hid (fun x wx (h : PatA wx x p) => rright_any x p wx h (by
        have := HRT.out
        simp only [right, nameOk, Bool.and_eq_true, decide_eq_true_eq] at this
        omega) HSH.out.2.2.1)
      rw [hr] at HRR
      have hss : s = ⟨(prn p).toArray⟩ := by rw [hpr]
      have HRP := Lib.hid (fun x wx (h : PatA wx x p) => rprint_any x p wx h HRT.out)
      rw [← hss] at HRP
      unfold patV at HPS HO HRR HRP
      clear ht hr hpr e1 e2 hp hss
      go_enter Tryd.func4, Tryd.ntmps4
      go_wp2_with (first
        | (go_at_call 15; refine HPS.out.mono ?_; rintro e w1 ⟨x, rfl, hx, hb1⟩; have HX := Lib.hid hx; have HB1 := Lib.hid hb1; clear hx hb1)
        | (have _k := HB3; go_at_call 13; refine (HO.out x _ (HX.out.keep HB3.out.1)).mono ?_; rintro e w4 ⟨v, rfl, hv, hb4⟩; have HV := Lib.hid hv; have HB4 := Lib.hid (HB3.out.2.trans (hb4.mono HB3.out.2.size)); clear hv hb4)
        | (go_at_call 13; refine (HO.out x _ (HX.out.keep ((Below.refl _ _).alloc (Nat.le_refl _) _))).mono ?_; rintro e w2 ⟨u, rfl, hu, hb2⟩; have HU := Lib.hid hu; have HC2 := Lib.hid hb2; clear hu hb2)
        | (go_at_call 12; refine (HRR.out u _ HU.out).mono ?_; rintro e w3 ⟨rfl, hb3⟩; obtain ⟨c0, c1, c2, c3, hbw⟩ := box4 (HC2.out.trans (hb3.mono HC2.out.size)); have HB3 := Lib.hid (And.intro hbw (HB1.out.trans (hbw.mono HB1.out.size))); clear hb3 hbw)
        | (go_at_call 16; refine (HRP.out v _ HV.out).mono ?_; rintro e w5 ⟨rfl, hb5⟩; have HB5 := Lib.hid (HB4.out.trans (hb5.mono HB4.out.size)); clear hb5)
        | (go_at_call 10; refine (HA.out _ HB5.out).mono ?_; rintro e w9 ⟨rfl, hb9⟩; have HB9 := Lib.hid (HB5.out.trans (hb9.mono HB5.out.size)); clear hb9))
      go_ret
      exact ⟨rfl, HB9.out⟩
end Go.Proofs.YtdihgfpnogiblaaDoor
