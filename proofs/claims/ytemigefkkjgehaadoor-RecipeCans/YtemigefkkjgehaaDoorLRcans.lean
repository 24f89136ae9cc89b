/- The walk of RecipeCans: all that a recipe makes can be made of what is known. -/
import Derived.Test.YtemigefkkjgehaaDoorEp
namespace Go.Proofs.YtemigefkkjgehaaDoor
open Go.RowKit Go.Maps

set_option maxRecDepth 100000 in
set_option maxHeartbeats 1000000 in
theorem rcans_long (s sr ss : Option Addr) (n m k c cr cs : Nat) (hn : 30 < n ∨ 30 < k ∨ 30 < m) (w : World) (hs : Shp w) (hR : Rsh w) : Calls Tryd.prog 7 #[.slice s n c, .slice sr m cr, .slice ss k cs] w fun e w' => e = .returned (.bool true) ∧ Below w.heap.size w w' := by
  have HA := Lib.hid (awake4_any w hs hR)
  clear hs hR
  rcases (show ((30 : Int) < n) ∨ (¬ (30 : Int) < n ∧ (30 : Int) < k) ∨ (¬ (30 : Int) < n ∧ ¬ (30 : Int) < k ∧ (30 : Int) < m) by omega) with h | ⟨h, h2⟩ | ⟨h, h2, h3⟩
  all_goals
    clear hn
    go_enter Tryd.func7, Tryd.ntmps7
    go_wp2_with (go_at_call 23; refine HA.out.mono ?_; rintro e w2 ⟨rfl, hb2⟩)
    go_ret
    exact ⟨rfl, hb2⟩
set_option maxRecDepth 100000 in
set_option maxHeartbeats 4000000 in
theorem rcans_good (s sr ss : Option Addr) (c cr cs : Nat) (ns : List Nd) (refs : List Int) (steps : List Sp) (hn : ns.length ≤ 30) (hm : refs.length ≤ 30) (hl : steps.length ≤ 30) (w : World) (hs : Shp w) (hR : Rsh w) (hB : BuiltAt w (.slice s ns.length c) ns) (hI : IntsV w sr refs) (hSt : StepsV w ss steps) : Calls Tryd.prog 7 #[.slice s ns.length c, .slice sr refs.length cr, .slice ss steps.length cs] w fun e w' => e = .returned (.bool true) ∧ Below w.heap.size w w' := by
  have HKI := Lib.hid (kitchen_any s sr c cr ns refs 200 200 rfl hm w hB hI w (Below.refl _ _))
  have HAw := Lib.hid (fun w1 (h : Below w.heap.size w w1) => awake4_any w1 (hs.below h) (hR.below h))
  have HSH := Lib.hid hs
  have HRS := Lib.hid hR
  have HST := Lib.hid hSt
  obtain ⟨L, hLe⟩ : ∃ L, L = bld 200 ns := ⟨_, rfl⟩
  rw [← hLe] at HKI
  have h1 : ¬ (30 : Int) < ns.length := by omega
  have h2 : ¬ (30 : Int) < refs.length := by omega
  have h3 : ¬ (30 : Int) < steps.length := by omega
  have HM := Lib.hid hm
  have HLL := Lib.hid hl
  clear hs hR hB hI hn hm hl hLe hSt
  go_enter Tryd.func7, Tryd.ntmps7
  go_wp2_with fail
  go_at_call 24
  refine HKI.out.mono ?_
  rintro e w1 ⟨bk, b, g, bm, cap, gr, capr, mk, hv, K, rfl, hK1, hA1, hr1, hl1⟩
  obtain ⟨H, hHe⟩ : ∃ H, H = refs.filter fun x => hasB L.length x := ⟨_, rfl⟩
  rw [← hHe] at hK1
  have HK1 := Lib.hid hK1
  have HHK : Hid (∀ x ∈ H, K x = true) := Lib.hid (fun x hx => by
    rw [hHe] at hx
    obtain ⟨hx1, hx2⟩ := List.mem_filter.1 hx
    exact (hl1 x).2 (cl_in ⟨hx1, hx2⟩))
  have HHL : Hid (H.length ≤ 30) := Lib.hid (by rw [hHe]; exact Nat.le_trans (List.length_filter_le _ _) HM.out)
  clear hK1 hA1 hr1 hl1 hHe
  have HRUN := Lib.hid (fun wx (hb : Below w1.heap.size w1 wx) => run_kz (HK1.out.keep hb) HSH.out HRS.out (by have := HHL.out; omega) HHK.out (by omega) ss cs steps (HST.out.keep (HK1.out.keep hb).st.bel) (steps_apart (HK1.out.keep hb).st HST.out) (by have := HLL.out; omega))
  have HCAN := Lib.hid (runY_can (lim := 200) (by omega) steps L [] 0 (HK1.out.kn.kit HHK.out) HK1.out.kn.ar.len (fun y hy => by simp at hy))
  have HLEN := Lib.hid (runY_len (lim := 200) (H := H) steps L [] 0)
  have HBAD := Lib.hid (runY_bad (lim := 200) (H := H) steps L [] 0)
  have HFIN := Lib.hid (runY_fine (lim := 200) (H := H) steps L [] 0)
  obtain ⟨R, hRe⟩ : ∃ R, R = runY 200 H steps L [] 0 := ⟨_, rfl⟩
  rw [← hRe] at HRUN HCAN HLEN HBAD HFIN
  clear hRe
  obtain ⟨RL, Y, ri, re⟩ := R
  simp only at HCAN HLEN HBAD HFIN
  unfold RunP at HRUN
  simp only at HRUN
  by_cases he : re = 0
  · subst he
    obtain rfl : ri = 0 := HFIN.out rfl
    have HYL : Hid (Y.length = steps.length) := Lib.hid (by have := HLEN.out rfl; simpa using this)
    have HYC := Lib.hid (HCAN.out rfl)
    clear HFIN HBAD HLEN HCAN
    go_wp2_with fail
    go_at_call 25
    refine (HRUN.out _ (by first | exact Below.refl _ _ | exact (Below.refl _ _).alloc (Nat.le_refl _) _)).mono ?_
    rintro e w2 ⟨sy, cy, g', cap', M, rfl, hM, hwf, hK2, hi2, hp2, -, -⟩
    have HK2 := Lib.hid hK2
    have HI2 := Lib.hid hi2
    have HP2 := Lib.hid hp2
    have HWF := Lib.hid hwf
    have HC2 : Hid (∀ y ∈ Y, Can (L ++ M) (fun x => K x = true) y) := Lib.hid (by
      obtain ⟨M2, e2, _, hc⟩ := HYC.out
      have : M2 = M := List.append_cancel_left (e2.symm.trans hM)
      rw [this] at hc; exact hc)
    clear hK2 hi2 hp2 hwf hM HYC HRUN
    generalize L ++ M = LM at *
    go_wp2_with fail
    have hyl : ((Y.length : Int) == (steps.length : Int)) = true := by rw [HYL.out]; exact beq_self_eq_true _
    have HY30 := Lib.hid (show Y.length ≤ 30 by rw [HYL.out]; exact HLL.out)
    go_loopg [56] Y.length (fun q u56 wr => ∃ i : Nat, i + q = Y.length ∧ u56 = .int .i64 i ∧ Aside (Kx w wr bk b g' bm cap' 200 LM mk hv H K ∧ IntsV wr sy Y))
    case atStart => exact ⟨0, by omega, rfl, (show _ ∧ _ from ⟨HK2.out, HI2.out⟩)⟩
    case round =>
      obtain ⟨i, hiq, rfl, hr⟩ := hrel
      have HR := Lib.hid hr.out; clear hr
      by_cases hlt : i < Y.length
      · have hlt2 : (i : Int) < Y.length := by omega
        have h30 : (Y.length : Int) ≤ 30 := by have := HY30.out; omega
        obtain ⟨gl, ol, rfl, hgl, hia⟩ := HR.out.2 (by omega)
        have hx := hia i hlt
        clear hia
        have hmem : Y.getD i 0 ∈ Y := by rw [List.getD_eq_getElem?_getD, List.getElem?_eq_getElem hlt]; exact List.getElem_mem _
        have hcn := HC2.out _ hmem
        clear hmem
        obtain ⟨x, hxx⟩ : ∃ x, x = Y.getD i 0 := ⟨_, rfl⟩
        rw [← hxx] at hx hcn
        clear hxx
        have HCA : Hid (Calls Tryd.prog 21 #[.pointer (some ⟨bk, 0, none⟩), .int .i64 x] wr fun e w' => e = .returned (.bool true) ∧ Kno w' bk b g' bm cap' 200 LM mk hv H K ∧ Kp wr w' mk) := Lib.hid ((can_any HWF.out HR.out.1.kn x hcn.has).mono (by
          rintro e w' ⟨d, rfl, hd, hN, hP⟩
          exact ⟨by rw [hd.2 hcn], hN, hP⟩))
        clear hcn
        go_wp2_with fail
        go_at_call 21
        refine HCA.out.mono ?_
        rintro e w4 ⟨rfl, hN4, hP4⟩
        have HR4 := Lib.hid (And.intro (HR.out.1.can hN4 hP4) (HR.out.2.kp (fun p hp => (HP2.out p hp).1) hP4))
        clear hN4 hP4
        go_wp2_with fail
        go_roundg (Y.length - (i + 1))
        case measure => omega
        case rel => exact ⟨i + 1, by omega, by go_num, (show _ ∧ _ from HR4.out)⟩
      · have hlt2 : ¬ (i : Int) < Y.length := by omega
        go_wp2_with fail
        go_at_call 23
        refine (HAw.out _ HR.out.1.st.bel).mono ?_
        rintro e w4 ⟨rfl, hb4⟩
        have HB4 := Lib.hid (HR.out.1.st.bel.trans (hb4.mono HR.out.1.st.bel.size))
        clear hb4
        go_wp2_with fail
        go_ret
        exact ⟨rfl, HB4.out⟩
  · have heb : (re != 0) = true := by simpa using he
    obtain rfl : Y = [] := HBAD.out he
    clear he HFIN HBAD HLEN HCAN
    simp only [List.length_nil] at HRUN
    go_wp2_with fail
    go_at_call 25
    refine (HRUN.out _ (by first | exact Below.refl _ _ | exact (Below.refl _ _).alloc (Nat.le_refl _) _)).mono ?_
    rintro e w2 ⟨sy, cy, g', cap', M, rfl, -, -, hK2, -, -, -, -⟩
    have HK2 := Lib.hid hK2
    clear hK2 HRUN
    go_wp2_with fail
    go_at_call 23
    refine (HAw.out _ HK2.out.st.bel).mono ?_
    rintro e w4 ⟨rfl, hb4⟩
    have HB4 := Lib.hid (HK2.out.st.bel.trans (hb4.mono HK2.out.st.bel.size))
    clear hb4
    go_wp2_with fail
    go_ret
    exact ⟨rfl, HB4.out⟩
end Go.Proofs.YtemigefkkjgehaaDoor
