import Derived.Test.YtlckajnbmkkpeaaDoorFc
import Derived.Test.YtlckajnbmkkpeaaDoorFd
import Derived.Test.YtlckajnbmkkpeaaDoorFe
import Derived.Test.YtlckajnbmkkpeaaDoorFy
import Derived.Test.YtlckajnbmkkpeaaDoorFz
import Derived.Test.YtlckajnbmkkpeaaDoorQj

/- Layer 4: walks of the reference: one, whatever the step. -/
namespace Go.Proofs.YtlckajnbmkkpeaaDoor
open Go.RowKit Go.Maps

theorem oneC_any : OneC := by
  unfold OneC
  intro lim g cap L hw hm sh sy ch cy H Y s w hr hg hH hY hhl hyl hv hn0 hn1
  obtain ⟨op, n, a, b, c⟩ := s
  by_cases ho : opOk op = true
  · have hop : op = 0 ∨ op = 1 ∨ op = 2 ∨ op = 3 ∨ op = 5 ∨ op = 6 ∨ op = 7 ∨ op = 8 ∨ op = 9 ∨ op = 10 ∨ op = 11 ∨ op = 12 ∨ op = 13 := by
      unfold opOk at ho
      simp only [Bool.and_eq_true, decide_eq_true_eq] at ho
      omega
    rcases hop with rfl | rfl | rfl | rfl | rfl | rfl | rfl | rfl | rfl | rfl | rfl | rfl | rfl
    · exact one_0 lim g cap L hw hm sh sy ch cy H Y n a b c w hr hg hH hY hhl hyl hv hn0 hn1
    · exact one_1 lim g cap L hw hm sh sy ch cy H Y n a b c w hr hg hH hY hhl hyl hv hn0 hn1
    · exact one_2 lim g cap L hw hm sh sy ch cy H Y n a b c w hr hg hH hY hhl hyl hv hn0 hn1
    · exact one_3 lim g cap L hw hm sh sy ch cy H Y n a b c w hr hg hH hY hhl hyl hv hn0 hn1
    · exact one_5 lim g cap L hw hm sh sy ch cy H Y n a b c w hr hg hH hY hhl hyl hv hn0 hn1
    · exact one_6 lim g cap L hw hm sh sy ch cy H Y n a b c w hr hg hH hY hhl hyl hv hn0 hn1
    · exact one_7 lim g cap L hw hm sh sy ch cy H Y n a b c w hr hg hH hY hhl hyl hv hn0 hn1
    · exact one_8 lim g cap L hw hm sh sy ch cy H Y n a b c w hr hg hH hY hhl hyl hv hn0 hn1
    · exact one_9 lim g cap L hw hm sh sy ch cy H Y n a b c w hr hg hH hY hhl hyl hv hn0 hn1
    · exact one_10 lim g cap L hw hm sh sy ch cy H Y n a b c w hr hg hH hY hhl hyl hv hn0 hn1
    · exact one_11 lim g cap L hw hm sh sy ch cy H Y n a b c w hr hg hH hY hhl hyl hv hn0 hn1
    · exact one_12 lim g cap L hw hm sh sy ch cy H Y n a b c w hr hg hH hY hhl hyl hv hn0 hn1
    · exact one_13 lim g cap L hw hm sh sy ch cy H Y n a b c w hr hg hH hY hhl hyl hv hn0 hn1
  · exact one_other lim g cap L hw hm sh sy ch cy H Y op n a b c (by simpa using ho) w hr hg hH hY hhl hyl hv hn0 hn1
end Go.Proofs.YtlckajnbmkkpeaaDoor

/- The walk of RecipeRuns: what the steps of any recipe make, or which is amiss, is the document's. -/
namespace Go.Proofs.YtlckajnbmkkpeaaDoor
open Go.RowKit Go.Maps

set_option maxRecDepth 100000 in
set_option maxHeartbeats 1000000 in
theorem rruns_long (x : Int) (s sr ss : Option Addr) (n m k c cr cs : Nat) (hn : 30 < n ∨ 30 < k ∨ 30 < m) (w : World) (hs : Shp w) (hR : Rsh w) : Calls Tryd.prog 6 #[.int .i64 x, .slice s n c, .slice sr m cr, .slice ss k cs] w fun e w' => e = .returned (.bool true) ∧ Below w.heap.size w w' := by
  have HA := Lib.hid (awake4_any w hs hR)
  clear hs hR
  rcases (show ((30 : Int) < n) ∨ (¬ (30 : Int) < n ∧ (30 : Int) < k) ∨ (¬ (30 : Int) < n ∧ ¬ (30 : Int) < k ∧ (30 : Int) < m) by omega) with h | ⟨h, h2⟩ | ⟨h, h2, h3⟩
  all_goals
    clear hn
    go_enter Tryd.func6, Tryd.ntmps6
    go_wp2_with (go_at_call 23; refine HA.out.mono ?_; rintro e w2 ⟨rfl, hb2⟩)
    go_ret
    exact ⟨rfl, hb2⟩
set_option maxRecDepth 100000 in
set_option maxHeartbeats 4000000 in
theorem rruns_good (x : Int) (s sr ss : Option Addr) (c cr cs : Nat) (ns : List Nd) (refs : List Int) (steps : List Sp) (hn : ns.length ≤ 30) (hm : refs.length ≤ 30) (hl : steps.length ≤ 30) (w : World) (hs : Shp w) (hR : Rsh w) (hB : BuiltAt w (.slice s ns.length c) ns) (hI : IntsV w sr refs) (hSt : StepsV w ss steps) (hns : ∀ s ∈ steps, 0 ≤ s.n ∧ s.n ≤ 18446744073709551615) : Calls Tryd.prog 6 #[.int .i64 x, .slice s ns.length c, .slice sr refs.length cr, .slice ss steps.length cs] w fun e w' => e = .returned (.bool true) ∧ Below w.heap.size w w' := by
  obtain ⟨lim, hlim⟩ : ∃ lim, lim = limZ x := ⟨_, rfl⟩
  have hl6 : lim ≤ 65536 := by rw [hlim]; exact (limZ_bd x).2
  have HKI := Lib.hid (kitchen2_any s sr c cr ns refs x lim hlim.symm hm w hB hI w (Below.refl _ _))
  have HAw := Lib.hid (fun w1 (h : Below w.heap.size w w1) => awake4_any w1 (hs.below h) (hR.below h))
  have HSH := Lib.hid hs
  have HRS := Lib.hid hR
  have HST := Lib.hid hSt
  have HNS := Lib.hid hns
  obtain ⟨L, hLe⟩ : ∃ L, L = bld lim ns := ⟨_, rfl⟩
  rw [← hLe] at HKI
  have h1 : ¬ (30 : Int) < ns.length := by omega
  have h2 : ¬ (30 : Int) < refs.length := by omega
  have h3 : ¬ (30 : Int) < steps.length := by omega
  have HM := Lib.hid hm
  have HLL := Lib.hid hl
  clear hs hR hB hI hn hm hl hLe hSt hlim hns
  go_enter Tryd.func6, Tryd.ntmps6
  go_wp2_with fail
  go_at_call 24
  refine HKI.out.mono ?_
  rintro e w1 ⟨bk, b, g, bm, cap, gr, capr, mk, hv, K, rfl, hK1, hA1, hr1, hl1, hng⟩
  obtain ⟨H, hHe⟩ : ∃ H, H = refs.filter fun x => hasB L.length x := ⟨_, rfl⟩
  rw [← hHe] at hK1
  have HK1 := Lib.hid hK1
  have HHK : Hid (∀ x ∈ H, K x = true) := Lib.hid (fun x hx => by
    rw [hHe] at hx
    obtain ⟨hx1, hx2⟩ := List.mem_filter.1 hx
    exact (hl1 x).2 (cl_in ⟨hx1, hx2⟩))
  have HHL : Hid (H.length ≤ 30) := Lib.hid (by rw [hHe]; exact Nat.le_trans (List.length_filter_le _ _) HM.out)
  have HWL := Lib.hid hK1.kn.ar.wf
  have HLL2 := Lib.hid hK1.kn.ar.len
  have HIN : Hid (∀ x ∈ H, hasB L.length x = true) := Lib.hid (fun x hx => hK1.kn.kh x (HHK.out x hx))
  have hbx : (w1.alloc (.cells #[.int .i64 lim, .slice (some ⟨gr, 0, none⟩) L.length capr] 29)).heap[w1.heap.size]? = some (.cells #[.int .i64 lim, .slice (some ⟨gr, 0, none⟩) L.length capr] 29 (0, 0)) := heap_alloc_new _ _
  have hB1 : Below w1.heap.size w1 (w1.alloc (.cells #[.int .i64 lim, .slice (some ⟨gr, 0, none⟩) L.length capr] 29)) := (Below.refl _ _).alloc (Nat.le_refl _) _
  have HKB := Lib.hid (hK1.keep hB1)
  have HRG : Hid (rowAt (w1.alloc (.cells #[.int .i64 lim, .slice (some ⟨gr, 0, none⟩) L.length capr] 29)) gr L) := Lib.hid (hr1.keep (hB1.block _ hA1.lt))
  have HGL : Hid (gr < w1.heap.size ∧ b < w1.heap.size ∧ g < w1.heap.size ∧ bm < w1.heap.size) := Lib.hid ⟨hA1.lt, hK1.kn.ar.blt, hK1.kn.ar.glt, hK1.kn.ar.mlt⟩
  have HNG := Lib.hid hng
  have HBX := Lib.hid hbx
  clear hK1 hl1 hHe hA1 hr1 hng hbx hB1 HK1
  go_wp2_with fail
  obtain ⟨W1, hW⟩ : ∃ W, W = w1.alloc (.cells #[.int .i64 lim, .slice (some ⟨gr, 0, none⟩) L.length capr] 29) := ⟨_, rfl⟩
  have hW1 : W1.heap.size = w1.heap.size + 1 := by rw [hW]; simp
  rw [← hW] at HKB HRG HBX ⊢
  clear hW
  generalize w1.heap.size = pb at *
  have HRUN := Lib.hid (run_kz HKB.out HSH.out HRS.out (by have := HHL.out; omega) HHK.out hl6 ss cs steps (HST.out.keep HKB.out.st.bel) (steps_apart HKB.out.st HST.out) (by have := HLL.out; omega))
  have HRF := Lib.hid (fun (g cap : Nat) (sh ss : Option Addr) (ch cs : Nat) (w : World) (hr : rowAt w g L) (hg : g < w.heap.size) (hH : IntsV w sh H) (hS : StepsV w ss steps) => runF_any oneC_any lim g cap L HWL.out hl6 HLL2.out sh ss ch cs H steps w hr hg hH hS (by have := HHL.out; omega) HLL.out HIN.out HNS.out)
  obtain ⟨R, hRe⟩ : ∃ R, R = runY lim H steps L [] 0 := ⟨_, rfl⟩
  have HLEN := Lib.hid (runY_len (lim := lim) (H := H) steps L [] 0)
  have HBAD := Lib.hid (runY_bad (lim := lim) (H := H) steps L [] 0)
  rw [← hRe] at HRUN HRF HLEN HBAD
  clear hRe
  obtain ⟨RL, Y, ri, re⟩ := R
  unfold RunP at HRUN
  unfold RunF at HRF
  simp only at HRUN HRF HLEN HBAD
  have HY30 : Hid (Y.length ≤ 30) := Lib.hid (by
    have h9 := HLL.out
    by_cases he : re = 0
    · have := HLEN.out he; simp only [List.length_nil] at this; omega
    · rw [HBAD.out he]; exact Nat.zero_le _)
  clear HLEN HBAD
  refine HRUN.out.mono ?_
  rintro e w2 ⟨sy, cy, g', cap', M, rfl, hM, hwf, hK2, hi2, hp2, -, hkp⟩
  have HPO : Hid (0 < RL.length) := Lib.hid (by rw [hM, List.length_append]; have := HWL.out.pos; omega)
  rw [← hM] at hK2 hwf
  clear hM
  have hbx2 : w2.heap[pb]? = some (.cells #[.int .i64 lim, .slice (some ⟨gr, 0, none⟩) L.length capr] 29 (0, 0)) := (hkp.block pb (by omega) (by have := HGL.out; omega) (by have := HGL.out; omega) (by have := HGL.out; omega)).trans HBX.out
  have HRG2 := Lib.hid (HRG.out.keep (hkp.block gr (by have := HGL.out; omega) HNG.out.1 HNG.out.2.1 HNG.out.2.2))
  have HGR2 : Hid (gr < w2.heap.size) := Lib.hid (by have := hkp.size; have := HGL.out; omega)
  have HK2 := Lib.hid hK2
  have HI2 := Lib.hid hi2
  have HBX2 := Lib.hid hbx2
  have HST2 := Lib.hid (HST.out.keep hK2.st.bel)
  have HHD := Lib.hid (fun wx (hb : Below w2.heap.size w2 wx) => heard_any (hK2.keep hb).kn (by have := HHL.out; omega))
  unfold HdC at HHD
  obtain ⟨c0, c1⟩ : w2.cell? ⟨pb, 0, none⟩ = some (.int .i64 lim) ∧ w2.cell? ⟨pb, 1, none⟩ = some (.slice (some ⟨gr, 0, none⟩) L.length capr) := ⟨(cell_of_row _ _ 0 _ _ _ hbx2).trans rfl, (cell_of_row _ _ 1 _ _ _ hbx2).trans rfl⟩
  have HSC : Hid (∀ wx, Below w2.heap.size w2 wx → wx.cell? ⟨pb, 0, none⟩ = some (.int .i64 lim) ∧ wx.cell? ⟨pb, 1, none⟩ = some (.slice (some ⟨gr, 0, none⟩) L.length capr)) := Lib.hid (fun wx hb => ⟨(hb.cell (p := ⟨pb, 0, none⟩) (lt_of_heap hbx2)).trans c0, (hb.cell (p := ⟨pb, 1, none⟩) (lt_of_heap hbx2)).trans c1⟩)
  clear HRUN HKB HRG HBX hK2 hi2 hp2 hkp hbx2 hW1 HGL HNG hwf c0 c1
  go_wp2_with fail
  go_cut [15, 16, 17, 18] (fun u15 u16 u17 u18 wx => ∃ (B gf cf : Nat) (sf : Option Addr) (cg : Nat), u15 = .pointer (some ⟨B, 0, none⟩) ∧ u16 = .slice sf Y.length cg ∧ u17 = .int .i64 ri ∧ u18 = .int .i64 re ∧ Aside (Below w2.heap.size w2 wx ∧ wx.heap[B]? = some (.cells #[.int .i64 lim, .slice (some ⟨gf, 0, none⟩) RL.length cf] 29 (0, 0)) ∧ rowAt wx gf RL ∧ gf < wx.heap.size ∧ IntsV wx sf Y))
  case first =>
    refine wp_region_noPanic ?_
    refine wp_region_held_drew (S := (fun w' => w'.cell? ⟨pb, 0, none⟩ = some (.int .i64 lim) ∧ w'.cell? ⟨pb, 1, none⟩ = some (.slice (some ⟨gr, 0, none⟩) L.length capr))) (by kernel_rfl) ?_ (fun hHeld => ?_)
    · exact HSC.out _ (Below.refl _ _).drew
    have HB0 : Hid (Below w2.heap.size w2 w2.drew) := Lib.hid (Below.refl _ _).drew
    generalize w2.drew = X0 at *
    refine wpAnyH_take (i := 0) (v := ?_) rfl (by kernel_rfl) (by kernel_rfl) (by kernel_rfl) (fun _ _ _ h => h) (Or.inl ⟨by rfl, ?_⟩) (by assumption) ?_
    rotate_left
    · (intro w hSw; (try dsimp only at hSw); go_simp; try with_reducible rfl)
    try simp only [List.getElem_toArray, List.getElem_cons_zero, Act.put, List.setIfInBounds_toArray, List.set_cons_zero, List.set_cons_succ]
    refine wpAnyH_take (i := 1) (v := ?_) rfl (by kernel_rfl) (by kernel_rfl) (by kernel_rfl) (fun _ _ _ h => h) (Or.inl ⟨by rfl, ?_⟩) (by assumption) ?_
    rotate_left
    · (intro w hSw; (try dsimp only at hSw); go_simp; try with_reducible rfl)
    try simp only [List.getElem_toArray, List.getElem_cons_succ, List.getElem_cons_zero, Act.put, List.setIfInBounds_toArray, List.set_cons_zero, List.set_cons_succ]
    refine wpAnyH_take (i := 3) (v := ?_) rfl (by kernel_rfl) (by kernel_rfl) (by kernel_rfl) (fun _ _ _ h => h) (Or.inl ⟨by rfl, ?_⟩) (by assumption) ?_
    rotate_left
    · (intro w hSw; (try dsimp only at hSw); go_simp; try with_reducible rfl)
    try simp only [List.getElem_toArray, List.getElem_cons_succ, List.getElem_cons_zero, Act.put, List.setIfInBounds_toArray, List.set_cons_zero, List.set_cons_succ]
    refine wpAnyH_ready (rs := [2, 11]) (by kernel_rfl) (by simp) ?_
    refine AllReadyH.cons rfl (fun K hK => ?_) (AllReadyH.cons rfl (fun K hK => ?_) AllReadyH.nil)
    · go_simp
      (refine (HHD.out _ HB0.out).mono ?_; rintro e v1 ⟨sh, ch, rfl, hhi, -, hbn⟩)
      go_wp2_with fail
      refine hK.out _ _ ?_ (fun hHeld => ?_)
      · exact HSC.out _ (HB0.out.trans (hbn.mono HB0.out.size))
      clear hK K
      have HB1 := Lib.hid (HB0.out.trans (hbn.mono HB0.out.size))
      have HI1 := Lib.hid hhi
      clear hhi
      clear hbn
      try simp only [List.getElem_toArray, List.getElem_cons_succ, List.getElem_cons_zero, Act.put, List.setIfInBounds_toArray, List.set_cons_zero, List.set_cons_succ]
      refine wpAnyH_ready (rs := [4, 11]) (by kernel_rfl) (by simp) ?_
      refine AllReadyH.cons rfl (fun K hK => ?_) (AllReadyH.cons rfl (fun K hK => ?_) AllReadyH.nil)
      · go_simp
        (refine (of_any ss cs steps _ (HST2.out.keep HB1.out) HLL.out).mono ?_; rintro e v2 ⟨so, co, rfl, hso, hbn⟩)
        go_wp2_with fail
        refine hK.out _ _ ?_ (fun hHeld => ?_)
        · exact HSC.out _ (HB1.out.trans (hbn.mono HB1.out.size))
        clear hK K
        have HB2 := Lib.hid (HB1.out.trans (hbn.mono HB1.out.size))
        have HI2 := Lib.hid (HI1.out.keep hbn)
        have HO2 := Lib.hid hso
        clear hso
        clear hbn
        try simp only [List.getElem_toArray, List.getElem_cons_succ, List.getElem_cons_zero, Act.put, List.setIfInBounds_toArray, List.set_cons_zero, List.set_cons_succ]
        refine wpAnyH_ready (rs := [5, 11]) (by kernel_rfl) (by simp) ?_
        refine AllReadyH.cons rfl (fun K hK => ?_) (AllReadyH.cons rfl (fun K hK => ?_) AllReadyH.nil)
        · go_simp
          (refine (HRF.out gr capr sh so ch co _ (HRG2.out.keep (HB2.out.block _ HGR2.out)) (Nat.lt_of_lt_of_le HGR2.out HB2.out.size) HI2.out HO2.out).mono ?_; rintro e v3 ⟨gf, cf, sf, cg, rfl, hrf, hgf, hsf, hfr, hbn⟩)
          go_wp2_with fail
          refine hK.out _ _ ?_ (fun hHeld => ?_)
          · exact HSC.out _ (HB2.out.trans (hbn.mono HB2.out.size))
          clear hK K
          have HB3 := Lib.hid (HB2.out.trans (hbn.mono HB2.out.size))
          have HI3 := Lib.hid (HI2.out.keep hbn)
          have HO3 := Lib.hid (HO2.out.keep hbn)
          have HR3 : Hid (rowAt v3 gf RL ∧ gf < v3.heap.size ∧ IntsV v3 sf Y) := Lib.hid ⟨hrf, hgf, hsf⟩
          clear hrf hgf hsf hfr
          clear hbn
          try simp only [List.getElem_toArray, List.getElem_cons_succ, List.getElem_cons_zero, Act.put, List.setIfInBounds_toArray, List.set_cons_zero, List.set_cons_succ]
          refine wpAnyH_take (i := 6) (v := ?_) rfl (by kernel_rfl) (by kernel_rfl) (by kernel_rfl) (fun _ _ _ h => h) (Or.inl ⟨by rfl, ?_⟩) (by assumption) ?_
          rotate_left
          · (intro w hSw; (try dsimp only at hSw); go_simp; try with_reducible rfl)
          try simp only [List.getElem_toArray, List.getElem_cons_succ, List.getElem_cons_zero, Act.put, List.setIfInBounds_toArray, List.set_cons_zero, List.set_cons_succ]
          refine wpAnyH_take (i := 7) (v := ?_) rfl (by kernel_rfl) (by kernel_rfl) (by kernel_rfl) (fun _ _ _ h => h) (Or.inl ⟨by rfl, ?_⟩) (by assumption) ?_
          rotate_left
          · (intro w hSw; (try dsimp only at hSw); go_simp; try with_reducible rfl)
          try simp only [List.getElem_toArray, List.getElem_cons_succ, List.getElem_cons_zero, Act.put, List.setIfInBounds_toArray, List.set_cons_zero, List.set_cons_succ]
          refine wpAnyH_take (i := 8) (v := ?_) rfl (by kernel_rfl) (by kernel_rfl) (by kernel_rfl) (fun _ _ _ h => h) (Or.inl ⟨by rfl, ?_⟩) (by assumption) ?_
          rotate_left
          · (intro w hSw; (try dsimp only at hSw); go_simp; try with_reducible rfl)
          try simp only [List.getElem_toArray, List.getElem_cons_succ, List.getElem_cons_zero, Act.put, List.setIfInBounds_toArray, List.set_cons_zero, List.set_cons_succ]
          refine wpAnyH_take (i := 9) (v := ?_) rfl (by kernel_rfl) (by kernel_rfl) (by kernel_rfl) (fun _ _ _ h => h) (Or.inl ⟨by rfl, ?_⟩) (by assumption) ?_
          rotate_left
          · (intro w hSw; (try dsimp only at hSw); go_simp; try with_reducible rfl)
          try simp only [List.getElem_toArray, List.getElem_cons_succ, List.getElem_cons_zero, Act.put, List.setIfInBounds_toArray, List.set_cons_zero, List.set_cons_succ]
          refine wpAnyH_take (i := 10) (v := ?_) rfl (by kernel_rfl) (by kernel_rfl) (by kernel_rfl) (fun _ _ _ h => h) (Or.inl ⟨by rfl, ?_⟩) (by assumption) ?_
          rotate_left
          · (intro w hSw; (try dsimp only at hSw); go_simp; try with_reducible rfl)
          try simp only [List.getElem_toArray, List.getElem_cons_succ, List.getElem_cons_zero, Act.put, List.setIfInBounds_toArray, List.set_cons_zero, List.set_cons_succ]
          refine wpAnyH_ready (rs := [11]) (by kernel_rfl) (by simp) ?_
          refine AllReadyH.cons rfl (fun K hK => ?_) AllReadyH.nil
          go_simp
          have hbn : Below v3.heap.size v3 (v3.alloc (.cells #[.int .i64 0, .slice none 0 0] 29)) := (Below.refl _ _).alloc (Nat.le_refl _) _
          refine hK.out _ _ ?_ (fun hHeld => ?_)
          · exact HSC.out _ (HB3.out.trans (hbn.mono HB3.out.size))
          clear hK K hHeld
          have hz := heap_alloc_new v3 (.cells #[.int .i64 0, .slice none 0 0] 29)
          obtain ⟨X4, hX⟩ : ∃ X, X = v3.alloc (.cells #[.int .i64 0, .slice none 0 0] 29) := ⟨_, rfl⟩
          rw [← hX] at hbn hz ⊢
          clear hX
          have HB4 := Lib.hid (HB3.out.trans (hbn.mono HB3.out.size))
          have HI4 := Lib.hid (HI3.out.keep hbn)
          have HO4 := Lib.hid (HO3.out.keep hbn)
          have HR4 : Hid (rowAt X4 gf RL ∧ gf < X4.heap.size ∧ IntsV X4 sf Y) := Lib.hid ⟨HR3.out.1.keep (hbn.block _ HR3.out.2.1), Nat.lt_of_lt_of_le HR3.out.2.1 hbn.size, HR3.out.2.2.keep hbn⟩
          have HZ4 := Lib.hid hz
          have hBg : w2.heap.size ≤ v3.heap.size := HB3.out.size
          have HNE : Hid (0 < Y.length → ∀ p, sf = some p → p.block ≠ v3.heap.size) := Lib.hid (fun h0 p hp => by
            obtain ⟨gl, ol, e1, h9, _⟩ := HR3.out.2.2 h0
            rw [e1] at hp
            obtain rfl := Option.some.inj hp
            show gl ≠ v3.heap.size
            omega)
          clear hz hbn
          try simp only [List.getElem_toArray, List.getElem_cons_succ, List.getElem_cons_zero, Act.put, List.setIfInBounds_toArray, List.set_cons_zero, List.set_cons_succ]
          obtain ⟨z0, z1⟩ : X4.cell? ⟨v3.heap.size, 0, none⟩ = some (.int .i64 0) ∧ X4.cell? ⟨v3.heap.size, 1, none⟩ = some (.slice none 0 0) := ⟨(cell_of_row _ _ 0 _ _ _ HZ4.out).trans rfl, (cell_of_row _ _ 1 _ _ _ HZ4.out).trans rfl⟩
          have z2 : X4.frozen? ⟨v3.heap.size, 0, none⟩ = false := frozen_of_row _ _ _ _ _ HZ4.out
          have z3 : X4.frozen? ⟨v3.heap.size, 1, none⟩ = false := frozen_of_row _ _ _ _ _ HZ4.out
          have lz := lt_of_heap HZ4.out
          have HFIN : Hid (Below w2.heap.size w2 ((X4.setCell ⟨v3.heap.size, 0, none⟩ (.int .i64 lim)).setCell ⟨v3.heap.size, 1, none⟩ (.slice (some ⟨gf, 0, none⟩) RL.length cf)) ∧ ((X4.setCell ⟨v3.heap.size, 0, none⟩ (.int .i64 lim)).setCell ⟨v3.heap.size, 1, none⟩ (.slice (some ⟨gf, 0, none⟩) RL.length cf)).heap[v3.heap.size]? = some (.cells #[.int .i64 lim, .slice (some ⟨gf, 0, none⟩) RL.length cf] 29 (0, 0)) ∧ rowAt ((X4.setCell ⟨v3.heap.size, 0, none⟩ (.int .i64 lim)).setCell ⟨v3.heap.size, 1, none⟩ (.slice (some ⟨gf, 0, none⟩) RL.length cf)) gf RL ∧ gf < ((X4.setCell ⟨v3.heap.size, 0, none⟩ (.int .i64 lim)).setCell ⟨v3.heap.size, 1, none⟩ (.slice (some ⟨gf, 0, none⟩) RL.length cf)).heap.size ∧ IntsV ((X4.setCell ⟨v3.heap.size, 0, none⟩ (.int .i64 lim)).setCell ⟨v3.heap.size, 1, none⟩ (.slice (some ⟨gf, 0, none⟩) RL.length cf)) sf Y) := Lib.hid (by
            obtain ⟨hr, hl, hi⟩ := HR4.out
            have hne : gf ≠ v3.heap.size := row_ne hr HPO.out z1
            refine ⟨set2_below HB4.out hBg _ _, set2_at HZ4.out _ _, hr.keep (set2_block _ _ _ _ _ hne), by rw [set2_size]; exact hl, fun h0 => ?_⟩
            obtain ⟨gl, ol, e1, h9, h10⟩ := hi h0
            exact ⟨gl, ol, e1, by rw [set2_size]; exact h9, h10.keep (set2_block _ _ _ _ _ (HNE.out h0 _ e1))⟩)
          refine wpAnyH_ready (rs := [12]) (by kernel_rfl) (by simp) ?_
          refine AllReadyH.cons rfl (fun K hK => ?_) AllReadyH.nil
          go_simp
          refine hK.out _ _ ?_ (fun hHeld => ?_)
          · exact HSC.out _ HFIN.out.1
          clear hK K
          try simp only [List.getElem_toArray, List.getElem_cons_succ, List.getElem_cons_zero, Act.put, List.setIfInBounds_toArray, List.set_cons_zero, List.set_cons_succ]
          refine wpAnyH_take (i := 13) (v := ?_) rfl (by kernel_rfl) (by kernel_rfl) (by kernel_rfl) (fun _ _ _ h => h) (Or.inl ⟨by rfl, ?_⟩) (by assumption) ?_
          rotate_left
          · (intro w hSw; (try dsimp only at hSw); go_simp; try with_reducible rfl)
          try simp only [List.getElem_toArray, List.getElem_cons_succ, List.getElem_cons_zero, Act.put, List.setIfInBounds_toArray, List.set_cons_zero, List.set_cons_succ]
          refine wpAnyH_take (i := 14) (v := ?_) rfl (by kernel_rfl) (by kernel_rfl) (by kernel_rfl) (fun _ _ _ h => h) (Or.inl ⟨by rfl, ?_⟩) (by assumption) ?_
          rotate_left
          · (intro w hSw; (try dsimp only at hSw); go_simp; try with_reducible rfl)
          try simp only [List.getElem_toArray, List.getElem_cons_succ, List.getElem_cons_zero, Act.put, List.setIfInBounds_toArray, List.set_cons_zero, List.set_cons_succ]
          refine wpAnyH_take (i := 15) (v := ?_) rfl (by kernel_rfl) (by kernel_rfl) (by kernel_rfl) (fun _ _ _ h => h) (Or.inl ⟨by rfl, ?_⟩) (by assumption) ?_
          rotate_left
          · (intro w hSw; (try dsimp only at hSw); go_simp; try with_reducible rfl)
          try simp only [List.getElem_toArray, List.getElem_cons_succ, List.getElem_cons_zero, Act.put, List.setIfInBounds_toArray, List.set_cons_zero, List.set_cons_succ]
          refine wpAnyH_done (by kernel_rfl) ?_ _
          refine NoPanic.normal ?_
          go_wp2_with fail
          go_meet
          exact ⟨_, gf, cf, sf, cg, rfl, rfl, rfl, rfl, HFIN.out⟩
        · go_simp
          have hbn : Below v2.heap.size v2 (v2.alloc (.cells #[.int .i64 0, .slice none 0 0] 29)) := (Below.refl _ _).alloc (Nat.le_refl _) _
          refine hK.out _ _ ?_ (fun hHeld => ?_)
          · exact HSC.out _ (HB2.out.trans (hbn.mono HB2.out.size))
          clear hK K hHeld
          have hz := heap_alloc_new v2 (.cells #[.int .i64 0, .slice none 0 0] 29)
          obtain ⟨X3, hX⟩ : ∃ X, X = v2.alloc (.cells #[.int .i64 0, .slice none 0 0] 29) := ⟨_, rfl⟩
          rw [← hX] at hbn hz ⊢
          clear hX
          have HB3 := Lib.hid (HB2.out.trans (hbn.mono HB2.out.size))
          have HI3 := Lib.hid (HI2.out.keep hbn)
          have HO3 := Lib.hid (HO2.out.keep hbn)
          have HZ3 := Lib.hid hz
          have hBg : w2.heap.size ≤ v2.heap.size := HB2.out.size
          clear hz hbn
          try simp only [List.getElem_toArray, List.getElem_cons_succ, List.getElem_cons_zero, Act.put, List.setIfInBounds_toArray, List.set_cons_zero, List.set_cons_succ]
          refine wpAnyH_ready (rs := [5]) (by kernel_rfl) (by simp) ?_
          refine AllReadyH.cons rfl (fun K hK => ?_) AllReadyH.nil
          go_simp
          (refine (HRF.out gr capr sh so ch co _ (HRG2.out.keep (HB3.out.block _ HGR2.out)) (Nat.lt_of_lt_of_le HGR2.out HB3.out.size) HI3.out HO3.out).mono ?_; rintro e v4 ⟨gf, cf, sf, cg, rfl, hrf, hgf, hsf, hfr, hbn⟩)
          go_wp2_with fail
          refine hK.out _ _ ?_ (fun hHeld => ?_)
          · exact HSC.out _ (HB3.out.trans (hbn.mono HB3.out.size))
          clear hK K
          have HB4 := Lib.hid (HB3.out.trans (hbn.mono HB3.out.size))
          have HI4 := Lib.hid (HI3.out.keep hbn)
          have HO4 := Lib.hid (HO3.out.keep hbn)
          have HZ4 := Lib.hid ((hbn.block _ (lt_of_heap HZ3.out)).trans HZ3.out)
          have HR4 : Hid (rowAt v4 gf RL ∧ gf < v4.heap.size ∧ IntsV v4 sf Y) := Lib.hid ⟨hrf, hgf, hsf⟩
          have HNE : Hid (0 < Y.length → ∀ p, sf = some p → p.block ≠ v2.heap.size) := Lib.hid (fun h0 p hp => by have := hfr h0 p hp; have := lt_of_heap HZ3.out; omega)
          clear hrf hgf hsf hfr
          clear hbn
          try simp only [List.getElem_toArray, List.getElem_cons_succ, List.getElem_cons_zero, Act.put, List.setIfInBounds_toArray, List.set_cons_zero, List.set_cons_succ]
          refine wpAnyH_take (i := 6) (v := ?_) rfl (by kernel_rfl) (by kernel_rfl) (by kernel_rfl) (fun _ _ _ h => h) (Or.inl ⟨by rfl, ?_⟩) (by assumption) ?_
          rotate_left
          · (intro w hSw; (try dsimp only at hSw); go_simp; try with_reducible rfl)
          try simp only [List.getElem_toArray, List.getElem_cons_succ, List.getElem_cons_zero, Act.put, List.setIfInBounds_toArray, List.set_cons_zero, List.set_cons_succ]
          refine wpAnyH_take (i := 7) (v := ?_) rfl (by kernel_rfl) (by kernel_rfl) (by kernel_rfl) (fun _ _ _ h => h) (Or.inl ⟨by rfl, ?_⟩) (by assumption) ?_
          rotate_left
          · (intro w hSw; (try dsimp only at hSw); go_simp; try with_reducible rfl)
          try simp only [List.getElem_toArray, List.getElem_cons_succ, List.getElem_cons_zero, Act.put, List.setIfInBounds_toArray, List.set_cons_zero, List.set_cons_succ]
          refine wpAnyH_take (i := 8) (v := ?_) rfl (by kernel_rfl) (by kernel_rfl) (by kernel_rfl) (fun _ _ _ h => h) (Or.inl ⟨by rfl, ?_⟩) (by assumption) ?_
          rotate_left
          · (intro w hSw; (try dsimp only at hSw); go_simp; try with_reducible rfl)
          try simp only [List.getElem_toArray, List.getElem_cons_succ, List.getElem_cons_zero, Act.put, List.setIfInBounds_toArray, List.set_cons_zero, List.set_cons_succ]
          refine wpAnyH_take (i := 9) (v := ?_) rfl (by kernel_rfl) (by kernel_rfl) (by kernel_rfl) (fun _ _ _ h => h) (Or.inl ⟨by rfl, ?_⟩) (by assumption) ?_
          rotate_left
          · (intro w hSw; (try dsimp only at hSw); go_simp; try with_reducible rfl)
          try simp only [List.getElem_toArray, List.getElem_cons_succ, List.getElem_cons_zero, Act.put, List.setIfInBounds_toArray, List.set_cons_zero, List.set_cons_succ]
          refine wpAnyH_take (i := 10) (v := ?_) rfl (by kernel_rfl) (by kernel_rfl) (by kernel_rfl) (fun _ _ _ h => h) (Or.inl ⟨by rfl, ?_⟩) (by assumption) ?_
          rotate_left
          · (intro w hSw; (try dsimp only at hSw); go_simp; try with_reducible rfl)
          try simp only [List.getElem_toArray, List.getElem_cons_succ, List.getElem_cons_zero, Act.put, List.setIfInBounds_toArray, List.set_cons_zero, List.set_cons_succ]
          obtain ⟨z0, z1⟩ : v4.cell? ⟨v2.heap.size, 0, none⟩ = some (.int .i64 0) ∧ v4.cell? ⟨v2.heap.size, 1, none⟩ = some (.slice none 0 0) := ⟨(cell_of_row _ _ 0 _ _ _ HZ4.out).trans rfl, (cell_of_row _ _ 1 _ _ _ HZ4.out).trans rfl⟩
          have z2 : v4.frozen? ⟨v2.heap.size, 0, none⟩ = false := frozen_of_row _ _ _ _ _ HZ4.out
          have z3 : v4.frozen? ⟨v2.heap.size, 1, none⟩ = false := frozen_of_row _ _ _ _ _ HZ4.out
          have lz := lt_of_heap HZ4.out
          have HFIN : Hid (Below w2.heap.size w2 ((v4.setCell ⟨v2.heap.size, 0, none⟩ (.int .i64 lim)).setCell ⟨v2.heap.size, 1, none⟩ (.slice (some ⟨gf, 0, none⟩) RL.length cf)) ∧ ((v4.setCell ⟨v2.heap.size, 0, none⟩ (.int .i64 lim)).setCell ⟨v2.heap.size, 1, none⟩ (.slice (some ⟨gf, 0, none⟩) RL.length cf)).heap[v2.heap.size]? = some (.cells #[.int .i64 lim, .slice (some ⟨gf, 0, none⟩) RL.length cf] 29 (0, 0)) ∧ rowAt ((v4.setCell ⟨v2.heap.size, 0, none⟩ (.int .i64 lim)).setCell ⟨v2.heap.size, 1, none⟩ (.slice (some ⟨gf, 0, none⟩) RL.length cf)) gf RL ∧ gf < ((v4.setCell ⟨v2.heap.size, 0, none⟩ (.int .i64 lim)).setCell ⟨v2.heap.size, 1, none⟩ (.slice (some ⟨gf, 0, none⟩) RL.length cf)).heap.size ∧ IntsV ((v4.setCell ⟨v2.heap.size, 0, none⟩ (.int .i64 lim)).setCell ⟨v2.heap.size, 1, none⟩ (.slice (some ⟨gf, 0, none⟩) RL.length cf)) sf Y) := Lib.hid (by
            obtain ⟨hr, hl, hi⟩ := HR4.out
            have hne : gf ≠ v2.heap.size := row_ne hr HPO.out z1
            refine ⟨set2_below HB4.out hBg _ _, set2_at HZ4.out _ _, hr.keep (set2_block _ _ _ _ _ hne), by rw [set2_size]; exact hl, fun h0 => ?_⟩
            obtain ⟨gl, ol, e1, h9, h10⟩ := hi h0
            exact ⟨gl, ol, e1, by rw [set2_size]; exact h9, h10.keep (set2_block _ _ _ _ _ (HNE.out h0 _ e1))⟩)
          refine wpAnyH_ready (rs := [12]) (by kernel_rfl) (by simp) ?_
          refine AllReadyH.cons rfl (fun K hK => ?_) AllReadyH.nil
          go_simp
          refine hK.out _ _ ?_ (fun hHeld => ?_)
          · exact HSC.out _ HFIN.out.1
          clear hK K
          try simp only [List.getElem_toArray, List.getElem_cons_succ, List.getElem_cons_zero, Act.put, List.setIfInBounds_toArray, List.set_cons_zero, List.set_cons_succ]
          refine wpAnyH_take (i := 13) (v := ?_) rfl (by kernel_rfl) (by kernel_rfl) (by kernel_rfl) (fun _ _ _ h => h) (Or.inl ⟨by rfl, ?_⟩) (by assumption) ?_
          rotate_left
          · (intro w hSw; (try dsimp only at hSw); go_simp; try with_reducible rfl)
          try simp only [List.getElem_toArray, List.getElem_cons_succ, List.getElem_cons_zero, Act.put, List.setIfInBounds_toArray, List.set_cons_zero, List.set_cons_succ]
          refine wpAnyH_take (i := 14) (v := ?_) rfl (by kernel_rfl) (by kernel_rfl) (by kernel_rfl) (fun _ _ _ h => h) (Or.inl ⟨by rfl, ?_⟩) (by assumption) ?_
          rotate_left
          · (intro w hSw; (try dsimp only at hSw); go_simp; try with_reducible rfl)
          try simp only [List.getElem_toArray, List.getElem_cons_succ, List.getElem_cons_zero, Act.put, List.setIfInBounds_toArray, List.set_cons_zero, List.set_cons_succ]
          refine wpAnyH_take (i := 15) (v := ?_) rfl (by kernel_rfl) (by kernel_rfl) (by kernel_rfl) (fun _ _ _ h => h) (Or.inl ⟨by rfl, ?_⟩) (by assumption) ?_
          rotate_left
          · (intro w hSw; (try dsimp only at hSw); go_simp; try with_reducible rfl)
          try simp only [List.getElem_toArray, List.getElem_cons_succ, List.getElem_cons_zero, Act.put, List.setIfInBounds_toArray, List.set_cons_zero, List.set_cons_succ]
          refine wpAnyH_done (by kernel_rfl) ?_ _
          refine NoPanic.normal ?_
          go_wp2_with fail
          go_meet
          exact ⟨_, gf, cf, sf, cg, rfl, rfl, rfl, rfl, HFIN.out⟩
      · go_simp
        have hbn : Below v1.heap.size v1 (v1.alloc (.cells #[.int .i64 0, .slice none 0 0] 29)) := (Below.refl _ _).alloc (Nat.le_refl _) _
        refine hK.out _ _ ?_ (fun hHeld => ?_)
        · exact HSC.out _ (HB1.out.trans (hbn.mono HB1.out.size))
        clear hK K hHeld
        have hz := heap_alloc_new v1 (.cells #[.int .i64 0, .slice none 0 0] 29)
        obtain ⟨X2, hX⟩ : ∃ X, X = v1.alloc (.cells #[.int .i64 0, .slice none 0 0] 29) := ⟨_, rfl⟩
        rw [← hX] at hbn hz ⊢
        clear hX
        have HB2 := Lib.hid (HB1.out.trans (hbn.mono HB1.out.size))
        have HI2 := Lib.hid (HI1.out.keep hbn)
        have HZ2 := Lib.hid hz
        have hBg : w2.heap.size ≤ v1.heap.size := HB1.out.size
        clear hz hbn
        try simp only [List.getElem_toArray, List.getElem_cons_succ, List.getElem_cons_zero, Act.put, List.setIfInBounds_toArray, List.set_cons_zero, List.set_cons_succ]
        refine wpAnyH_ready (rs := [4]) (by kernel_rfl) (by simp) ?_
        refine AllReadyH.cons rfl (fun K hK => ?_) AllReadyH.nil
        go_simp
        (refine (of_any ss cs steps _ (HST2.out.keep HB2.out) HLL.out).mono ?_; rintro e v3 ⟨so, co, rfl, hso, hbn⟩)
        go_wp2_with fail
        refine hK.out _ _ ?_ (fun hHeld => ?_)
        · exact HSC.out _ (HB2.out.trans (hbn.mono HB2.out.size))
        clear hK K
        have HB3 := Lib.hid (HB2.out.trans (hbn.mono HB2.out.size))
        have HI3 := Lib.hid (HI2.out.keep hbn)
        have HZ3 := Lib.hid ((hbn.block _ (lt_of_heap HZ2.out)).trans HZ2.out)
        have HO3 := Lib.hid hso
        clear hso
        clear hbn
        try simp only [List.getElem_toArray, List.getElem_cons_succ, List.getElem_cons_zero, Act.put, List.setIfInBounds_toArray, List.set_cons_zero, List.set_cons_succ]
        refine wpAnyH_ready (rs := [5]) (by kernel_rfl) (by simp) ?_
        refine AllReadyH.cons rfl (fun K hK => ?_) AllReadyH.nil
        go_simp
        (refine (HRF.out gr capr sh so ch co _ (HRG2.out.keep (HB3.out.block _ HGR2.out)) (Nat.lt_of_lt_of_le HGR2.out HB3.out.size) HI3.out HO3.out).mono ?_; rintro e v4 ⟨gf, cf, sf, cg, rfl, hrf, hgf, hsf, hfr, hbn⟩)
        go_wp2_with fail
        refine hK.out _ _ ?_ (fun hHeld => ?_)
        · exact HSC.out _ (HB3.out.trans (hbn.mono HB3.out.size))
        clear hK K
        have HB4 := Lib.hid (HB3.out.trans (hbn.mono HB3.out.size))
        have HI4 := Lib.hid (HI3.out.keep hbn)
        have HO4 := Lib.hid (HO3.out.keep hbn)
        have HZ4 := Lib.hid ((hbn.block _ (lt_of_heap HZ3.out)).trans HZ3.out)
        have HR4 : Hid (rowAt v4 gf RL ∧ gf < v4.heap.size ∧ IntsV v4 sf Y) := Lib.hid ⟨hrf, hgf, hsf⟩
        have HNE : Hid (0 < Y.length → ∀ p, sf = some p → p.block ≠ v1.heap.size) := Lib.hid (fun h0 p hp => by have := hfr h0 p hp; have := lt_of_heap HZ3.out; omega)
        clear hrf hgf hsf hfr
        clear hbn
        try simp only [List.getElem_toArray, List.getElem_cons_succ, List.getElem_cons_zero, Act.put, List.setIfInBounds_toArray, List.set_cons_zero, List.set_cons_succ]
        refine wpAnyH_take (i := 6) (v := ?_) rfl (by kernel_rfl) (by kernel_rfl) (by kernel_rfl) (fun _ _ _ h => h) (Or.inl ⟨by rfl, ?_⟩) (by assumption) ?_
        rotate_left
        · (intro w hSw; (try dsimp only at hSw); go_simp; try with_reducible rfl)
        try simp only [List.getElem_toArray, List.getElem_cons_succ, List.getElem_cons_zero, Act.put, List.setIfInBounds_toArray, List.set_cons_zero, List.set_cons_succ]
        refine wpAnyH_take (i := 7) (v := ?_) rfl (by kernel_rfl) (by kernel_rfl) (by kernel_rfl) (fun _ _ _ h => h) (Or.inl ⟨by rfl, ?_⟩) (by assumption) ?_
        rotate_left
        · (intro w hSw; (try dsimp only at hSw); go_simp; try with_reducible rfl)
        try simp only [List.getElem_toArray, List.getElem_cons_succ, List.getElem_cons_zero, Act.put, List.setIfInBounds_toArray, List.set_cons_zero, List.set_cons_succ]
        refine wpAnyH_take (i := 8) (v := ?_) rfl (by kernel_rfl) (by kernel_rfl) (by kernel_rfl) (fun _ _ _ h => h) (Or.inl ⟨by rfl, ?_⟩) (by assumption) ?_
        rotate_left
        · (intro w hSw; (try dsimp only at hSw); go_simp; try with_reducible rfl)
        try simp only [List.getElem_toArray, List.getElem_cons_succ, List.getElem_cons_zero, Act.put, List.setIfInBounds_toArray, List.set_cons_zero, List.set_cons_succ]
        refine wpAnyH_take (i := 9) (v := ?_) rfl (by kernel_rfl) (by kernel_rfl) (by kernel_rfl) (fun _ _ _ h => h) (Or.inl ⟨by rfl, ?_⟩) (by assumption) ?_
        rotate_left
        · (intro w hSw; (try dsimp only at hSw); go_simp; try with_reducible rfl)
        try simp only [List.getElem_toArray, List.getElem_cons_succ, List.getElem_cons_zero, Act.put, List.setIfInBounds_toArray, List.set_cons_zero, List.set_cons_succ]
        refine wpAnyH_take (i := 10) (v := ?_) rfl (by kernel_rfl) (by kernel_rfl) (by kernel_rfl) (fun _ _ _ h => h) (Or.inl ⟨by rfl, ?_⟩) (by assumption) ?_
        rotate_left
        · (intro w hSw; (try dsimp only at hSw); go_simp; try with_reducible rfl)
        try simp only [List.getElem_toArray, List.getElem_cons_succ, List.getElem_cons_zero, Act.put, List.setIfInBounds_toArray, List.set_cons_zero, List.set_cons_succ]
        obtain ⟨z0, z1⟩ : v4.cell? ⟨v1.heap.size, 0, none⟩ = some (.int .i64 0) ∧ v4.cell? ⟨v1.heap.size, 1, none⟩ = some (.slice none 0 0) := ⟨(cell_of_row _ _ 0 _ _ _ HZ4.out).trans rfl, (cell_of_row _ _ 1 _ _ _ HZ4.out).trans rfl⟩
        have z2 : v4.frozen? ⟨v1.heap.size, 0, none⟩ = false := frozen_of_row _ _ _ _ _ HZ4.out
        have z3 : v4.frozen? ⟨v1.heap.size, 1, none⟩ = false := frozen_of_row _ _ _ _ _ HZ4.out
        have lz := lt_of_heap HZ4.out
        have HFIN : Hid (Below w2.heap.size w2 ((v4.setCell ⟨v1.heap.size, 0, none⟩ (.int .i64 lim)).setCell ⟨v1.heap.size, 1, none⟩ (.slice (some ⟨gf, 0, none⟩) RL.length cf)) ∧ ((v4.setCell ⟨v1.heap.size, 0, none⟩ (.int .i64 lim)).setCell ⟨v1.heap.size, 1, none⟩ (.slice (some ⟨gf, 0, none⟩) RL.length cf)).heap[v1.heap.size]? = some (.cells #[.int .i64 lim, .slice (some ⟨gf, 0, none⟩) RL.length cf] 29 (0, 0)) ∧ rowAt ((v4.setCell ⟨v1.heap.size, 0, none⟩ (.int .i64 lim)).setCell ⟨v1.heap.size, 1, none⟩ (.slice (some ⟨gf, 0, none⟩) RL.length cf)) gf RL ∧ gf < ((v4.setCell ⟨v1.heap.size, 0, none⟩ (.int .i64 lim)).setCell ⟨v1.heap.size, 1, none⟩ (.slice (some ⟨gf, 0, none⟩) RL.length cf)).heap.size ∧ IntsV ((v4.setCell ⟨v1.heap.size, 0, none⟩ (.int .i64 lim)).setCell ⟨v1.heap.size, 1, none⟩ (.slice (some ⟨gf, 0, none⟩) RL.length cf)) sf Y) := Lib.hid (by
          obtain ⟨hr, hl, hi⟩ := HR4.out
          have hne : gf ≠ v1.heap.size := row_ne hr HPO.out z1
          refine ⟨set2_below HB4.out hBg _ _, set2_at HZ4.out _ _, hr.keep (set2_block _ _ _ _ _ hne), by rw [set2_size]; exact hl, fun h0 => ?_⟩
          obtain ⟨gl, ol, e1, h9, h10⟩ := hi h0
          exact ⟨gl, ol, e1, by rw [set2_size]; exact h9, h10.keep (set2_block _ _ _ _ _ (HNE.out h0 _ e1))⟩)
        refine wpAnyH_ready (rs := [12]) (by kernel_rfl) (by simp) ?_
        refine AllReadyH.cons rfl (fun K hK => ?_) AllReadyH.nil
        go_simp
        refine hK.out _ _ ?_ (fun hHeld => ?_)
        · exact HSC.out _ HFIN.out.1
        clear hK K
        try simp only [List.getElem_toArray, List.getElem_cons_succ, List.getElem_cons_zero, Act.put, List.setIfInBounds_toArray, List.set_cons_zero, List.set_cons_succ]
        refine wpAnyH_take (i := 13) (v := ?_) rfl (by kernel_rfl) (by kernel_rfl) (by kernel_rfl) (fun _ _ _ h => h) (Or.inl ⟨by rfl, ?_⟩) (by assumption) ?_
        rotate_left
        · (intro w hSw; (try dsimp only at hSw); go_simp; try with_reducible rfl)
        try simp only [List.getElem_toArray, List.getElem_cons_succ, List.getElem_cons_zero, Act.put, List.setIfInBounds_toArray, List.set_cons_zero, List.set_cons_succ]
        refine wpAnyH_take (i := 14) (v := ?_) rfl (by kernel_rfl) (by kernel_rfl) (by kernel_rfl) (fun _ _ _ h => h) (Or.inl ⟨by rfl, ?_⟩) (by assumption) ?_
        rotate_left
        · (intro w hSw; (try dsimp only at hSw); go_simp; try with_reducible rfl)
        try simp only [List.getElem_toArray, List.getElem_cons_succ, List.getElem_cons_zero, Act.put, List.setIfInBounds_toArray, List.set_cons_zero, List.set_cons_succ]
        refine wpAnyH_take (i := 15) (v := ?_) rfl (by kernel_rfl) (by kernel_rfl) (by kernel_rfl) (fun _ _ _ h => h) (Or.inl ⟨by rfl, ?_⟩) (by assumption) ?_
        rotate_left
        · (intro w hSw; (try dsimp only at hSw); go_simp; try with_reducible rfl)
        try simp only [List.getElem_toArray, List.getElem_cons_succ, List.getElem_cons_zero, Act.put, List.setIfInBounds_toArray, List.set_cons_zero, List.set_cons_succ]
        refine wpAnyH_done (by kernel_rfl) ?_ _
        refine NoPanic.normal ?_
        go_wp2_with fail
        go_meet
        exact ⟨_, gf, cf, sf, cg, rfl, rfl, rfl, rfl, HFIN.out⟩
    · go_simp
      have hbn : Below X0.heap.size X0 (X0.alloc (.cells #[.int .i64 0, .slice none 0 0] 29)) := (Below.refl _ _).alloc (Nat.le_refl _) _
      refine hK.out _ _ ?_ (fun hHeld => ?_)
      · exact HSC.out _ (HB0.out.trans (hbn.mono HB0.out.size))
      clear hK K hHeld
      have hz := heap_alloc_new X0 (.cells #[.int .i64 0, .slice none 0 0] 29)
      obtain ⟨X1, hX⟩ : ∃ X, X = X0.alloc (.cells #[.int .i64 0, .slice none 0 0] 29) := ⟨_, rfl⟩
      rw [← hX] at hbn hz ⊢
      clear hX
      have HB1 := Lib.hid (HB0.out.trans (hbn.mono HB0.out.size))
      have HZ1 := Lib.hid hz
      have hBg : w2.heap.size ≤ X0.heap.size := HB0.out.size
      clear hz hbn
      try simp only [List.getElem_toArray, List.getElem_cons_succ, List.getElem_cons_zero, Act.put, List.setIfInBounds_toArray, List.set_cons_zero, List.set_cons_succ]
      refine wpAnyH_ready (rs := [2]) (by kernel_rfl) (by simp) ?_
      refine AllReadyH.cons rfl (fun K hK => ?_) AllReadyH.nil
      go_simp
      (refine (HHD.out _ HB1.out).mono ?_; rintro e v2 ⟨sh, ch, rfl, hhi, -, hbn⟩)
      go_wp2_with fail
      refine hK.out _ _ ?_ (fun hHeld => ?_)
      · exact HSC.out _ (HB1.out.trans (hbn.mono HB1.out.size))
      clear hK K
      have HB2 := Lib.hid (HB1.out.trans (hbn.mono HB1.out.size))
      have HZ2 := Lib.hid ((hbn.block _ (lt_of_heap HZ1.out)).trans HZ1.out)
      have HI2 := Lib.hid hhi
      clear hhi
      clear hbn
      try simp only [List.getElem_toArray, List.getElem_cons_succ, List.getElem_cons_zero, Act.put, List.setIfInBounds_toArray, List.set_cons_zero, List.set_cons_succ]
      refine wpAnyH_ready (rs := [4]) (by kernel_rfl) (by simp) ?_
      refine AllReadyH.cons rfl (fun K hK => ?_) AllReadyH.nil
      go_simp
      (refine (of_any ss cs steps _ (HST2.out.keep HB2.out) HLL.out).mono ?_; rintro e v3 ⟨so, co, rfl, hso, hbn⟩)
      go_wp2_with fail
      refine hK.out _ _ ?_ (fun hHeld => ?_)
      · exact HSC.out _ (HB2.out.trans (hbn.mono HB2.out.size))
      clear hK K
      have HB3 := Lib.hid (HB2.out.trans (hbn.mono HB2.out.size))
      have HI3 := Lib.hid (HI2.out.keep hbn)
      have HZ3 := Lib.hid ((hbn.block _ (lt_of_heap HZ2.out)).trans HZ2.out)
      have HO3 := Lib.hid hso
      clear hso
      clear hbn
      try simp only [List.getElem_toArray, List.getElem_cons_succ, List.getElem_cons_zero, Act.put, List.setIfInBounds_toArray, List.set_cons_zero, List.set_cons_succ]
      refine wpAnyH_ready (rs := [5]) (by kernel_rfl) (by simp) ?_
      refine AllReadyH.cons rfl (fun K hK => ?_) AllReadyH.nil
      go_simp
      (refine (HRF.out gr capr sh so ch co _ (HRG2.out.keep (HB3.out.block _ HGR2.out)) (Nat.lt_of_lt_of_le HGR2.out HB3.out.size) HI3.out HO3.out).mono ?_; rintro e v4 ⟨gf, cf, sf, cg, rfl, hrf, hgf, hsf, hfr, hbn⟩)
      go_wp2_with fail
      refine hK.out _ _ ?_ (fun hHeld => ?_)
      · exact HSC.out _ (HB3.out.trans (hbn.mono HB3.out.size))
      clear hK K
      have HB4 := Lib.hid (HB3.out.trans (hbn.mono HB3.out.size))
      have HI4 := Lib.hid (HI3.out.keep hbn)
      have HO4 := Lib.hid (HO3.out.keep hbn)
      have HZ4 := Lib.hid ((hbn.block _ (lt_of_heap HZ3.out)).trans HZ3.out)
      have HR4 : Hid (rowAt v4 gf RL ∧ gf < v4.heap.size ∧ IntsV v4 sf Y) := Lib.hid ⟨hrf, hgf, hsf⟩
      have HNE : Hid (0 < Y.length → ∀ p, sf = some p → p.block ≠ X0.heap.size) := Lib.hid (fun h0 p hp => by have := hfr h0 p hp; have := lt_of_heap HZ3.out; omega)
      clear hrf hgf hsf hfr
      clear hbn
      try simp only [List.getElem_toArray, List.getElem_cons_succ, List.getElem_cons_zero, Act.put, List.setIfInBounds_toArray, List.set_cons_zero, List.set_cons_succ]
      refine wpAnyH_take (i := 6) (v := ?_) rfl (by kernel_rfl) (by kernel_rfl) (by kernel_rfl) (fun _ _ _ h => h) (Or.inl ⟨by rfl, ?_⟩) (by assumption) ?_
      rotate_left
      · (intro w hSw; (try dsimp only at hSw); go_simp; try with_reducible rfl)
      try simp only [List.getElem_toArray, List.getElem_cons_succ, List.getElem_cons_zero, Act.put, List.setIfInBounds_toArray, List.set_cons_zero, List.set_cons_succ]
      refine wpAnyH_take (i := 7) (v := ?_) rfl (by kernel_rfl) (by kernel_rfl) (by kernel_rfl) (fun _ _ _ h => h) (Or.inl ⟨by rfl, ?_⟩) (by assumption) ?_
      rotate_left
      · (intro w hSw; (try dsimp only at hSw); go_simp; try with_reducible rfl)
      try simp only [List.getElem_toArray, List.getElem_cons_succ, List.getElem_cons_zero, Act.put, List.setIfInBounds_toArray, List.set_cons_zero, List.set_cons_succ]
      refine wpAnyH_take (i := 8) (v := ?_) rfl (by kernel_rfl) (by kernel_rfl) (by kernel_rfl) (fun _ _ _ h => h) (Or.inl ⟨by rfl, ?_⟩) (by assumption) ?_
      rotate_left
      · (intro w hSw; (try dsimp only at hSw); go_simp; try with_reducible rfl)
      try simp only [List.getElem_toArray, List.getElem_cons_succ, List.getElem_cons_zero, Act.put, List.setIfInBounds_toArray, List.set_cons_zero, List.set_cons_succ]
      refine wpAnyH_take (i := 9) (v := ?_) rfl (by kernel_rfl) (by kernel_rfl) (by kernel_rfl) (fun _ _ _ h => h) (Or.inl ⟨by rfl, ?_⟩) (by assumption) ?_
      rotate_left
      · (intro w hSw; (try dsimp only at hSw); go_simp; try with_reducible rfl)
      try simp only [List.getElem_toArray, List.getElem_cons_succ, List.getElem_cons_zero, Act.put, List.setIfInBounds_toArray, List.set_cons_zero, List.set_cons_succ]
      refine wpAnyH_take (i := 10) (v := ?_) rfl (by kernel_rfl) (by kernel_rfl) (by kernel_rfl) (fun _ _ _ h => h) (Or.inl ⟨by rfl, ?_⟩) (by assumption) ?_
      rotate_left
      · (intro w hSw; (try dsimp only at hSw); go_simp; try with_reducible rfl)
      try simp only [List.getElem_toArray, List.getElem_cons_succ, List.getElem_cons_zero, Act.put, List.setIfInBounds_toArray, List.set_cons_zero, List.set_cons_succ]
      obtain ⟨z0, z1⟩ : v4.cell? ⟨X0.heap.size, 0, none⟩ = some (.int .i64 0) ∧ v4.cell? ⟨X0.heap.size, 1, none⟩ = some (.slice none 0 0) := ⟨(cell_of_row _ _ 0 _ _ _ HZ4.out).trans rfl, (cell_of_row _ _ 1 _ _ _ HZ4.out).trans rfl⟩
      have z2 : v4.frozen? ⟨X0.heap.size, 0, none⟩ = false := frozen_of_row _ _ _ _ _ HZ4.out
      have z3 : v4.frozen? ⟨X0.heap.size, 1, none⟩ = false := frozen_of_row _ _ _ _ _ HZ4.out
      have lz := lt_of_heap HZ4.out
      have HFIN : Hid (Below w2.heap.size w2 ((v4.setCell ⟨X0.heap.size, 0, none⟩ (.int .i64 lim)).setCell ⟨X0.heap.size, 1, none⟩ (.slice (some ⟨gf, 0, none⟩) RL.length cf)) ∧ ((v4.setCell ⟨X0.heap.size, 0, none⟩ (.int .i64 lim)).setCell ⟨X0.heap.size, 1, none⟩ (.slice (some ⟨gf, 0, none⟩) RL.length cf)).heap[X0.heap.size]? = some (.cells #[.int .i64 lim, .slice (some ⟨gf, 0, none⟩) RL.length cf] 29 (0, 0)) ∧ rowAt ((v4.setCell ⟨X0.heap.size, 0, none⟩ (.int .i64 lim)).setCell ⟨X0.heap.size, 1, none⟩ (.slice (some ⟨gf, 0, none⟩) RL.length cf)) gf RL ∧ gf < ((v4.setCell ⟨X0.heap.size, 0, none⟩ (.int .i64 lim)).setCell ⟨X0.heap.size, 1, none⟩ (.slice (some ⟨gf, 0, none⟩) RL.length cf)).heap.size ∧ IntsV ((v4.setCell ⟨X0.heap.size, 0, none⟩ (.int .i64 lim)).setCell ⟨X0.heap.size, 1, none⟩ (.slice (some ⟨gf, 0, none⟩) RL.length cf)) sf Y) := Lib.hid (by
        obtain ⟨hr, hl, hi⟩ := HR4.out
        have hne : gf ≠ X0.heap.size := row_ne hr HPO.out z1
        refine ⟨set2_below HB4.out hBg _ _, set2_at HZ4.out _ _, hr.keep (set2_block _ _ _ _ _ hne), by rw [set2_size]; exact hl, fun h0 => ?_⟩
        obtain ⟨gl, ol, e1, h9, h10⟩ := hi h0
        exact ⟨gl, ol, e1, by rw [set2_size]; exact h9, h10.keep (set2_block _ _ _ _ _ (HNE.out h0 _ e1))⟩)
      refine wpAnyH_ready (rs := [12]) (by kernel_rfl) (by simp) ?_
      refine AllReadyH.cons rfl (fun K hK => ?_) AllReadyH.nil
      go_simp
      refine hK.out _ _ ?_ (fun hHeld => ?_)
      · exact HSC.out _ HFIN.out.1
      clear hK K
      try simp only [List.getElem_toArray, List.getElem_cons_succ, List.getElem_cons_zero, Act.put, List.setIfInBounds_toArray, List.set_cons_zero, List.set_cons_succ]
      refine wpAnyH_take (i := 13) (v := ?_) rfl (by kernel_rfl) (by kernel_rfl) (by kernel_rfl) (fun _ _ _ h => h) (Or.inl ⟨by rfl, ?_⟩) (by assumption) ?_
      rotate_left
      · (intro w hSw; (try dsimp only at hSw); go_simp; try with_reducible rfl)
      try simp only [List.getElem_toArray, List.getElem_cons_succ, List.getElem_cons_zero, Act.put, List.setIfInBounds_toArray, List.set_cons_zero, List.set_cons_succ]
      refine wpAnyH_take (i := 14) (v := ?_) rfl (by kernel_rfl) (by kernel_rfl) (by kernel_rfl) (fun _ _ _ h => h) (Or.inl ⟨by rfl, ?_⟩) (by assumption) ?_
      rotate_left
      · (intro w hSw; (try dsimp only at hSw); go_simp; try with_reducible rfl)
      try simp only [List.getElem_toArray, List.getElem_cons_succ, List.getElem_cons_zero, Act.put, List.setIfInBounds_toArray, List.set_cons_zero, List.set_cons_succ]
      refine wpAnyH_take (i := 15) (v := ?_) rfl (by kernel_rfl) (by kernel_rfl) (by kernel_rfl) (fun _ _ _ h => h) (Or.inl ⟨by rfl, ?_⟩) (by assumption) ?_
      rotate_left
      · (intro w hSw; (try dsimp only at hSw); go_simp; try with_reducible rfl)
      try simp only [List.getElem_toArray, List.getElem_cons_succ, List.getElem_cons_zero, Act.put, List.setIfInBounds_toArray, List.set_cons_zero, List.set_cons_succ]
      refine wpAnyH_done (by kernel_rfl) ?_ _
      refine NoPanic.normal ?_
      go_wp2_with fail
      go_meet
      exact ⟨_, gf, cf, sf, cg, rfl, rfl, rfl, rfl, HFIN.out⟩
  case rest =>
    obtain ⟨B, gf, cf, sf, cg, rfl, rfl, rfl, rfl, hfin⟩ := hcut
    obtain ⟨hb3, hbB, hrf, hgf, hsf⟩ := hfin.out
    have HB3 := Lib.hid hb3
    have HBB := Lib.hid hbB
    have HSV := Lib.hid hsf
    have HK3 := Lib.hid (HK2.out.keep hb3)
    have HI3 := Lib.hid (HI2.out.keep hb3)
    have HSM := Lib.hid (fun wx (hb : Below wc.heap.size wc wx) => same_any b g' bm cap' lim gf cf RL wx (HK3.out.keep hb).kn.ar (hrf.keep (hb.block _ hgf)) (Nat.lt_of_lt_of_le hgf hb.size))
    obtain ⟨q0, q1⟩ : wc.cell? ⟨B, 0, none⟩ = some (.int .i64 lim) ∧ wc.cell? ⟨B, 1, none⟩ = some (.slice (some ⟨gf, 0, none⟩) RL.length cf) := ⟨(cell_of_row _ _ 0 _ _ _ hbB).trans rfl, (cell_of_row _ _ 1 _ _ _ hbB).trans rfl⟩
    have lq := lt_of_heap hbB
    clear hfin hb3 hbB hrf hgf hsf HSC HHD HRF HST2 HKI
    go_wp2_with (go_at_call 28; refine (HSM.out _ (Below.refl _ _)).mono ?_; rintro e w4 ⟨rfl, hb4⟩; have HB4 := Lib.hid hb4; clear hb4)
    have HI4 := Lib.hid (HI3.out.keep HB4.out)
    have HS4 := Lib.hid (HSV.out.keep HB4.out)
    have HB5 := Lib.hid ((HK3.out.st.bel).trans (HB4.out.mono HK3.out.st.bel.size))
    clear HSM HI3 HSV HBB q0 q1 lq HK3 HK2 HB3 HB4 HI2 HBX2 HRG2 HGR2
    go_loopg [19, 86] Y.length (fun q _ u86 wr => ∃ k : Nat, k + q = Y.length ∧ u86 = .int .i64 k ∧ Aside (Below w4.heap.size w4 wr))
    case atStart => exact ⟨0, by omega, rfl, Below.refl _ _⟩
    case round =>
      obtain ⟨k, hkq, rfl, hb⟩ := hrel
      have HBW := Lib.hid hb.out
      clear hb
      have h30 : (Y.length : Int) ≤ 30 := by have := HY30.out; omega
      by_cases hlt : k < Y.length
      · have hlt2 : (k : Int) < Y.length := by omega
        obtain ⟨ga, oa, rfl, hga, hia⟩ := HI4.out (by omega)
        obtain ⟨gb, ob, rfl, hgb, hib⟩ := HS4.out (by omega)
        have xa := (HBW.out.cell (p := ⟨ga, oa + k, none⟩) hga).trans (hia k hlt)
        have xb := (HBW.out.cell (p := ⟨gb, ob + k, none⟩) hgb).trans (hib k hlt)
        have la : ga < wr.heap.size := Nat.lt_of_lt_of_le hga HBW.out.size
        have lb : gb < wr.heap.size := Nat.lt_of_lt_of_le hgb HBW.out.size
        clear hia hib
        generalize Y.getD k 0 = y at *
        go_wp2_with fail
        go_region_held3 (fun w' => w'.cell? ⟨ga, oa + k, none⟩ = some (.int .i64 y) ∧ w'.cell? ⟨gb, ob + k, none⟩ = some (.int .i64 y)) (go_keep) (fail)
        have HBD := Lib.hid HBW.out.drew
        go_wp2_with fail
        go_roundg (Y.length - (k + 1))
        case measure => omega
        case rel => exact ⟨k + 1, by omega, by go_num, HBD.out⟩
      · have hlt2 : ¬ (k : Int) < Y.length := by omega
        go_wp2_with fail
        go_at_call 23
        refine (HAw.out _ (HB5.out.trans (HBW.out.mono HB5.out.size))).mono ?_
        rintro e w6 ⟨rfl, hb6⟩
        have h7 := HB5.out.trans (HBW.out.mono HB5.out.size)
        have HB7 := Lib.hid (h7.trans (hb6.mono h7.size))
        clear hb6 h7
        go_wp2_with fail
        go_ret
        exact ⟨rfl, HB7.out⟩
end Go.Proofs.YtlckajnbmkkpeaaDoor
