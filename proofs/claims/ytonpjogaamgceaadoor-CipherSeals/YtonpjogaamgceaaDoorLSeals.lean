/- The walk of CipherSeals: what any cipher seals, and becomes, is the document's, or why it can't. -/
import Derived.Test.YtonpjogaamgceaaDoorJm
import Derived.Test.YtonpjogaamgceaaDoorJg
namespace Go.Proofs.YtonpjogaamgceaaDoor
open Go.RowKit

theorem seals_rowB {w : World} {g p : Nat} {L : List Nd} {x : Bool} (h : rowAt w g L) (hl : 0 < L.length) (hp : w.cell? ⟨p, 1, none⟩ = some (.bool x)) : g ≠ p := fun e => by
  have := (h 0 hl).2.1
  subst e
  rw [hp] at this
  simp at this
set_option maxRecDepth 100000 in
set_option maxHeartbeats 1000000 in
theorem seals_long (lm : Int) (s : Option Addr) (m cc : Nat) (c : Cf) (ad p : Int) (hm : 30 < m) (w : World) (hs : Shp w) : Calls Tryd.prog 3 #[.int .i64 lm, .slice s m cc, cfV c, .int .i64 ad, .int .i64 p] w fun e w' => e = .returned (.bool true) ∧ Below w.heap.size w w' := by
  have HA := Lib.hid (fun w1 (h : Below w.heap.size w w1) => awake_any w1 (hs.below h))
  have HB := Lib.hid (fun o => (Below.refl w.heap.size w).alloc (Nat.le_refl _) o)
  have h30 : (30 : Int) < m := by omega
  clear hs hm
  unfold cfV
  go_enter Tryd.func3, Tryd.ntmps3
  go_wp2_with (go_at_call 10; refine (HA.out _ (HB.out _)).mono ?_; rintro e w1 ⟨rfl, hb1⟩)
  go_ret
  exact ⟨rfl, (HB.out _).trans (hb1.mono (HB.out _).size)⟩
set_option maxRecDepth 100000 in
set_option maxHeartbeats 16000000 in
theorem seals_good (lm : Int) (s : Option Addr) (cc : Nat) (ns : List Nd) (c : Cf) (ad p : Int) (hn : ns.length ≤ 30) (hu : u64ok c.n) (w : World) (hs : Shp w) (hB : BuiltAt w (.slice s ns.length cc) ns) : Calls Tryd.prog 3 #[.int .i64 lm, .slice s ns.length cc, cfV c, .int .i64 ad, .int .i64 p] w fun e w' => e = .returned (.bool true) ∧ Below w.heap.size w w' := by
  obtain ⟨W0, hW0⟩ : ∃ W, W = w.alloc (.cells #[.int .i64 c.k, .bool c.h, .int .u64 c.n] 25) := ⟨_, rfl⟩
  have HB0 : Hid (Below w.heap.size w W0) := Lib.hid (by rw [hW0]; exact (Below.refl _ _).alloc (Nat.le_refl _) _)
  have HX0 : Hid (W0.heap[w.heap.size]? = some (.cells #[.int .i64 c.k, .bool c.h, .int .u64 c.n] 25 (0, 0))) := Lib.hid (by rw [hW0]; exact heap_alloc_new w _)
  obtain ⟨lim, hlim⟩ : ∃ l, limZ lm = l := ⟨_, rfl⟩
  have HBu := hB lm lim hlim W0 HB0.out
  have hl6 : lim ≤ 65536 := by have := (limZ_bd lm).2; omega
  unfold BuiltPost at HBu
  have HB := Lib.hid HBu; clear HBu
  have HS := Lib.hid (hs.below HB0.out)
  have HAw := Lib.hid (fun w1 (h : Below W0.heap.size W0 w1) => awake_any w1 (HS.out.below h))
  obtain ⟨L, hLe⟩ : ∃ L, L = bld lim ns := ⟨_, rfl⟩
  rw [← hLe] at HB
  have h30 : (ns.length : Int) ≤ 30 := by omega
  clear hs hB hn hLe hlim
  rw [hW0] at HB
  obtain ⟨ck, ch, cn⟩ := c
  unfold cfV
  go_enter Tryd.func3, Tryd.ntmps3
  go_wp2_with fail
  go_at_call 11
  refine HB.out.mono ?_
  rintro e w1 ⟨b, g, bm, cap, gr, capr, rfl, hP⟩
  rw [← hW0] at hP
  have HP1 := Lib.hid hP
  have HX1 := Lib.hid (below_box hP.st.bel HX0.out)
  have HWP := Lib.hid hP.st.ar.wf.toWFp
  have hLm : L.length ≤ 65536 := hP.st.ar.small
  clear hP HX0 HB
  have HB1 : Hid (Below w1.heap.size w1 (w1.alloc (.cells #[.int .i64 lim, .slice (some ⟨gr, 0, none⟩) L.length capr] 30))) := Lib.hid ((Below.refl _ _).alloc (Nat.le_refl _) _)
  obtain ⟨cc0, cc1, cc2⟩ := cf_cells HX1.out
  have lc := lt_of_heap HX1.out
  have HX2 := Lib.hid (below_box HB1.out HX1.out)
  have HX3 : Hid ((w1.alloc (.cells #[.int .i64 lim, .slice (some ⟨gr, 0, none⟩) L.length capr] 30)).heap[w1.heap.size]? = some (.cells #[.int .i64 lim, .slice (some ⟨gr, 0, none⟩) L.length capr] 30 (0, 0))) := Lib.hid (by have q := heap_alloc_new w1 (.cells #[.int .i64 lim, .slice (some ⟨gr, 0, none⟩) L.length capr] 30); exact q)
  have HQ4 := Lib.hid (HP1.out.pq.keep HB1.out)
  clear HX1 HB1
  go_wp2_with fail
  clear cc0 cc1 cc2 lc
  generalize (w1.alloc (.cells #[.int .i64 lim, .slice (some ⟨gr, 0, none⟩) L.length capr] 30)) = W1 at *
  generalize w1.heap.size = p4 at *
  have HO := Lib.hid (HQ4.out.seal HS.out ⟨ck, ch, cn⟩ ad p hu)
  unfold cfV at HO
  go_at_call 12
  refine (HO.out).mono ?_
  rintro e w3 ⟨g3, cap3, rfl, hQ3, hk3⟩
  have HX5 := Lib.hid (HQ4.out.box hk3 HX2.out (by decide) (by decide))
  have HX6 := Lib.hid (HQ4.out.box hk3 HX3.out (by decide) (by decide))
  have HQ7 := Lib.hid hQ3
  clear HX2 HX3 HQ4 hQ3 hk3
  generalize hC : slC lim L ⟨ck, ch, cn⟩ ad p = d at *
  generalize hR : slR lim L ⟨ck, ch, cn⟩ ad p = r at *
  generalize hE : slE lim L ⟨ck, ch, cn⟩ ad p = er at *
  generalize hM : slL lim L ⟨ck, ch, cn⟩ ad p = M at *
  obtain ⟨dk, dh, dn⟩ := d
  have HC := Lib.hid hC
  have HR := Lib.hid hR
  have HE := Lib.hid hE
  have HM := Lib.hid hM
  clear hC hE hM hR
  have HB8 : Hid (Below w3.heap.size w3 (w3.alloc (.cells #[.int .i64 dk, .bool dh, .int .u64 dn] 25))) := Lib.hid ((Below.refl _ _).alloc (Nat.le_refl _) _)
  obtain ⟨cc0, cc1, cc2⟩ := cf_cells HX5.out
  have lc := lt_of_heap HX5.out
  obtain ⟨cA0, cA1⟩ := ra_cells HX6.out
  have lA := lt_of_heap HX6.out
  have HX9 := Lib.hid (below_box HB8.out HX5.out)
  have HX10 := Lib.hid (below_box HB8.out HX6.out)
  have HX11 : Hid ((w3.alloc (.cells #[.int .i64 dk, .bool dh, .int .u64 dn] 25)).heap[w3.heap.size]? = some (.cells #[.int .i64 dk, .bool dh, .int .u64 dn] 25 (0, 0))) := Lib.hid (by have q := heap_alloc_new w3 (.cells #[.int .i64 dk, .bool dh, .int .u64 dn] 25); exact q)
  have HQ12 := Lib.hid (HQ7.out.keep HB8.out)
  clear HX5 HX6 HB8 HQ7
  go_wp2_with fail
  clear cc0 cc1 cc2 lc cA0 cA1 lA
  generalize (w3.alloc (.cells #[.int .i64 dk, .bool dh, .int .u64 dn] 25)) = W8 at *
  generalize w3.heap.size = p12 at *
  have HSC : Hid (∀ W', Below W8.heap.size W8 W' → (fun W' => (W'.cell? ⟨p4, 0, none⟩ = some (.int .i64 lim) ∧ W'.cell? ⟨p4, 1, none⟩ = some (.slice (some ⟨gr, 0, none⟩) L.length capr)) ∧ W'.cell? ⟨w.heap.size, 0, none⟩ = some (.int .i64 ck) ∧ W'.cell? ⟨w.heap.size, 1, none⟩ = some (.bool ch) ∧ W'.cell? ⟨w.heap.size, 2, none⟩ = some (.int .u64 cn)) W') := Lib.hid (fun W' hb => ⟨ra_cells (below_box hb HX10.out), cf_cells (below_box hb HX9.out)⟩)
  have HOF := Lib.hid (fun w' => ofc_any ⟨ck, ch, cn⟩ w')
  have HPO := Lib.hid HQ12.out.st.ar.wf.toWFp.pos
  have HRF := Lib.hid (fun w' (hb : Below W8.heap.size W8 w') => refSeal_any lim gr capr L HWP.out hLm ⟨ck, ch, cn⟩ ad p w' (HQ12.out.row.keep (hb.block gr HQ12.out.lt)) (Nat.lt_of_lt_of_le HQ12.out.lt hb.size) hu)
  unfold RefSeal at HRF
  rw [HC.out, HE.out, HM.out, HR.out] at HRF
  unfold cfV at HOF HRF
  clear HC HE HM HR
  go_cut [17, 18, 19, 20] (fun s17 s18 s19 s20 wx => ∃ pn pf gf cf, s17 = .pointer (some ⟨pn, 0, none⟩) ∧ s18 = .pointer (some ⟨pf, 0, none⟩) ∧ s19 = .int .i64 r ∧ s20 = .int .i64 er ∧ wx.heap[pn]? = some (.cells #[.int .i64 lim, .slice (some ⟨gf, 0, none⟩) M.length cf] 30 (0, 0)) ∧ wx.heap[pf]? = some (.cells #[.int .i64 dk, .bool dh, .int .u64 dn] 36 (0, 0)) ∧ Below W8.heap.size W8 wx ∧ (rowAt wx gf M ∧ gf < wx.heap.size) ∧ (gf = gr ∨ W8.heap.size ≤ gf))
  case first =>
    refine wp_region_noPanic ?_
    refine wp_region_held_drew (S := (fun W' => (W'.cell? ⟨p4, 0, none⟩ = some (.int .i64 lim) ∧ W'.cell? ⟨p4, 1, none⟩ = some (.slice (some ⟨gr, 0, none⟩) L.length capr)) ∧ W'.cell? ⟨w.heap.size, 0, none⟩ = some (.int .i64 ck) ∧ W'.cell? ⟨w.heap.size, 1, none⟩ = some (.bool ch) ∧ W'.cell? ⟨w.heap.size, 2, none⟩ = some (.int .u64 cn))) (by kernel_rfl) ?_ (fun hHeld => ?_)
    · exact HSC.out _ (Below.refl _ _).drew
    have RB0 : Hid (Below W8.heap.size W8 W8.drew) := Lib.hid (Below.refl _ _).drew
    generalize W8.drew = X0 at *
    refine wpAnyH_take (i := 0) (v := ?_) rfl (by kernel_rfl) (by kernel_rfl) (by kernel_rfl) (fun _ _ _ h => h) (Or.inl ⟨by rfl, ?_⟩) (by assumption) ?_
    rotate_left
    · (intro w hSw; (try dsimp only at hSw); go_simp; try with_reducible rfl)
    try simp only [List.getElem_toArray, List.getElem_cons_zero, Act.put, List.setIfInBounds_toArray, List.set_cons_zero, List.set_cons_succ]
    refine wpAnyH_take (i := 1) (v := ?_) rfl (by kernel_rfl) (by kernel_rfl) (by kernel_rfl) (fun _ _ _ h => h) (Or.inl ⟨by rfl, ?_⟩) (by assumption) ?_
    rotate_left
    · (intro w hSw; (try dsimp only at hSw); go_simp; try with_reducible rfl)
    try simp only [List.getElem_toArray, List.getElem_cons_succ, List.getElem_cons_zero, Act.put, List.setIfInBounds_toArray, List.set_cons_zero, List.set_cons_succ]
    refine wpAnyH_take (i := 3) (v := ?_) rfl (by kernel_rfl) (by kernel_rfl) (by kernel_rfl) (fun _ _ _ h => h) (Or.inl ⟨by rfl, ?_⟩) (by assumption) ?_
    rotate_left
    · (intro w hSw; (try dsimp only at hSw); go_simp; try with_reducible rfl)
    try simp only [List.getElem_toArray, List.getElem_cons_succ, List.getElem_cons_zero, Act.put, List.setIfInBounds_toArray, List.set_cons_zero, List.set_cons_succ]
    refine wpAnyH_take (i := 4) (v := ?_) rfl (by kernel_rfl) (by kernel_rfl) (by kernel_rfl) (fun _ _ _ h => h) (Or.inl ⟨by rfl, ?_⟩) (by assumption) ?_
    rotate_left
    · (intro w hSw; (try dsimp only at hSw); go_simp; try with_reducible rfl)
    try simp only [List.getElem_toArray, List.getElem_cons_succ, List.getElem_cons_zero, Act.put, List.setIfInBounds_toArray, List.set_cons_zero, List.set_cons_succ]
    refine wpAnyH_ready (rs := [2, 11, 12]) (by kernel_rfl) (by simp) ?_
    refine AllReadyH.cons rfl (fun K hK => ?_) (AllReadyH.cons rfl (fun K hK => ?_) (AllReadyH.cons rfl (fun K hK => ?_) AllReadyH.nil))
    · go_simp
      (refine (HOF.out _).mono ?_; rintro e v1 ⟨rfl, hbn⟩)
      go_wp2_with fail
      refine hK.out _ _ ?_ (fun hHeld => ?_)
      · exact HSC.out _ (RB0.out.trans (hbn.mono RB0.out.size))
      clear hK K
      have RB1 := Lib.hid (RB0.out.trans (hbn.mono RB0.out.size))
      clear hbn
      try simp only [List.getElem_toArray, List.getElem_cons_succ, List.getElem_cons_zero, Act.put, List.setIfInBounds_toArray, List.set_cons_zero, List.set_cons_succ]
      refine wpAnyH_ready (rs := [5, 11, 12]) (by kernel_rfl) (by simp) ?_
      refine AllReadyH.cons rfl (fun K hK => ?_) (AllReadyH.cons rfl (fun K hK => ?_) (AllReadyH.cons rfl (fun K hK => ?_) AllReadyH.nil))
      · go_simp
        (refine (HRF.out _ RB1.out).mono ?_; rintro e v2 ⟨gf, cf, rfl, hrf, hlf, hbn, hgf⟩)
        go_wp2_with fail
        refine hK.out _ _ ?_ (fun hHeld => ?_)
        · exact HSC.out _ (RB1.out.trans (hbn.mono RB1.out.size))
        clear hK K
        have RB2 := Lib.hid (RB1.out.trans (hbn.mono RB1.out.size))
        have HR2 : Hid (rowAt v2 gf M ∧ gf < v2.heap.size) := Lib.hid ⟨hrf, hlf⟩
        have HGF : Hid (gf = gr ∨ W8.heap.size ≤ gf) := Lib.hid (hgf.imp id fun h => Nat.le_trans RB1.out.size h)
        clear hrf hlf hgf
        clear hbn
        try simp only [List.getElem_toArray, List.getElem_cons_succ, List.getElem_cons_zero, Act.put, List.setIfInBounds_toArray, List.set_cons_zero, List.set_cons_succ]
        refine wpAnyH_take (i := 6) (v := ?_) rfl (by kernel_rfl) (by kernel_rfl) (by kernel_rfl) (fun _ _ _ h => h) (Or.inl ⟨by rfl, ?_⟩) (by assumption) ?_
        rotate_left
        · (intro w hSw; (try dsimp only at hSw); go_simp; try with_reducible rfl)
        try simp only [List.getElem_toArray, List.getElem_cons_succ, List.getElem_cons_zero, Act.put, List.setIfInBounds_toArray, List.set_cons_zero, List.set_cons_succ]
        refine wpAnyH_take (i := 7) (v := ?_) rfl (by kernel_rfl) (by kernel_rfl) (by kernel_rfl) (fun _ _ _ h => h) (Or.inl ⟨by rfl, ?_⟩) (by assumption) ?_
        rotate_left
        · (intro w hSw; (try dsimp only at hSw); go_simp; try with_reducible rfl)
        try simp only [List.getElem_toArray, List.getElem_cons_succ, List.getElem_cons_zero, Act.put, List.setIfInBounds_toArray, List.set_cons_zero, List.set_cons_succ]
        refine wpAnyH_take (i := 8) (v := ?_) rfl (by kernel_rfl) (by kernel_rfl) (by kernel_rfl) (fun _ _ _ h => h) (Or.inl ⟨by rfl, ?_⟩) (by assumption) ?_
        rotate_left
        · (intro w hSw; (try dsimp only at hSw); go_simp; try with_reducible rfl)
        try simp only [List.getElem_toArray, List.getElem_cons_succ, List.getElem_cons_zero, Act.put, List.setIfInBounds_toArray, List.set_cons_zero, List.set_cons_succ]
        refine wpAnyH_take (i := 9) (v := ?_) rfl (by kernel_rfl) (by kernel_rfl) (by kernel_rfl) (fun _ _ _ h => h) (Or.inl ⟨by rfl, ?_⟩) (by assumption) ?_
        rotate_left
        · (intro w hSw; (try dsimp only at hSw); go_simp; try with_reducible rfl)
        try simp only [List.getElem_toArray, List.getElem_cons_succ, List.getElem_cons_zero, Act.put, List.setIfInBounds_toArray, List.set_cons_zero, List.set_cons_succ]
        refine wpAnyH_take (i := 10) (v := ?_) rfl (by kernel_rfl) (by kernel_rfl) (by kernel_rfl) (fun _ _ _ h => h) (Or.inl ⟨by rfl, ?_⟩) (by assumption) ?_
        rotate_left
        · (intro w hSw; (try dsimp only at hSw); go_simp; try with_reducible rfl)
        try simp only [List.getElem_toArray, List.getElem_cons_succ, List.getElem_cons_zero, Act.put, List.setIfInBounds_toArray, List.set_cons_zero, List.set_cons_succ]
        refine wpAnyH_ready (rs := [11, 12]) (by kernel_rfl) (by simp) ?_
        refine AllReadyH.cons rfl (fun K hK => ?_) (AllReadyH.cons rfl (fun K hK => ?_) AllReadyH.nil)
        · go_simp
          have hbn : Below v2.heap.size v2 (v2.alloc (.cells #[.int .i64 0, .slice none 0 0] 30)) := (Below.refl _ _).alloc (Nat.le_refl _) _
          refine hK.out _ _ ?_ (fun hHeld => ?_)
          · exact HSC.out _ (RB2.out.trans (hbn.mono RB2.out.size))
          clear hK K hHeld
          have hz := heap_alloc_new v2 (.cells #[.int .i64 0, .slice none 0 0] 30)
          obtain ⟨X3, hX⟩ : ∃ X, X = v2.alloc (.cells #[.int .i64 0, .slice none 0 0] 30) := ⟨_, rfl⟩
          rw [← hX] at hbn hz ⊢
          clear hX
          have RB3 := Lib.hid (RB2.out.trans (hbn.mono RB2.out.size))
          obtain ⟨bk11, hbk⟩ : ∃ k, k = v2.heap.size := ⟨_, rfl⟩
          have HG11 : Hid (W8.heap.size ≤ bk11) := Lib.hid (by rw [hbk]; exact RB2.out.size)
          rw [← hbk] at hz ⊢
          clear hbk
          have HZ11_3 := Lib.hid hz
          have HR3 : Hid (rowAt X3 gf M ∧ gf < X3.heap.size) := Lib.hid ⟨HR2.out.1.keep (hbn.block _ HR2.out.2), Nat.lt_of_lt_of_le HR2.out.2 hbn.size⟩
          clear hz hbn
          try simp only [List.getElem_toArray, List.getElem_cons_succ, List.getElem_cons_zero, Act.put, List.setIfInBounds_toArray, List.set_cons_zero, List.set_cons_succ]
          refine wpAnyH_ready (rs := [12]) (by kernel_rfl) (by simp) ?_
          refine AllReadyH.cons rfl (fun K hK => ?_) AllReadyH.nil
          go_simp
          have hbn : Below X3.heap.size X3 (X3.alloc (.cells #[.int .i64 0, .bool false, .int .u64 0] 36)) := (Below.refl _ _).alloc (Nat.le_refl _) _
          refine hK.out _ _ ?_ (fun hHeld => ?_)
          · exact HSC.out _ (RB3.out.trans (hbn.mono RB3.out.size))
          clear hK K hHeld
          have hz := heap_alloc_new X3 (.cells #[.int .i64 0, .bool false, .int .u64 0] 36)
          obtain ⟨X4, hX⟩ : ∃ X, X = X3.alloc (.cells #[.int .i64 0, .bool false, .int .u64 0] 36) := ⟨_, rfl⟩
          rw [← hX] at hbn hz ⊢
          clear hX
          have RB4 := Lib.hid (RB3.out.trans (hbn.mono RB3.out.size))
          obtain ⟨bk12, hbk⟩ : ∃ k, k = X3.heap.size := ⟨_, rfl⟩
          have HG12 : Hid (W8.heap.size ≤ bk12) := Lib.hid (by rw [hbk]; exact RB3.out.size)
          have HD_11_12 : bk11 ≠ bk12 := by have := lt_of_heap HZ11_3.out; omega
          rw [← hbk] at hz ⊢
          clear hbk
          have HZ12_4 := Lib.hid hz
          have HZ11_4 := Lib.hid (below_box hbn HZ11_3.out)
          have HR4 : Hid (rowAt X4 gf M ∧ gf < X4.heap.size) := Lib.hid ⟨HR3.out.1.keep (hbn.block _ HR3.out.2), Nat.lt_of_lt_of_le HR3.out.2 hbn.size⟩
          clear hz hbn
          try simp only [List.getElem_toArray, List.getElem_cons_succ, List.getElem_cons_zero, Act.put, List.setIfInBounds_toArray, List.set_cons_zero, List.set_cons_succ]
          refine wpAnyH_ready (rs := [13]) (by kernel_rfl) (by simp) ?_
          refine AllReadyH.cons rfl (fun K hK => ?_) AllReadyH.nil
          obtain ⟨z0, z1⟩ : X4.cell? ⟨bk11, 0, none⟩ = some (.int .i64 0) ∧ X4.cell? ⟨bk11, 1, none⟩ = some (.slice none 0 0) := ⟨(cell_of_row _ _ 0 _ _ _ HZ11_4.out).trans rfl, (cell_of_row _ _ 1 _ _ _ HZ11_4.out).trans rfl⟩
          have zz : ∀ j, X4.frozen? ⟨bk11, j, none⟩ = false := fun j => frozen_of_row _ _ _ _ _ HZ11_4.out
          have lz := lt_of_heap HZ11_4.out
          go_simp
          obtain ⟨X5, hX⟩ : ∃ X, X = ((X4.setCell ⟨bk11, 0, none⟩ (.int .i64 lim)).setCell ⟨bk11, 1, none⟩ (.slice (some ⟨gf, 0, none⟩) M.length cf)) := ⟨_, rfl⟩
          have RB5 : Hid (Below W8.heap.size W8 X5) := Lib.hid (by rw [hX]; exact ((RB4.out.setCell HG11.out _).setCell HG11.out _))
          have HZ11_5 : Hid (X5.heap[bk11]? = some (.cells #[.int .i64 lim, .slice (some ⟨gf, 0, none⟩) M.length cf] 30 (0, 0))) := Lib.hid (by rw [hX]; exact set2_at HZ11_4.out _ _)
          have HZ12_5 : Hid (X5.heap[bk12]? = some (.cells #[.int .i64 0, .bool false, .int .u64 0] 36 (0, 0))) := Lib.hid (by rw [hX]; exact set2_far (by have := HD_11_12; omega) HZ12_4.out _ _)
          have HR5 : Hid (rowAt X5 gf M ∧ gf < X5.heap.size) := Lib.hid (by rw [hX]; exact ⟨HR4.out.1.keep (set2_block _ _ _ _ _ (row_ne HR4.out.1 HPO.out z1)), by simpa [World.setCell] using HR4.out.2⟩)
          rw [← hX]
          refine hK.out _ _ ?_ (fun hHeld => ?_)
          · exact HSC.out _ RB5.out
          clear hK K hX z0 z1 zz lz
          try simp only [List.getElem_toArray, List.getElem_cons_succ, List.getElem_cons_zero, Act.put, List.setIfInBounds_toArray, List.set_cons_zero, List.set_cons_succ]
          refine wpAnyH_ready (rs := [14]) (by kernel_rfl) (by simp) ?_
          refine AllReadyH.cons rfl (fun K hK => ?_) AllReadyH.nil
          obtain ⟨z0, z1, z2⟩ : X5.cell? ⟨bk12, 0, none⟩ = some (.int .i64 0) ∧ X5.cell? ⟨bk12, 1, none⟩ = some (.bool false) ∧ X5.cell? ⟨bk12, 2, none⟩ = some (.int .u64 0) := ⟨(cell_of_row _ _ 0 _ _ _ HZ12_5.out).trans rfl, (cell_of_row _ _ 1 _ _ _ HZ12_5.out).trans rfl, (cell_of_row _ _ 2 _ _ _ HZ12_5.out).trans rfl⟩
          have zz : ∀ j, X5.frozen? ⟨bk12, j, none⟩ = false := fun j => frozen_of_row _ _ _ _ _ HZ12_5.out
          have lz := lt_of_heap HZ12_5.out
          go_simp
          obtain ⟨X6, hX⟩ : ∃ X, X = (((X5.setCell ⟨bk12, 0, none⟩ (.int .i64 dk)).setCell ⟨bk12, 1, none⟩ (.bool dh)).setCell ⟨bk12, 2, none⟩ (.int .u64 dn)) := ⟨_, rfl⟩
          have RB6 : Hid (Below W8.heap.size W8 X6) := Lib.hid (by rw [hX]; exact (((RB5.out.setCell HG12.out _).setCell HG12.out _).setCell HG12.out _))
          have HZ12_6 : Hid (X6.heap[bk12]? = some (.cells #[.int .i64 dk, .bool dh, .int .u64 dn] 36 (0, 0))) := Lib.hid (by rw [hX]; exact set3_at HZ12_5.out _ _ _)
          have HZ11_6 : Hid (X6.heap[bk11]? = some (.cells #[.int .i64 lim, .slice (some ⟨gf, 0, none⟩) M.length cf] 30 (0, 0))) := Lib.hid (by rw [hX]; exact set3_far (by have := HD_11_12; omega) HZ11_5.out _ _ _)
          have HR6 : Hid (rowAt X6 gf M ∧ gf < X6.heap.size) := Lib.hid (by rw [hX]; exact ⟨HR5.out.1.keep (set3_block _ _ _ _ _ _ (seals_rowB HR5.out.1 HPO.out z1)), by simpa [World.setCell] using HR5.out.2⟩)
          rw [← hX]
          refine hK.out _ _ ?_ (fun hHeld => ?_)
          · exact HSC.out _ RB6.out
          clear hK K hX z0 z1 z2 zz lz
          try simp only [List.getElem_toArray, List.getElem_cons_succ, List.getElem_cons_zero, Act.put, List.setIfInBounds_toArray, List.set_cons_zero, List.set_cons_succ]
          refine wpAnyH_take (i := 15) (v := ?_) rfl (by kernel_rfl) (by kernel_rfl) (by kernel_rfl) (fun _ _ _ h => h) (Or.inl ⟨by rfl, ?_⟩) (by assumption) ?_
          rotate_left
          · (intro w hSw; (try dsimp only at hSw); go_simp; try with_reducible rfl)
          try simp only [List.getElem_toArray, List.getElem_cons_succ, List.getElem_cons_zero, Act.put, List.setIfInBounds_toArray, List.set_cons_zero, List.set_cons_succ]
          refine wpAnyH_take (i := 16) (v := ?_) rfl (by kernel_rfl) (by kernel_rfl) (by kernel_rfl) (fun _ _ _ h => h) (Or.inl ⟨by rfl, ?_⟩) (by assumption) ?_
          rotate_left
          · (intro w hSw; (try dsimp only at hSw); go_simp; try with_reducible rfl)
          try simp only [List.getElem_toArray, List.getElem_cons_succ, List.getElem_cons_zero, Act.put, List.setIfInBounds_toArray, List.set_cons_zero, List.set_cons_succ]
          refine wpAnyH_done (by kernel_rfl) ?_ _
          refine NoPanic.normal ?_
          go_wp2_with fail
          go_meet
          exact ⟨bk11, bk12, gf, cf, rfl, rfl, rfl, rfl, HZ11_6.out, HZ12_6.out, RB6.out, HR6.out, HGF.out⟩
        · go_simp
          have hbn : Below v2.heap.size v2 (v2.alloc (.cells #[.int .i64 0, .bool false, .int .u64 0] 36)) := (Below.refl _ _).alloc (Nat.le_refl _) _
          refine hK.out _ _ ?_ (fun hHeld => ?_)
          · exact HSC.out _ (RB2.out.trans (hbn.mono RB2.out.size))
          clear hK K hHeld
          have hz := heap_alloc_new v2 (.cells #[.int .i64 0, .bool false, .int .u64 0] 36)
          obtain ⟨X3, hX⟩ : ∃ X, X = v2.alloc (.cells #[.int .i64 0, .bool false, .int .u64 0] 36) := ⟨_, rfl⟩
          rw [← hX] at hbn hz ⊢
          clear hX
          have RB3 := Lib.hid (RB2.out.trans (hbn.mono RB2.out.size))
          obtain ⟨bk12, hbk⟩ : ∃ k, k = v2.heap.size := ⟨_, rfl⟩
          have HG12 : Hid (W8.heap.size ≤ bk12) := Lib.hid (by rw [hbk]; exact RB2.out.size)
          rw [← hbk] at hz ⊢
          clear hbk
          have HZ12_3 := Lib.hid hz
          have HR3 : Hid (rowAt X3 gf M ∧ gf < X3.heap.size) := Lib.hid ⟨HR2.out.1.keep (hbn.block _ HR2.out.2), Nat.lt_of_lt_of_le HR2.out.2 hbn.size⟩
          clear hz hbn
          try simp only [List.getElem_toArray, List.getElem_cons_succ, List.getElem_cons_zero, Act.put, List.setIfInBounds_toArray, List.set_cons_zero, List.set_cons_succ]
          refine wpAnyH_ready (rs := [11]) (by kernel_rfl) (by simp) ?_
          refine AllReadyH.cons rfl (fun K hK => ?_) AllReadyH.nil
          go_simp
          have hbn : Below X3.heap.size X3 (X3.alloc (.cells #[.int .i64 0, .slice none 0 0] 30)) := (Below.refl _ _).alloc (Nat.le_refl _) _
          refine hK.out _ _ ?_ (fun hHeld => ?_)
          · exact HSC.out _ (RB3.out.trans (hbn.mono RB3.out.size))
          clear hK K hHeld
          have hz := heap_alloc_new X3 (.cells #[.int .i64 0, .slice none 0 0] 30)
          obtain ⟨X4, hX⟩ : ∃ X, X = X3.alloc (.cells #[.int .i64 0, .slice none 0 0] 30) := ⟨_, rfl⟩
          rw [← hX] at hbn hz ⊢
          clear hX
          have RB4 := Lib.hid (RB3.out.trans (hbn.mono RB3.out.size))
          obtain ⟨bk11, hbk⟩ : ∃ k, k = X3.heap.size := ⟨_, rfl⟩
          have HG11 : Hid (W8.heap.size ≤ bk11) := Lib.hid (by rw [hbk]; exact RB3.out.size)
          have HD_11_12 : bk11 ≠ bk12 := by have := lt_of_heap HZ12_3.out; omega
          rw [← hbk] at hz ⊢
          clear hbk
          have HZ11_4 := Lib.hid hz
          have HZ12_4 := Lib.hid (below_box hbn HZ12_3.out)
          have HR4 : Hid (rowAt X4 gf M ∧ gf < X4.heap.size) := Lib.hid ⟨HR3.out.1.keep (hbn.block _ HR3.out.2), Nat.lt_of_lt_of_le HR3.out.2 hbn.size⟩
          clear hz hbn
          try simp only [List.getElem_toArray, List.getElem_cons_succ, List.getElem_cons_zero, Act.put, List.setIfInBounds_toArray, List.set_cons_zero, List.set_cons_succ]
          refine wpAnyH_ready (rs := [13]) (by kernel_rfl) (by simp) ?_
          refine AllReadyH.cons rfl (fun K hK => ?_) AllReadyH.nil
          obtain ⟨z0, z1⟩ : X4.cell? ⟨bk11, 0, none⟩ = some (.int .i64 0) ∧ X4.cell? ⟨bk11, 1, none⟩ = some (.slice none 0 0) := ⟨(cell_of_row _ _ 0 _ _ _ HZ11_4.out).trans rfl, (cell_of_row _ _ 1 _ _ _ HZ11_4.out).trans rfl⟩
          have zz : ∀ j, X4.frozen? ⟨bk11, j, none⟩ = false := fun j => frozen_of_row _ _ _ _ _ HZ11_4.out
          have lz := lt_of_heap HZ11_4.out
          go_simp
          obtain ⟨X5, hX⟩ : ∃ X, X = ((X4.setCell ⟨bk11, 0, none⟩ (.int .i64 lim)).setCell ⟨bk11, 1, none⟩ (.slice (some ⟨gf, 0, none⟩) M.length cf)) := ⟨_, rfl⟩
          have RB5 : Hid (Below W8.heap.size W8 X5) := Lib.hid (by rw [hX]; exact ((RB4.out.setCell HG11.out _).setCell HG11.out _))
          have HZ11_5 : Hid (X5.heap[bk11]? = some (.cells #[.int .i64 lim, .slice (some ⟨gf, 0, none⟩) M.length cf] 30 (0, 0))) := Lib.hid (by rw [hX]; exact set2_at HZ11_4.out _ _)
          have HZ12_5 : Hid (X5.heap[bk12]? = some (.cells #[.int .i64 0, .bool false, .int .u64 0] 36 (0, 0))) := Lib.hid (by rw [hX]; exact set2_far (by have := HD_11_12; omega) HZ12_4.out _ _)
          have HR5 : Hid (rowAt X5 gf M ∧ gf < X5.heap.size) := Lib.hid (by rw [hX]; exact ⟨HR4.out.1.keep (set2_block _ _ _ _ _ (row_ne HR4.out.1 HPO.out z1)), by simpa [World.setCell] using HR4.out.2⟩)
          rw [← hX]
          refine hK.out _ _ ?_ (fun hHeld => ?_)
          · exact HSC.out _ RB5.out
          clear hK K hX z0 z1 zz lz
          try simp only [List.getElem_toArray, List.getElem_cons_succ, List.getElem_cons_zero, Act.put, List.setIfInBounds_toArray, List.set_cons_zero, List.set_cons_succ]
          refine wpAnyH_ready (rs := [14]) (by kernel_rfl) (by simp) ?_
          refine AllReadyH.cons rfl (fun K hK => ?_) AllReadyH.nil
          obtain ⟨z0, z1, z2⟩ : X5.cell? ⟨bk12, 0, none⟩ = some (.int .i64 0) ∧ X5.cell? ⟨bk12, 1, none⟩ = some (.bool false) ∧ X5.cell? ⟨bk12, 2, none⟩ = some (.int .u64 0) := ⟨(cell_of_row _ _ 0 _ _ _ HZ12_5.out).trans rfl, (cell_of_row _ _ 1 _ _ _ HZ12_5.out).trans rfl, (cell_of_row _ _ 2 _ _ _ HZ12_5.out).trans rfl⟩
          have zz : ∀ j, X5.frozen? ⟨bk12, j, none⟩ = false := fun j => frozen_of_row _ _ _ _ _ HZ12_5.out
          have lz := lt_of_heap HZ12_5.out
          go_simp
          obtain ⟨X6, hX⟩ : ∃ X, X = (((X5.setCell ⟨bk12, 0, none⟩ (.int .i64 dk)).setCell ⟨bk12, 1, none⟩ (.bool dh)).setCell ⟨bk12, 2, none⟩ (.int .u64 dn)) := ⟨_, rfl⟩
          have RB6 : Hid (Below W8.heap.size W8 X6) := Lib.hid (by rw [hX]; exact (((RB5.out.setCell HG12.out _).setCell HG12.out _).setCell HG12.out _))
          have HZ12_6 : Hid (X6.heap[bk12]? = some (.cells #[.int .i64 dk, .bool dh, .int .u64 dn] 36 (0, 0))) := Lib.hid (by rw [hX]; exact set3_at HZ12_5.out _ _ _)
          have HZ11_6 : Hid (X6.heap[bk11]? = some (.cells #[.int .i64 lim, .slice (some ⟨gf, 0, none⟩) M.length cf] 30 (0, 0))) := Lib.hid (by rw [hX]; exact set3_far (by have := HD_11_12; omega) HZ11_5.out _ _ _)
          have HR6 : Hid (rowAt X6 gf M ∧ gf < X6.heap.size) := Lib.hid (by rw [hX]; exact ⟨HR5.out.1.keep (set3_block _ _ _ _ _ _ (seals_rowB HR5.out.1 HPO.out z1)), by simpa [World.setCell] using HR5.out.2⟩)
          rw [← hX]
          refine hK.out _ _ ?_ (fun hHeld => ?_)
          · exact HSC.out _ RB6.out
          clear hK K hX z0 z1 z2 zz lz
          try simp only [List.getElem_toArray, List.getElem_cons_succ, List.getElem_cons_zero, Act.put, List.setIfInBounds_toArray, List.set_cons_zero, List.set_cons_succ]
          refine wpAnyH_take (i := 15) (v := ?_) rfl (by kernel_rfl) (by kernel_rfl) (by kernel_rfl) (fun _ _ _ h => h) (Or.inl ⟨by rfl, ?_⟩) (by assumption) ?_
          rotate_left
          · (intro w hSw; (try dsimp only at hSw); go_simp; try with_reducible rfl)
          try simp only [List.getElem_toArray, List.getElem_cons_succ, List.getElem_cons_zero, Act.put, List.setIfInBounds_toArray, List.set_cons_zero, List.set_cons_succ]
          refine wpAnyH_take (i := 16) (v := ?_) rfl (by kernel_rfl) (by kernel_rfl) (by kernel_rfl) (fun _ _ _ h => h) (Or.inl ⟨by rfl, ?_⟩) (by assumption) ?_
          rotate_left
          · (intro w hSw; (try dsimp only at hSw); go_simp; try with_reducible rfl)
          try simp only [List.getElem_toArray, List.getElem_cons_succ, List.getElem_cons_zero, Act.put, List.setIfInBounds_toArray, List.set_cons_zero, List.set_cons_succ]
          refine wpAnyH_done (by kernel_rfl) ?_ _
          refine NoPanic.normal ?_
          go_wp2_with fail
          go_meet
          exact ⟨bk11, bk12, gf, cf, rfl, rfl, rfl, rfl, HZ11_6.out, HZ12_6.out, RB6.out, HR6.out, HGF.out⟩
      · go_simp
        have hbn : Below v1.heap.size v1 (v1.alloc (.cells #[.int .i64 0, .slice none 0 0] 30)) := (Below.refl _ _).alloc (Nat.le_refl _) _
        refine hK.out _ _ ?_ (fun hHeld => ?_)
        · exact HSC.out _ (RB1.out.trans (hbn.mono RB1.out.size))
        clear hK K hHeld
        have hz := heap_alloc_new v1 (.cells #[.int .i64 0, .slice none 0 0] 30)
        obtain ⟨X2, hX⟩ : ∃ X, X = v1.alloc (.cells #[.int .i64 0, .slice none 0 0] 30) := ⟨_, rfl⟩
        rw [← hX] at hbn hz ⊢
        clear hX
        have RB2 := Lib.hid (RB1.out.trans (hbn.mono RB1.out.size))
        obtain ⟨bk11, hbk⟩ : ∃ k, k = v1.heap.size := ⟨_, rfl⟩
        have HG11 : Hid (W8.heap.size ≤ bk11) := Lib.hid (by rw [hbk]; exact RB1.out.size)
        rw [← hbk] at hz ⊢
        clear hbk
        have HZ11_2 := Lib.hid hz
        clear hz hbn
        try simp only [List.getElem_toArray, List.getElem_cons_succ, List.getElem_cons_zero, Act.put, List.setIfInBounds_toArray, List.set_cons_zero, List.set_cons_succ]
        refine wpAnyH_ready (rs := [5, 12]) (by kernel_rfl) (by simp) ?_
        refine AllReadyH.cons rfl (fun K hK => ?_) (AllReadyH.cons rfl (fun K hK => ?_) AllReadyH.nil)
        · go_simp
          (refine (HRF.out _ RB2.out).mono ?_; rintro e v3 ⟨gf, cf, rfl, hrf, hlf, hbn, hgf⟩)
          go_wp2_with fail
          refine hK.out _ _ ?_ (fun hHeld => ?_)
          · exact HSC.out _ (RB2.out.trans (hbn.mono RB2.out.size))
          clear hK K
          have RB3 := Lib.hid (RB2.out.trans (hbn.mono RB2.out.size))
          have HZ11_3 := Lib.hid (below_box hbn HZ11_2.out)
          have HR3 : Hid (rowAt v3 gf M ∧ gf < v3.heap.size) := Lib.hid ⟨hrf, hlf⟩
          have HGF : Hid (gf = gr ∨ W8.heap.size ≤ gf) := Lib.hid (hgf.imp id fun h => Nat.le_trans RB2.out.size h)
          clear hrf hlf hgf
          clear hbn
          try simp only [List.getElem_toArray, List.getElem_cons_succ, List.getElem_cons_zero, Act.put, List.setIfInBounds_toArray, List.set_cons_zero, List.set_cons_succ]
          refine wpAnyH_take (i := 6) (v := ?_) rfl (by kernel_rfl) (by kernel_rfl) (by kernel_rfl) (fun _ _ _ h => h) (Or.inl ⟨by rfl, ?_⟩) (by assumption) ?_
          rotate_left
          · (intro w hSw; (try dsimp only at hSw); go_simp; try with_reducible rfl)
          try simp only [List.getElem_toArray, List.getElem_cons_succ, List.getElem_cons_zero, Act.put, List.setIfInBounds_toArray, List.set_cons_zero, List.set_cons_succ]
          refine wpAnyH_take (i := 7) (v := ?_) rfl (by kernel_rfl) (by kernel_rfl) (by kernel_rfl) (fun _ _ _ h => h) (Or.inl ⟨by rfl, ?_⟩) (by assumption) ?_
          rotate_left
          · (intro w hSw; (try dsimp only at hSw); go_simp; try with_reducible rfl)
          try simp only [List.getElem_toArray, List.getElem_cons_succ, List.getElem_cons_zero, Act.put, List.setIfInBounds_toArray, List.set_cons_zero, List.set_cons_succ]
          refine wpAnyH_take (i := 8) (v := ?_) rfl (by kernel_rfl) (by kernel_rfl) (by kernel_rfl) (fun _ _ _ h => h) (Or.inl ⟨by rfl, ?_⟩) (by assumption) ?_
          rotate_left
          · (intro w hSw; (try dsimp only at hSw); go_simp; try with_reducible rfl)
          try simp only [List.getElem_toArray, List.getElem_cons_succ, List.getElem_cons_zero, Act.put, List.setIfInBounds_toArray, List.set_cons_zero, List.set_cons_succ]
          refine wpAnyH_take (i := 9) (v := ?_) rfl (by kernel_rfl) (by kernel_rfl) (by kernel_rfl) (fun _ _ _ h => h) (Or.inl ⟨by rfl, ?_⟩) (by assumption) ?_
          rotate_left
          · (intro w hSw; (try dsimp only at hSw); go_simp; try with_reducible rfl)
          try simp only [List.getElem_toArray, List.getElem_cons_succ, List.getElem_cons_zero, Act.put, List.setIfInBounds_toArray, List.set_cons_zero, List.set_cons_succ]
          refine wpAnyH_take (i := 10) (v := ?_) rfl (by kernel_rfl) (by kernel_rfl) (by kernel_rfl) (fun _ _ _ h => h) (Or.inl ⟨by rfl, ?_⟩) (by assumption) ?_
          rotate_left
          · (intro w hSw; (try dsimp only at hSw); go_simp; try with_reducible rfl)
          try simp only [List.getElem_toArray, List.getElem_cons_succ, List.getElem_cons_zero, Act.put, List.setIfInBounds_toArray, List.set_cons_zero, List.set_cons_succ]
          refine wpAnyH_ready (rs := [12]) (by kernel_rfl) (by simp) ?_
          refine AllReadyH.cons rfl (fun K hK => ?_) AllReadyH.nil
          go_simp
          have hbn : Below v3.heap.size v3 (v3.alloc (.cells #[.int .i64 0, .bool false, .int .u64 0] 36)) := (Below.refl _ _).alloc (Nat.le_refl _) _
          refine hK.out _ _ ?_ (fun hHeld => ?_)
          · exact HSC.out _ (RB3.out.trans (hbn.mono RB3.out.size))
          clear hK K hHeld
          have hz := heap_alloc_new v3 (.cells #[.int .i64 0, .bool false, .int .u64 0] 36)
          obtain ⟨X4, hX⟩ : ∃ X, X = v3.alloc (.cells #[.int .i64 0, .bool false, .int .u64 0] 36) := ⟨_, rfl⟩
          rw [← hX] at hbn hz ⊢
          clear hX
          have RB4 := Lib.hid (RB3.out.trans (hbn.mono RB3.out.size))
          obtain ⟨bk12, hbk⟩ : ∃ k, k = v3.heap.size := ⟨_, rfl⟩
          have HG12 : Hid (W8.heap.size ≤ bk12) := Lib.hid (by rw [hbk]; exact RB3.out.size)
          have HD_11_12 : bk11 ≠ bk12 := by have := lt_of_heap HZ11_3.out; omega
          rw [← hbk] at hz ⊢
          clear hbk
          have HZ12_4 := Lib.hid hz
          have HZ11_4 := Lib.hid (below_box hbn HZ11_3.out)
          have HR4 : Hid (rowAt X4 gf M ∧ gf < X4.heap.size) := Lib.hid ⟨HR3.out.1.keep (hbn.block _ HR3.out.2), Nat.lt_of_lt_of_le HR3.out.2 hbn.size⟩
          clear hz hbn
          try simp only [List.getElem_toArray, List.getElem_cons_succ, List.getElem_cons_zero, Act.put, List.setIfInBounds_toArray, List.set_cons_zero, List.set_cons_succ]
          refine wpAnyH_ready (rs := [13]) (by kernel_rfl) (by simp) ?_
          refine AllReadyH.cons rfl (fun K hK => ?_) AllReadyH.nil
          obtain ⟨z0, z1⟩ : X4.cell? ⟨bk11, 0, none⟩ = some (.int .i64 0) ∧ X4.cell? ⟨bk11, 1, none⟩ = some (.slice none 0 0) := ⟨(cell_of_row _ _ 0 _ _ _ HZ11_4.out).trans rfl, (cell_of_row _ _ 1 _ _ _ HZ11_4.out).trans rfl⟩
          have zz : ∀ j, X4.frozen? ⟨bk11, j, none⟩ = false := fun j => frozen_of_row _ _ _ _ _ HZ11_4.out
          have lz := lt_of_heap HZ11_4.out
          go_simp
          obtain ⟨X5, hX⟩ : ∃ X, X = ((X4.setCell ⟨bk11, 0, none⟩ (.int .i64 lim)).setCell ⟨bk11, 1, none⟩ (.slice (some ⟨gf, 0, none⟩) M.length cf)) := ⟨_, rfl⟩
          have RB5 : Hid (Below W8.heap.size W8 X5) := Lib.hid (by rw [hX]; exact ((RB4.out.setCell HG11.out _).setCell HG11.out _))
          have HZ11_5 : Hid (X5.heap[bk11]? = some (.cells #[.int .i64 lim, .slice (some ⟨gf, 0, none⟩) M.length cf] 30 (0, 0))) := Lib.hid (by rw [hX]; exact set2_at HZ11_4.out _ _)
          have HZ12_5 : Hid (X5.heap[bk12]? = some (.cells #[.int .i64 0, .bool false, .int .u64 0] 36 (0, 0))) := Lib.hid (by rw [hX]; exact set2_far (by have := HD_11_12; omega) HZ12_4.out _ _)
          have HR5 : Hid (rowAt X5 gf M ∧ gf < X5.heap.size) := Lib.hid (by rw [hX]; exact ⟨HR4.out.1.keep (set2_block _ _ _ _ _ (row_ne HR4.out.1 HPO.out z1)), by simpa [World.setCell] using HR4.out.2⟩)
          rw [← hX]
          refine hK.out _ _ ?_ (fun hHeld => ?_)
          · exact HSC.out _ RB5.out
          clear hK K hX z0 z1 zz lz
          try simp only [List.getElem_toArray, List.getElem_cons_succ, List.getElem_cons_zero, Act.put, List.setIfInBounds_toArray, List.set_cons_zero, List.set_cons_succ]
          refine wpAnyH_ready (rs := [14]) (by kernel_rfl) (by simp) ?_
          refine AllReadyH.cons rfl (fun K hK => ?_) AllReadyH.nil
          obtain ⟨z0, z1, z2⟩ : X5.cell? ⟨bk12, 0, none⟩ = some (.int .i64 0) ∧ X5.cell? ⟨bk12, 1, none⟩ = some (.bool false) ∧ X5.cell? ⟨bk12, 2, none⟩ = some (.int .u64 0) := ⟨(cell_of_row _ _ 0 _ _ _ HZ12_5.out).trans rfl, (cell_of_row _ _ 1 _ _ _ HZ12_5.out).trans rfl, (cell_of_row _ _ 2 _ _ _ HZ12_5.out).trans rfl⟩
          have zz : ∀ j, X5.frozen? ⟨bk12, j, none⟩ = false := fun j => frozen_of_row _ _ _ _ _ HZ12_5.out
          have lz := lt_of_heap HZ12_5.out
          go_simp
          obtain ⟨X6, hX⟩ : ∃ X, X = (((X5.setCell ⟨bk12, 0, none⟩ (.int .i64 dk)).setCell ⟨bk12, 1, none⟩ (.bool dh)).setCell ⟨bk12, 2, none⟩ (.int .u64 dn)) := ⟨_, rfl⟩
          have RB6 : Hid (Below W8.heap.size W8 X6) := Lib.hid (by rw [hX]; exact (((RB5.out.setCell HG12.out _).setCell HG12.out _).setCell HG12.out _))
          have HZ12_6 : Hid (X6.heap[bk12]? = some (.cells #[.int .i64 dk, .bool dh, .int .u64 dn] 36 (0, 0))) := Lib.hid (by rw [hX]; exact set3_at HZ12_5.out _ _ _)
          have HZ11_6 : Hid (X6.heap[bk11]? = some (.cells #[.int .i64 lim, .slice (some ⟨gf, 0, none⟩) M.length cf] 30 (0, 0))) := Lib.hid (by rw [hX]; exact set3_far (by have := HD_11_12; omega) HZ11_5.out _ _ _)
          have HR6 : Hid (rowAt X6 gf M ∧ gf < X6.heap.size) := Lib.hid (by rw [hX]; exact ⟨HR5.out.1.keep (set3_block _ _ _ _ _ _ (seals_rowB HR5.out.1 HPO.out z1)), by simpa [World.setCell] using HR5.out.2⟩)
          rw [← hX]
          refine hK.out _ _ ?_ (fun hHeld => ?_)
          · exact HSC.out _ RB6.out
          clear hK K hX z0 z1 z2 zz lz
          try simp only [List.getElem_toArray, List.getElem_cons_succ, List.getElem_cons_zero, Act.put, List.setIfInBounds_toArray, List.set_cons_zero, List.set_cons_succ]
          refine wpAnyH_take (i := 15) (v := ?_) rfl (by kernel_rfl) (by kernel_rfl) (by kernel_rfl) (fun _ _ _ h => h) (Or.inl ⟨by rfl, ?_⟩) (by assumption) ?_
          rotate_left
          · (intro w hSw; (try dsimp only at hSw); go_simp; try with_reducible rfl)
          try simp only [List.getElem_toArray, List.getElem_cons_succ, List.getElem_cons_zero, Act.put, List.setIfInBounds_toArray, List.set_cons_zero, List.set_cons_succ]
          refine wpAnyH_take (i := 16) (v := ?_) rfl (by kernel_rfl) (by kernel_rfl) (by kernel_rfl) (fun _ _ _ h => h) (Or.inl ⟨by rfl, ?_⟩) (by assumption) ?_
          rotate_left
          · (intro w hSw; (try dsimp only at hSw); go_simp; try with_reducible rfl)
          try simp only [List.getElem_toArray, List.getElem_cons_succ, List.getElem_cons_zero, Act.put, List.setIfInBounds_toArray, List.set_cons_zero, List.set_cons_succ]
          refine wpAnyH_done (by kernel_rfl) ?_ _
          refine NoPanic.normal ?_
          go_wp2_with fail
          go_meet
          exact ⟨bk11, bk12, gf, cf, rfl, rfl, rfl, rfl, HZ11_6.out, HZ12_6.out, RB6.out, HR6.out, HGF.out⟩
        · go_simp
          have hbn : Below X2.heap.size X2 (X2.alloc (.cells #[.int .i64 0, .bool false, .int .u64 0] 36)) := (Below.refl _ _).alloc (Nat.le_refl _) _
          refine hK.out _ _ ?_ (fun hHeld => ?_)
          · exact HSC.out _ (RB2.out.trans (hbn.mono RB2.out.size))
          clear hK K hHeld
          have hz := heap_alloc_new X2 (.cells #[.int .i64 0, .bool false, .int .u64 0] 36)
          obtain ⟨X3, hX⟩ : ∃ X, X = X2.alloc (.cells #[.int .i64 0, .bool false, .int .u64 0] 36) := ⟨_, rfl⟩
          rw [← hX] at hbn hz ⊢
          clear hX
          have RB3 := Lib.hid (RB2.out.trans (hbn.mono RB2.out.size))
          obtain ⟨bk12, hbk⟩ : ∃ k, k = X2.heap.size := ⟨_, rfl⟩
          have HG12 : Hid (W8.heap.size ≤ bk12) := Lib.hid (by rw [hbk]; exact RB2.out.size)
          have HD_11_12 : bk11 ≠ bk12 := by have := lt_of_heap HZ11_2.out; omega
          rw [← hbk] at hz ⊢
          clear hbk
          have HZ12_3 := Lib.hid hz
          have HZ11_3 := Lib.hid (below_box hbn HZ11_2.out)
          clear hz hbn
          try simp only [List.getElem_toArray, List.getElem_cons_succ, List.getElem_cons_zero, Act.put, List.setIfInBounds_toArray, List.set_cons_zero, List.set_cons_succ]
          refine wpAnyH_ready (rs := [5]) (by kernel_rfl) (by simp) ?_
          refine AllReadyH.cons rfl (fun K hK => ?_) AllReadyH.nil
          go_simp
          (refine (HRF.out _ RB3.out).mono ?_; rintro e v4 ⟨gf, cf, rfl, hrf, hlf, hbn, hgf⟩)
          go_wp2_with fail
          refine hK.out _ _ ?_ (fun hHeld => ?_)
          · exact HSC.out _ (RB3.out.trans (hbn.mono RB3.out.size))
          clear hK K
          have RB4 := Lib.hid (RB3.out.trans (hbn.mono RB3.out.size))
          have HZ11_4 := Lib.hid (below_box hbn HZ11_3.out)
          have HZ12_4 := Lib.hid (below_box hbn HZ12_3.out)
          have HR4 : Hid (rowAt v4 gf M ∧ gf < v4.heap.size) := Lib.hid ⟨hrf, hlf⟩
          have HGF : Hid (gf = gr ∨ W8.heap.size ≤ gf) := Lib.hid (hgf.imp id fun h => Nat.le_trans RB3.out.size h)
          clear hrf hlf hgf
          clear hbn
          try simp only [List.getElem_toArray, List.getElem_cons_succ, List.getElem_cons_zero, Act.put, List.setIfInBounds_toArray, List.set_cons_zero, List.set_cons_succ]
          refine wpAnyH_take (i := 6) (v := ?_) rfl (by kernel_rfl) (by kernel_rfl) (by kernel_rfl) (fun _ _ _ h => h) (Or.inl ⟨by rfl, ?_⟩) (by assumption) ?_
          rotate_left
          · (intro w hSw; (try dsimp only at hSw); go_simp; try with_reducible rfl)
          try simp only [List.getElem_toArray, List.getElem_cons_succ, List.getElem_cons_zero, Act.put, List.setIfInBounds_toArray, List.set_cons_zero, List.set_cons_succ]
          refine wpAnyH_take (i := 7) (v := ?_) rfl (by kernel_rfl) (by kernel_rfl) (by kernel_rfl) (fun _ _ _ h => h) (Or.inl ⟨by rfl, ?_⟩) (by assumption) ?_
          rotate_left
          · (intro w hSw; (try dsimp only at hSw); go_simp; try with_reducible rfl)
          try simp only [List.getElem_toArray, List.getElem_cons_succ, List.getElem_cons_zero, Act.put, List.setIfInBounds_toArray, List.set_cons_zero, List.set_cons_succ]
          refine wpAnyH_take (i := 8) (v := ?_) rfl (by kernel_rfl) (by kernel_rfl) (by kernel_rfl) (fun _ _ _ h => h) (Or.inl ⟨by rfl, ?_⟩) (by assumption) ?_
          rotate_left
          · (intro w hSw; (try dsimp only at hSw); go_simp; try with_reducible rfl)
          try simp only [List.getElem_toArray, List.getElem_cons_succ, List.getElem_cons_zero, Act.put, List.setIfInBounds_toArray, List.set_cons_zero, List.set_cons_succ]
          refine wpAnyH_take (i := 9) (v := ?_) rfl (by kernel_rfl) (by kernel_rfl) (by kernel_rfl) (fun _ _ _ h => h) (Or.inl ⟨by rfl, ?_⟩) (by assumption) ?_
          rotate_left
          · (intro w hSw; (try dsimp only at hSw); go_simp; try with_reducible rfl)
          try simp only [List.getElem_toArray, List.getElem_cons_succ, List.getElem_cons_zero, Act.put, List.setIfInBounds_toArray, List.set_cons_zero, List.set_cons_succ]
          refine wpAnyH_take (i := 10) (v := ?_) rfl (by kernel_rfl) (by kernel_rfl) (by kernel_rfl) (fun _ _ _ h => h) (Or.inl ⟨by rfl, ?_⟩) (by assumption) ?_
          rotate_left
          · (intro w hSw; (try dsimp only at hSw); go_simp; try with_reducible rfl)
          try simp only [List.getElem_toArray, List.getElem_cons_succ, List.getElem_cons_zero, Act.put, List.setIfInBounds_toArray, List.set_cons_zero, List.set_cons_succ]
          refine wpAnyH_ready (rs := [13]) (by kernel_rfl) (by simp) ?_
          refine AllReadyH.cons rfl (fun K hK => ?_) AllReadyH.nil
          obtain ⟨z0, z1⟩ : v4.cell? ⟨bk11, 0, none⟩ = some (.int .i64 0) ∧ v4.cell? ⟨bk11, 1, none⟩ = some (.slice none 0 0) := ⟨(cell_of_row _ _ 0 _ _ _ HZ11_4.out).trans rfl, (cell_of_row _ _ 1 _ _ _ HZ11_4.out).trans rfl⟩
          have zz : ∀ j, v4.frozen? ⟨bk11, j, none⟩ = false := fun j => frozen_of_row _ _ _ _ _ HZ11_4.out
          have lz := lt_of_heap HZ11_4.out
          go_simp
          obtain ⟨X5, hX⟩ : ∃ X, X = ((v4.setCell ⟨bk11, 0, none⟩ (.int .i64 lim)).setCell ⟨bk11, 1, none⟩ (.slice (some ⟨gf, 0, none⟩) M.length cf)) := ⟨_, rfl⟩
          have RB5 : Hid (Below W8.heap.size W8 X5) := Lib.hid (by rw [hX]; exact ((RB4.out.setCell HG11.out _).setCell HG11.out _))
          have HZ11_5 : Hid (X5.heap[bk11]? = some (.cells #[.int .i64 lim, .slice (some ⟨gf, 0, none⟩) M.length cf] 30 (0, 0))) := Lib.hid (by rw [hX]; exact set2_at HZ11_4.out _ _)
          have HZ12_5 : Hid (X5.heap[bk12]? = some (.cells #[.int .i64 0, .bool false, .int .u64 0] 36 (0, 0))) := Lib.hid (by rw [hX]; exact set2_far (by have := HD_11_12; omega) HZ12_4.out _ _)
          have HR5 : Hid (rowAt X5 gf M ∧ gf < X5.heap.size) := Lib.hid (by rw [hX]; exact ⟨HR4.out.1.keep (set2_block _ _ _ _ _ (row_ne HR4.out.1 HPO.out z1)), by simpa [World.setCell] using HR4.out.2⟩)
          rw [← hX]
          refine hK.out _ _ ?_ (fun hHeld => ?_)
          · exact HSC.out _ RB5.out
          clear hK K hX z0 z1 zz lz
          try simp only [List.getElem_toArray, List.getElem_cons_succ, List.getElem_cons_zero, Act.put, List.setIfInBounds_toArray, List.set_cons_zero, List.set_cons_succ]
          refine wpAnyH_ready (rs := [14]) (by kernel_rfl) (by simp) ?_
          refine AllReadyH.cons rfl (fun K hK => ?_) AllReadyH.nil
          obtain ⟨z0, z1, z2⟩ : X5.cell? ⟨bk12, 0, none⟩ = some (.int .i64 0) ∧ X5.cell? ⟨bk12, 1, none⟩ = some (.bool false) ∧ X5.cell? ⟨bk12, 2, none⟩ = some (.int .u64 0) := ⟨(cell_of_row _ _ 0 _ _ _ HZ12_5.out).trans rfl, (cell_of_row _ _ 1 _ _ _ HZ12_5.out).trans rfl, (cell_of_row _ _ 2 _ _ _ HZ12_5.out).trans rfl⟩
          have zz : ∀ j, X5.frozen? ⟨bk12, j, none⟩ = false := fun j => frozen_of_row _ _ _ _ _ HZ12_5.out
          have lz := lt_of_heap HZ12_5.out
          go_simp
          obtain ⟨X6, hX⟩ : ∃ X, X = (((X5.setCell ⟨bk12, 0, none⟩ (.int .i64 dk)).setCell ⟨bk12, 1, none⟩ (.bool dh)).setCell ⟨bk12, 2, none⟩ (.int .u64 dn)) := ⟨_, rfl⟩
          have RB6 : Hid (Below W8.heap.size W8 X6) := Lib.hid (by rw [hX]; exact (((RB5.out.setCell HG12.out _).setCell HG12.out _).setCell HG12.out _))
          have HZ12_6 : Hid (X6.heap[bk12]? = some (.cells #[.int .i64 dk, .bool dh, .int .u64 dn] 36 (0, 0))) := Lib.hid (by rw [hX]; exact set3_at HZ12_5.out _ _ _)
          have HZ11_6 : Hid (X6.heap[bk11]? = some (.cells #[.int .i64 lim, .slice (some ⟨gf, 0, none⟩) M.length cf] 30 (0, 0))) := Lib.hid (by rw [hX]; exact set3_far (by have := HD_11_12; omega) HZ11_5.out _ _ _)
          have HR6 : Hid (rowAt X6 gf M ∧ gf < X6.heap.size) := Lib.hid (by rw [hX]; exact ⟨HR5.out.1.keep (set3_block _ _ _ _ _ _ (seals_rowB HR5.out.1 HPO.out z1)), by simpa [World.setCell] using HR5.out.2⟩)
          rw [← hX]
          refine hK.out _ _ ?_ (fun hHeld => ?_)
          · exact HSC.out _ RB6.out
          clear hK K hX z0 z1 z2 zz lz
          try simp only [List.getElem_toArray, List.getElem_cons_succ, List.getElem_cons_zero, Act.put, List.setIfInBounds_toArray, List.set_cons_zero, List.set_cons_succ]
          refine wpAnyH_take (i := 15) (v := ?_) rfl (by kernel_rfl) (by kernel_rfl) (by kernel_rfl) (fun _ _ _ h => h) (Or.inl ⟨by rfl, ?_⟩) (by assumption) ?_
          rotate_left
          · (intro w hSw; (try dsimp only at hSw); go_simp; try with_reducible rfl)
          try simp only [List.getElem_toArray, List.getElem_cons_succ, List.getElem_cons_zero, Act.put, List.setIfInBounds_toArray, List.set_cons_zero, List.set_cons_succ]
          refine wpAnyH_take (i := 16) (v := ?_) rfl (by kernel_rfl) (by kernel_rfl) (by kernel_rfl) (fun _ _ _ h => h) (Or.inl ⟨by rfl, ?_⟩) (by assumption) ?_
          rotate_left
          · (intro w hSw; (try dsimp only at hSw); go_simp; try with_reducible rfl)
          try simp only [List.getElem_toArray, List.getElem_cons_succ, List.getElem_cons_zero, Act.put, List.setIfInBounds_toArray, List.set_cons_zero, List.set_cons_succ]
          refine wpAnyH_done (by kernel_rfl) ?_ _
          refine NoPanic.normal ?_
          go_wp2_with fail
          go_meet
          exact ⟨bk11, bk12, gf, cf, rfl, rfl, rfl, rfl, HZ11_6.out, HZ12_6.out, RB6.out, HR6.out, HGF.out⟩
      · go_simp
        have hbn : Below v1.heap.size v1 (v1.alloc (.cells #[.int .i64 0, .bool false, .int .u64 0] 36)) := (Below.refl _ _).alloc (Nat.le_refl _) _
        refine hK.out _ _ ?_ (fun hHeld => ?_)
        · exact HSC.out _ (RB1.out.trans (hbn.mono RB1.out.size))
        clear hK K hHeld
        have hz := heap_alloc_new v1 (.cells #[.int .i64 0, .bool false, .int .u64 0] 36)
        obtain ⟨X2, hX⟩ : ∃ X, X = v1.alloc (.cells #[.int .i64 0, .bool false, .int .u64 0] 36) := ⟨_, rfl⟩
        rw [← hX] at hbn hz ⊢
        clear hX
        have RB2 := Lib.hid (RB1.out.trans (hbn.mono RB1.out.size))
        obtain ⟨bk12, hbk⟩ : ∃ k, k = v1.heap.size := ⟨_, rfl⟩
        have HG12 : Hid (W8.heap.size ≤ bk12) := Lib.hid (by rw [hbk]; exact RB1.out.size)
        rw [← hbk] at hz ⊢
        clear hbk
        have HZ12_2 := Lib.hid hz
        clear hz hbn
        try simp only [List.getElem_toArray, List.getElem_cons_succ, List.getElem_cons_zero, Act.put, List.setIfInBounds_toArray, List.set_cons_zero, List.set_cons_succ]
        refine wpAnyH_ready (rs := [5, 11]) (by kernel_rfl) (by simp) ?_
        refine AllReadyH.cons rfl (fun K hK => ?_) (AllReadyH.cons rfl (fun K hK => ?_) AllReadyH.nil)
        · go_simp
          (refine (HRF.out _ RB2.out).mono ?_; rintro e v3 ⟨gf, cf, rfl, hrf, hlf, hbn, hgf⟩)
          go_wp2_with fail
          refine hK.out _ _ ?_ (fun hHeld => ?_)
          · exact HSC.out _ (RB2.out.trans (hbn.mono RB2.out.size))
          clear hK K
          have RB3 := Lib.hid (RB2.out.trans (hbn.mono RB2.out.size))
          have HZ12_3 := Lib.hid (below_box hbn HZ12_2.out)
          have HR3 : Hid (rowAt v3 gf M ∧ gf < v3.heap.size) := Lib.hid ⟨hrf, hlf⟩
          have HGF : Hid (gf = gr ∨ W8.heap.size ≤ gf) := Lib.hid (hgf.imp id fun h => Nat.le_trans RB2.out.size h)
          clear hrf hlf hgf
          clear hbn
          try simp only [List.getElem_toArray, List.getElem_cons_succ, List.getElem_cons_zero, Act.put, List.setIfInBounds_toArray, List.set_cons_zero, List.set_cons_succ]
          refine wpAnyH_take (i := 6) (v := ?_) rfl (by kernel_rfl) (by kernel_rfl) (by kernel_rfl) (fun _ _ _ h => h) (Or.inl ⟨by rfl, ?_⟩) (by assumption) ?_
          rotate_left
          · (intro w hSw; (try dsimp only at hSw); go_simp; try with_reducible rfl)
          try simp only [List.getElem_toArray, List.getElem_cons_succ, List.getElem_cons_zero, Act.put, List.setIfInBounds_toArray, List.set_cons_zero, List.set_cons_succ]
          refine wpAnyH_take (i := 7) (v := ?_) rfl (by kernel_rfl) (by kernel_rfl) (by kernel_rfl) (fun _ _ _ h => h) (Or.inl ⟨by rfl, ?_⟩) (by assumption) ?_
          rotate_left
          · (intro w hSw; (try dsimp only at hSw); go_simp; try with_reducible rfl)
          try simp only [List.getElem_toArray, List.getElem_cons_succ, List.getElem_cons_zero, Act.put, List.setIfInBounds_toArray, List.set_cons_zero, List.set_cons_succ]
          refine wpAnyH_take (i := 8) (v := ?_) rfl (by kernel_rfl) (by kernel_rfl) (by kernel_rfl) (fun _ _ _ h => h) (Or.inl ⟨by rfl, ?_⟩) (by assumption) ?_
          rotate_left
          · (intro w hSw; (try dsimp only at hSw); go_simp; try with_reducible rfl)
          try simp only [List.getElem_toArray, List.getElem_cons_succ, List.getElem_cons_zero, Act.put, List.setIfInBounds_toArray, List.set_cons_zero, List.set_cons_succ]
          refine wpAnyH_take (i := 9) (v := ?_) rfl (by kernel_rfl) (by kernel_rfl) (by kernel_rfl) (fun _ _ _ h => h) (Or.inl ⟨by rfl, ?_⟩) (by assumption) ?_
          rotate_left
          · (intro w hSw; (try dsimp only at hSw); go_simp; try with_reducible rfl)
          try simp only [List.getElem_toArray, List.getElem_cons_succ, List.getElem_cons_zero, Act.put, List.setIfInBounds_toArray, List.set_cons_zero, List.set_cons_succ]
          refine wpAnyH_take (i := 10) (v := ?_) rfl (by kernel_rfl) (by kernel_rfl) (by kernel_rfl) (fun _ _ _ h => h) (Or.inl ⟨by rfl, ?_⟩) (by assumption) ?_
          rotate_left
          · (intro w hSw; (try dsimp only at hSw); go_simp; try with_reducible rfl)
          try simp only [List.getElem_toArray, List.getElem_cons_succ, List.getElem_cons_zero, Act.put, List.setIfInBounds_toArray, List.set_cons_zero, List.set_cons_succ]
          refine wpAnyH_ready (rs := [11]) (by kernel_rfl) (by simp) ?_
          refine AllReadyH.cons rfl (fun K hK => ?_) AllReadyH.nil
          go_simp
          have hbn : Below v3.heap.size v3 (v3.alloc (.cells #[.int .i64 0, .slice none 0 0] 30)) := (Below.refl _ _).alloc (Nat.le_refl _) _
          refine hK.out _ _ ?_ (fun hHeld => ?_)
          · exact HSC.out _ (RB3.out.trans (hbn.mono RB3.out.size))
          clear hK K hHeld
          have hz := heap_alloc_new v3 (.cells #[.int .i64 0, .slice none 0 0] 30)
          obtain ⟨X4, hX⟩ : ∃ X, X = v3.alloc (.cells #[.int .i64 0, .slice none 0 0] 30) := ⟨_, rfl⟩
          rw [← hX] at hbn hz ⊢
          clear hX
          have RB4 := Lib.hid (RB3.out.trans (hbn.mono RB3.out.size))
          obtain ⟨bk11, hbk⟩ : ∃ k, k = v3.heap.size := ⟨_, rfl⟩
          have HG11 : Hid (W8.heap.size ≤ bk11) := Lib.hid (by rw [hbk]; exact RB3.out.size)
          have HD_11_12 : bk11 ≠ bk12 := by have := lt_of_heap HZ12_3.out; omega
          rw [← hbk] at hz ⊢
          clear hbk
          have HZ11_4 := Lib.hid hz
          have HZ12_4 := Lib.hid (below_box hbn HZ12_3.out)
          have HR4 : Hid (rowAt X4 gf M ∧ gf < X4.heap.size) := Lib.hid ⟨HR3.out.1.keep (hbn.block _ HR3.out.2), Nat.lt_of_lt_of_le HR3.out.2 hbn.size⟩
          clear hz hbn
          try simp only [List.getElem_toArray, List.getElem_cons_succ, List.getElem_cons_zero, Act.put, List.setIfInBounds_toArray, List.set_cons_zero, List.set_cons_succ]
          refine wpAnyH_ready (rs := [13]) (by kernel_rfl) (by simp) ?_
          refine AllReadyH.cons rfl (fun K hK => ?_) AllReadyH.nil
          obtain ⟨z0, z1⟩ : X4.cell? ⟨bk11, 0, none⟩ = some (.int .i64 0) ∧ X4.cell? ⟨bk11, 1, none⟩ = some (.slice none 0 0) := ⟨(cell_of_row _ _ 0 _ _ _ HZ11_4.out).trans rfl, (cell_of_row _ _ 1 _ _ _ HZ11_4.out).trans rfl⟩
          have zz : ∀ j, X4.frozen? ⟨bk11, j, none⟩ = false := fun j => frozen_of_row _ _ _ _ _ HZ11_4.out
          have lz := lt_of_heap HZ11_4.out
          go_simp
          obtain ⟨X5, hX⟩ : ∃ X, X = ((X4.setCell ⟨bk11, 0, none⟩ (.int .i64 lim)).setCell ⟨bk11, 1, none⟩ (.slice (some ⟨gf, 0, none⟩) M.length cf)) := ⟨_, rfl⟩
          have RB5 : Hid (Below W8.heap.size W8 X5) := Lib.hid (by rw [hX]; exact ((RB4.out.setCell HG11.out _).setCell HG11.out _))
          have HZ11_5 : Hid (X5.heap[bk11]? = some (.cells #[.int .i64 lim, .slice (some ⟨gf, 0, none⟩) M.length cf] 30 (0, 0))) := Lib.hid (by rw [hX]; exact set2_at HZ11_4.out _ _)
          have HZ12_5 : Hid (X5.heap[bk12]? = some (.cells #[.int .i64 0, .bool false, .int .u64 0] 36 (0, 0))) := Lib.hid (by rw [hX]; exact set2_far (by have := HD_11_12; omega) HZ12_4.out _ _)
          have HR5 : Hid (rowAt X5 gf M ∧ gf < X5.heap.size) := Lib.hid (by rw [hX]; exact ⟨HR4.out.1.keep (set2_block _ _ _ _ _ (row_ne HR4.out.1 HPO.out z1)), by simpa [World.setCell] using HR4.out.2⟩)
          rw [← hX]
          refine hK.out _ _ ?_ (fun hHeld => ?_)
          · exact HSC.out _ RB5.out
          clear hK K hX z0 z1 zz lz
          try simp only [List.getElem_toArray, List.getElem_cons_succ, List.getElem_cons_zero, Act.put, List.setIfInBounds_toArray, List.set_cons_zero, List.set_cons_succ]
          refine wpAnyH_ready (rs := [14]) (by kernel_rfl) (by simp) ?_
          refine AllReadyH.cons rfl (fun K hK => ?_) AllReadyH.nil
          obtain ⟨z0, z1, z2⟩ : X5.cell? ⟨bk12, 0, none⟩ = some (.int .i64 0) ∧ X5.cell? ⟨bk12, 1, none⟩ = some (.bool false) ∧ X5.cell? ⟨bk12, 2, none⟩ = some (.int .u64 0) := ⟨(cell_of_row _ _ 0 _ _ _ HZ12_5.out).trans rfl, (cell_of_row _ _ 1 _ _ _ HZ12_5.out).trans rfl, (cell_of_row _ _ 2 _ _ _ HZ12_5.out).trans rfl⟩
          have zz : ∀ j, X5.frozen? ⟨bk12, j, none⟩ = false := fun j => frozen_of_row _ _ _ _ _ HZ12_5.out
          have lz := lt_of_heap HZ12_5.out
          go_simp
          obtain ⟨X6, hX⟩ : ∃ X, X = (((X5.setCell ⟨bk12, 0, none⟩ (.int .i64 dk)).setCell ⟨bk12, 1, none⟩ (.bool dh)).setCell ⟨bk12, 2, none⟩ (.int .u64 dn)) := ⟨_, rfl⟩
          have RB6 : Hid (Below W8.heap.size W8 X6) := Lib.hid (by rw [hX]; exact (((RB5.out.setCell HG12.out _).setCell HG12.out _).setCell HG12.out _))
          have HZ12_6 : Hid (X6.heap[bk12]? = some (.cells #[.int .i64 dk, .bool dh, .int .u64 dn] 36 (0, 0))) := Lib.hid (by rw [hX]; exact set3_at HZ12_5.out _ _ _)
          have HZ11_6 : Hid (X6.heap[bk11]? = some (.cells #[.int .i64 lim, .slice (some ⟨gf, 0, none⟩) M.length cf] 30 (0, 0))) := Lib.hid (by rw [hX]; exact set3_far (by have := HD_11_12; omega) HZ11_5.out _ _ _)
          have HR6 : Hid (rowAt X6 gf M ∧ gf < X6.heap.size) := Lib.hid (by rw [hX]; exact ⟨HR5.out.1.keep (set3_block _ _ _ _ _ _ (seals_rowB HR5.out.1 HPO.out z1)), by simpa [World.setCell] using HR5.out.2⟩)
          rw [← hX]
          refine hK.out _ _ ?_ (fun hHeld => ?_)
          · exact HSC.out _ RB6.out
          clear hK K hX z0 z1 z2 zz lz
          try simp only [List.getElem_toArray, List.getElem_cons_succ, List.getElem_cons_zero, Act.put, List.setIfInBounds_toArray, List.set_cons_zero, List.set_cons_succ]
          refine wpAnyH_take (i := 15) (v := ?_) rfl (by kernel_rfl) (by kernel_rfl) (by kernel_rfl) (fun _ _ _ h => h) (Or.inl ⟨by rfl, ?_⟩) (by assumption) ?_
          rotate_left
          · (intro w hSw; (try dsimp only at hSw); go_simp; try with_reducible rfl)
          try simp only [List.getElem_toArray, List.getElem_cons_succ, List.getElem_cons_zero, Act.put, List.setIfInBounds_toArray, List.set_cons_zero, List.set_cons_succ]
          refine wpAnyH_take (i := 16) (v := ?_) rfl (by kernel_rfl) (by kernel_rfl) (by kernel_rfl) (fun _ _ _ h => h) (Or.inl ⟨by rfl, ?_⟩) (by assumption) ?_
          rotate_left
          · (intro w hSw; (try dsimp only at hSw); go_simp; try with_reducible rfl)
          try simp only [List.getElem_toArray, List.getElem_cons_succ, List.getElem_cons_zero, Act.put, List.setIfInBounds_toArray, List.set_cons_zero, List.set_cons_succ]
          refine wpAnyH_done (by kernel_rfl) ?_ _
          refine NoPanic.normal ?_
          go_wp2_with fail
          go_meet
          exact ⟨bk11, bk12, gf, cf, rfl, rfl, rfl, rfl, HZ11_6.out, HZ12_6.out, RB6.out, HR6.out, HGF.out⟩
        · go_simp
          have hbn : Below X2.heap.size X2 (X2.alloc (.cells #[.int .i64 0, .slice none 0 0] 30)) := (Below.refl _ _).alloc (Nat.le_refl _) _
          refine hK.out _ _ ?_ (fun hHeld => ?_)
          · exact HSC.out _ (RB2.out.trans (hbn.mono RB2.out.size))
          clear hK K hHeld
          have hz := heap_alloc_new X2 (.cells #[.int .i64 0, .slice none 0 0] 30)
          obtain ⟨X3, hX⟩ : ∃ X, X = X2.alloc (.cells #[.int .i64 0, .slice none 0 0] 30) := ⟨_, rfl⟩
          rw [← hX] at hbn hz ⊢
          clear hX
          have RB3 := Lib.hid (RB2.out.trans (hbn.mono RB2.out.size))
          obtain ⟨bk11, hbk⟩ : ∃ k, k = X2.heap.size := ⟨_, rfl⟩
          have HG11 : Hid (W8.heap.size ≤ bk11) := Lib.hid (by rw [hbk]; exact RB2.out.size)
          have HD_11_12 : bk11 ≠ bk12 := by have := lt_of_heap HZ12_2.out; omega
          rw [← hbk] at hz ⊢
          clear hbk
          have HZ11_3 := Lib.hid hz
          have HZ12_3 := Lib.hid (below_box hbn HZ12_2.out)
          clear hz hbn
          try simp only [List.getElem_toArray, List.getElem_cons_succ, List.getElem_cons_zero, Act.put, List.setIfInBounds_toArray, List.set_cons_zero, List.set_cons_succ]
          refine wpAnyH_ready (rs := [5]) (by kernel_rfl) (by simp) ?_
          refine AllReadyH.cons rfl (fun K hK => ?_) AllReadyH.nil
          go_simp
          (refine (HRF.out _ RB3.out).mono ?_; rintro e v4 ⟨gf, cf, rfl, hrf, hlf, hbn, hgf⟩)
          go_wp2_with fail
          refine hK.out _ _ ?_ (fun hHeld => ?_)
          · exact HSC.out _ (RB3.out.trans (hbn.mono RB3.out.size))
          clear hK K
          have RB4 := Lib.hid (RB3.out.trans (hbn.mono RB3.out.size))
          have HZ11_4 := Lib.hid (below_box hbn HZ11_3.out)
          have HZ12_4 := Lib.hid (below_box hbn HZ12_3.out)
          have HR4 : Hid (rowAt v4 gf M ∧ gf < v4.heap.size) := Lib.hid ⟨hrf, hlf⟩
          have HGF : Hid (gf = gr ∨ W8.heap.size ≤ gf) := Lib.hid (hgf.imp id fun h => Nat.le_trans RB3.out.size h)
          clear hrf hlf hgf
          clear hbn
          try simp only [List.getElem_toArray, List.getElem_cons_succ, List.getElem_cons_zero, Act.put, List.setIfInBounds_toArray, List.set_cons_zero, List.set_cons_succ]
          refine wpAnyH_take (i := 6) (v := ?_) rfl (by kernel_rfl) (by kernel_rfl) (by kernel_rfl) (fun _ _ _ h => h) (Or.inl ⟨by rfl, ?_⟩) (by assumption) ?_
          rotate_left
          · (intro w hSw; (try dsimp only at hSw); go_simp; try with_reducible rfl)
          try simp only [List.getElem_toArray, List.getElem_cons_succ, List.getElem_cons_zero, Act.put, List.setIfInBounds_toArray, List.set_cons_zero, List.set_cons_succ]
          refine wpAnyH_take (i := 7) (v := ?_) rfl (by kernel_rfl) (by kernel_rfl) (by kernel_rfl) (fun _ _ _ h => h) (Or.inl ⟨by rfl, ?_⟩) (by assumption) ?_
          rotate_left
          · (intro w hSw; (try dsimp only at hSw); go_simp; try with_reducible rfl)
          try simp only [List.getElem_toArray, List.getElem_cons_succ, List.getElem_cons_zero, Act.put, List.setIfInBounds_toArray, List.set_cons_zero, List.set_cons_succ]
          refine wpAnyH_take (i := 8) (v := ?_) rfl (by kernel_rfl) (by kernel_rfl) (by kernel_rfl) (fun _ _ _ h => h) (Or.inl ⟨by rfl, ?_⟩) (by assumption) ?_
          rotate_left
          · (intro w hSw; (try dsimp only at hSw); go_simp; try with_reducible rfl)
          try simp only [List.getElem_toArray, List.getElem_cons_succ, List.getElem_cons_zero, Act.put, List.setIfInBounds_toArray, List.set_cons_zero, List.set_cons_succ]
          refine wpAnyH_take (i := 9) (v := ?_) rfl (by kernel_rfl) (by kernel_rfl) (by kernel_rfl) (fun _ _ _ h => h) (Or.inl ⟨by rfl, ?_⟩) (by assumption) ?_
          rotate_left
          · (intro w hSw; (try dsimp only at hSw); go_simp; try with_reducible rfl)
          try simp only [List.getElem_toArray, List.getElem_cons_succ, List.getElem_cons_zero, Act.put, List.setIfInBounds_toArray, List.set_cons_zero, List.set_cons_succ]
          refine wpAnyH_take (i := 10) (v := ?_) rfl (by kernel_rfl) (by kernel_rfl) (by kernel_rfl) (fun _ _ _ h => h) (Or.inl ⟨by rfl, ?_⟩) (by assumption) ?_
          rotate_left
          · (intro w hSw; (try dsimp only at hSw); go_simp; try with_reducible rfl)
          try simp only [List.getElem_toArray, List.getElem_cons_succ, List.getElem_cons_zero, Act.put, List.setIfInBounds_toArray, List.set_cons_zero, List.set_cons_succ]
          refine wpAnyH_ready (rs := [13]) (by kernel_rfl) (by simp) ?_
          refine AllReadyH.cons rfl (fun K hK => ?_) AllReadyH.nil
          obtain ⟨z0, z1⟩ : v4.cell? ⟨bk11, 0, none⟩ = some (.int .i64 0) ∧ v4.cell? ⟨bk11, 1, none⟩ = some (.slice none 0 0) := ⟨(cell_of_row _ _ 0 _ _ _ HZ11_4.out).trans rfl, (cell_of_row _ _ 1 _ _ _ HZ11_4.out).trans rfl⟩
          have zz : ∀ j, v4.frozen? ⟨bk11, j, none⟩ = false := fun j => frozen_of_row _ _ _ _ _ HZ11_4.out
          have lz := lt_of_heap HZ11_4.out
          go_simp
          obtain ⟨X5, hX⟩ : ∃ X, X = ((v4.setCell ⟨bk11, 0, none⟩ (.int .i64 lim)).setCell ⟨bk11, 1, none⟩ (.slice (some ⟨gf, 0, none⟩) M.length cf)) := ⟨_, rfl⟩
          have RB5 : Hid (Below W8.heap.size W8 X5) := Lib.hid (by rw [hX]; exact ((RB4.out.setCell HG11.out _).setCell HG11.out _))
          have HZ11_5 : Hid (X5.heap[bk11]? = some (.cells #[.int .i64 lim, .slice (some ⟨gf, 0, none⟩) M.length cf] 30 (0, 0))) := Lib.hid (by rw [hX]; exact set2_at HZ11_4.out _ _)
          have HZ12_5 : Hid (X5.heap[bk12]? = some (.cells #[.int .i64 0, .bool false, .int .u64 0] 36 (0, 0))) := Lib.hid (by rw [hX]; exact set2_far (by have := HD_11_12; omega) HZ12_4.out _ _)
          have HR5 : Hid (rowAt X5 gf M ∧ gf < X5.heap.size) := Lib.hid (by rw [hX]; exact ⟨HR4.out.1.keep (set2_block _ _ _ _ _ (row_ne HR4.out.1 HPO.out z1)), by simpa [World.setCell] using HR4.out.2⟩)
          rw [← hX]
          refine hK.out _ _ ?_ (fun hHeld => ?_)
          · exact HSC.out _ RB5.out
          clear hK K hX z0 z1 zz lz
          try simp only [List.getElem_toArray, List.getElem_cons_succ, List.getElem_cons_zero, Act.put, List.setIfInBounds_toArray, List.set_cons_zero, List.set_cons_succ]
          refine wpAnyH_ready (rs := [14]) (by kernel_rfl) (by simp) ?_
          refine AllReadyH.cons rfl (fun K hK => ?_) AllReadyH.nil
          obtain ⟨z0, z1, z2⟩ : X5.cell? ⟨bk12, 0, none⟩ = some (.int .i64 0) ∧ X5.cell? ⟨bk12, 1, none⟩ = some (.bool false) ∧ X5.cell? ⟨bk12, 2, none⟩ = some (.int .u64 0) := ⟨(cell_of_row _ _ 0 _ _ _ HZ12_5.out).trans rfl, (cell_of_row _ _ 1 _ _ _ HZ12_5.out).trans rfl, (cell_of_row _ _ 2 _ _ _ HZ12_5.out).trans rfl⟩
          have zz : ∀ j, X5.frozen? ⟨bk12, j, none⟩ = false := fun j => frozen_of_row _ _ _ _ _ HZ12_5.out
          have lz := lt_of_heap HZ12_5.out
          go_simp
          obtain ⟨X6, hX⟩ : ∃ X, X = (((X5.setCell ⟨bk12, 0, none⟩ (.int .i64 dk)).setCell ⟨bk12, 1, none⟩ (.bool dh)).setCell ⟨bk12, 2, none⟩ (.int .u64 dn)) := ⟨_, rfl⟩
          have RB6 : Hid (Below W8.heap.size W8 X6) := Lib.hid (by rw [hX]; exact (((RB5.out.setCell HG12.out _).setCell HG12.out _).setCell HG12.out _))
          have HZ12_6 : Hid (X6.heap[bk12]? = some (.cells #[.int .i64 dk, .bool dh, .int .u64 dn] 36 (0, 0))) := Lib.hid (by rw [hX]; exact set3_at HZ12_5.out _ _ _)
          have HZ11_6 : Hid (X6.heap[bk11]? = some (.cells #[.int .i64 lim, .slice (some ⟨gf, 0, none⟩) M.length cf] 30 (0, 0))) := Lib.hid (by rw [hX]; exact set3_far (by have := HD_11_12; omega) HZ11_5.out _ _ _)
          have HR6 : Hid (rowAt X6 gf M ∧ gf < X6.heap.size) := Lib.hid (by rw [hX]; exact ⟨HR5.out.1.keep (set3_block _ _ _ _ _ _ (seals_rowB HR5.out.1 HPO.out z1)), by simpa [World.setCell] using HR5.out.2⟩)
          rw [← hX]
          refine hK.out _ _ ?_ (fun hHeld => ?_)
          · exact HSC.out _ RB6.out
          clear hK K hX z0 z1 z2 zz lz
          try simp only [List.getElem_toArray, List.getElem_cons_succ, List.getElem_cons_zero, Act.put, List.setIfInBounds_toArray, List.set_cons_zero, List.set_cons_succ]
          refine wpAnyH_take (i := 15) (v := ?_) rfl (by kernel_rfl) (by kernel_rfl) (by kernel_rfl) (fun _ _ _ h => h) (Or.inl ⟨by rfl, ?_⟩) (by assumption) ?_
          rotate_left
          · (intro w hSw; (try dsimp only at hSw); go_simp; try with_reducible rfl)
          try simp only [List.getElem_toArray, List.getElem_cons_succ, List.getElem_cons_zero, Act.put, List.setIfInBounds_toArray, List.set_cons_zero, List.set_cons_succ]
          refine wpAnyH_take (i := 16) (v := ?_) rfl (by kernel_rfl) (by kernel_rfl) (by kernel_rfl) (fun _ _ _ h => h) (Or.inl ⟨by rfl, ?_⟩) (by assumption) ?_
          rotate_left
          · (intro w hSw; (try dsimp only at hSw); go_simp; try with_reducible rfl)
          try simp only [List.getElem_toArray, List.getElem_cons_succ, List.getElem_cons_zero, Act.put, List.setIfInBounds_toArray, List.set_cons_zero, List.set_cons_succ]
          refine wpAnyH_done (by kernel_rfl) ?_ _
          refine NoPanic.normal ?_
          go_wp2_with fail
          go_meet
          exact ⟨bk11, bk12, gf, cf, rfl, rfl, rfl, rfl, HZ11_6.out, HZ12_6.out, RB6.out, HR6.out, HGF.out⟩
    · go_simp
      have hbn : Below X0.heap.size X0 (X0.alloc (.cells #[.int .i64 0, .slice none 0 0] 30)) := (Below.refl _ _).alloc (Nat.le_refl _) _
      refine hK.out _ _ ?_ (fun hHeld => ?_)
      · exact HSC.out _ (RB0.out.trans (hbn.mono RB0.out.size))
      clear hK K hHeld
      have hz := heap_alloc_new X0 (.cells #[.int .i64 0, .slice none 0 0] 30)
      obtain ⟨X1, hX⟩ : ∃ X, X = X0.alloc (.cells #[.int .i64 0, .slice none 0 0] 30) := ⟨_, rfl⟩
      rw [← hX] at hbn hz ⊢
      clear hX
      have RB1 := Lib.hid (RB0.out.trans (hbn.mono RB0.out.size))
      obtain ⟨bk11, hbk⟩ : ∃ k, k = X0.heap.size := ⟨_, rfl⟩
      have HG11 : Hid (W8.heap.size ≤ bk11) := Lib.hid (by rw [hbk]; exact RB0.out.size)
      rw [← hbk] at hz ⊢
      clear hbk
      have HZ11_1 := Lib.hid hz
      clear hz hbn
      try simp only [List.getElem_toArray, List.getElem_cons_succ, List.getElem_cons_zero, Act.put, List.setIfInBounds_toArray, List.set_cons_zero, List.set_cons_succ]
      refine wpAnyH_ready (rs := [2, 12]) (by kernel_rfl) (by simp) ?_
      refine AllReadyH.cons rfl (fun K hK => ?_) (AllReadyH.cons rfl (fun K hK => ?_) AllReadyH.nil)
      · go_simp
        (refine (HOF.out _).mono ?_; rintro e v2 ⟨rfl, hbn⟩)
        go_wp2_with fail
        refine hK.out _ _ ?_ (fun hHeld => ?_)
        · exact HSC.out _ (RB1.out.trans (hbn.mono RB1.out.size))
        clear hK K
        have RB2 := Lib.hid (RB1.out.trans (hbn.mono RB1.out.size))
        have HZ11_2 := Lib.hid (below_box hbn HZ11_1.out)
        clear hbn
        try simp only [List.getElem_toArray, List.getElem_cons_succ, List.getElem_cons_zero, Act.put, List.setIfInBounds_toArray, List.set_cons_zero, List.set_cons_succ]
        refine wpAnyH_ready (rs := [5, 12]) (by kernel_rfl) (by simp) ?_
        refine AllReadyH.cons rfl (fun K hK => ?_) (AllReadyH.cons rfl (fun K hK => ?_) AllReadyH.nil)
        · go_simp
          (refine (HRF.out _ RB2.out).mono ?_; rintro e v3 ⟨gf, cf, rfl, hrf, hlf, hbn, hgf⟩)
          go_wp2_with fail
          refine hK.out _ _ ?_ (fun hHeld => ?_)
          · exact HSC.out _ (RB2.out.trans (hbn.mono RB2.out.size))
          clear hK K
          have RB3 := Lib.hid (RB2.out.trans (hbn.mono RB2.out.size))
          have HZ11_3 := Lib.hid (below_box hbn HZ11_2.out)
          have HR3 : Hid (rowAt v3 gf M ∧ gf < v3.heap.size) := Lib.hid ⟨hrf, hlf⟩
          have HGF : Hid (gf = gr ∨ W8.heap.size ≤ gf) := Lib.hid (hgf.imp id fun h => Nat.le_trans RB2.out.size h)
          clear hrf hlf hgf
          clear hbn
          try simp only [List.getElem_toArray, List.getElem_cons_succ, List.getElem_cons_zero, Act.put, List.setIfInBounds_toArray, List.set_cons_zero, List.set_cons_succ]
          refine wpAnyH_take (i := 6) (v := ?_) rfl (by kernel_rfl) (by kernel_rfl) (by kernel_rfl) (fun _ _ _ h => h) (Or.inl ⟨by rfl, ?_⟩) (by assumption) ?_
          rotate_left
          · (intro w hSw; (try dsimp only at hSw); go_simp; try with_reducible rfl)
          try simp only [List.getElem_toArray, List.getElem_cons_succ, List.getElem_cons_zero, Act.put, List.setIfInBounds_toArray, List.set_cons_zero, List.set_cons_succ]
          refine wpAnyH_take (i := 7) (v := ?_) rfl (by kernel_rfl) (by kernel_rfl) (by kernel_rfl) (fun _ _ _ h => h) (Or.inl ⟨by rfl, ?_⟩) (by assumption) ?_
          rotate_left
          · (intro w hSw; (try dsimp only at hSw); go_simp; try with_reducible rfl)
          try simp only [List.getElem_toArray, List.getElem_cons_succ, List.getElem_cons_zero, Act.put, List.setIfInBounds_toArray, List.set_cons_zero, List.set_cons_succ]
          refine wpAnyH_take (i := 8) (v := ?_) rfl (by kernel_rfl) (by kernel_rfl) (by kernel_rfl) (fun _ _ _ h => h) (Or.inl ⟨by rfl, ?_⟩) (by assumption) ?_
          rotate_left
          · (intro w hSw; (try dsimp only at hSw); go_simp; try with_reducible rfl)
          try simp only [List.getElem_toArray, List.getElem_cons_succ, List.getElem_cons_zero, Act.put, List.setIfInBounds_toArray, List.set_cons_zero, List.set_cons_succ]
          refine wpAnyH_take (i := 9) (v := ?_) rfl (by kernel_rfl) (by kernel_rfl) (by kernel_rfl) (fun _ _ _ h => h) (Or.inl ⟨by rfl, ?_⟩) (by assumption) ?_
          rotate_left
          · (intro w hSw; (try dsimp only at hSw); go_simp; try with_reducible rfl)
          try simp only [List.getElem_toArray, List.getElem_cons_succ, List.getElem_cons_zero, Act.put, List.setIfInBounds_toArray, List.set_cons_zero, List.set_cons_succ]
          refine wpAnyH_take (i := 10) (v := ?_) rfl (by kernel_rfl) (by kernel_rfl) (by kernel_rfl) (fun _ _ _ h => h) (Or.inl ⟨by rfl, ?_⟩) (by assumption) ?_
          rotate_left
          · (intro w hSw; (try dsimp only at hSw); go_simp; try with_reducible rfl)
          try simp only [List.getElem_toArray, List.getElem_cons_succ, List.getElem_cons_zero, Act.put, List.setIfInBounds_toArray, List.set_cons_zero, List.set_cons_succ]
          refine wpAnyH_ready (rs := [12]) (by kernel_rfl) (by simp) ?_
          refine AllReadyH.cons rfl (fun K hK => ?_) AllReadyH.nil
          go_simp
          have hbn : Below v3.heap.size v3 (v3.alloc (.cells #[.int .i64 0, .bool false, .int .u64 0] 36)) := (Below.refl _ _).alloc (Nat.le_refl _) _
          refine hK.out _ _ ?_ (fun hHeld => ?_)
          · exact HSC.out _ (RB3.out.trans (hbn.mono RB3.out.size))
          clear hK K hHeld
          have hz := heap_alloc_new v3 (.cells #[.int .i64 0, .bool false, .int .u64 0] 36)
          obtain ⟨X4, hX⟩ : ∃ X, X = v3.alloc (.cells #[.int .i64 0, .bool false, .int .u64 0] 36) := ⟨_, rfl⟩
          rw [← hX] at hbn hz ⊢
          clear hX
          have RB4 := Lib.hid (RB3.out.trans (hbn.mono RB3.out.size))
          obtain ⟨bk12, hbk⟩ : ∃ k, k = v3.heap.size := ⟨_, rfl⟩
          have HG12 : Hid (W8.heap.size ≤ bk12) := Lib.hid (by rw [hbk]; exact RB3.out.size)
          have HD_11_12 : bk11 ≠ bk12 := by have := lt_of_heap HZ11_3.out; omega
          rw [← hbk] at hz ⊢
          clear hbk
          have HZ12_4 := Lib.hid hz
          have HZ11_4 := Lib.hid (below_box hbn HZ11_3.out)
          have HR4 : Hid (rowAt X4 gf M ∧ gf < X4.heap.size) := Lib.hid ⟨HR3.out.1.keep (hbn.block _ HR3.out.2), Nat.lt_of_lt_of_le HR3.out.2 hbn.size⟩
          clear hz hbn
          try simp only [List.getElem_toArray, List.getElem_cons_succ, List.getElem_cons_zero, Act.put, List.setIfInBounds_toArray, List.set_cons_zero, List.set_cons_succ]
          refine wpAnyH_ready (rs := [13]) (by kernel_rfl) (by simp) ?_
          refine AllReadyH.cons rfl (fun K hK => ?_) AllReadyH.nil
          obtain ⟨z0, z1⟩ : X4.cell? ⟨bk11, 0, none⟩ = some (.int .i64 0) ∧ X4.cell? ⟨bk11, 1, none⟩ = some (.slice none 0 0) := ⟨(cell_of_row _ _ 0 _ _ _ HZ11_4.out).trans rfl, (cell_of_row _ _ 1 _ _ _ HZ11_4.out).trans rfl⟩
          have zz : ∀ j, X4.frozen? ⟨bk11, j, none⟩ = false := fun j => frozen_of_row _ _ _ _ _ HZ11_4.out
          have lz := lt_of_heap HZ11_4.out
          go_simp
          obtain ⟨X5, hX⟩ : ∃ X, X = ((X4.setCell ⟨bk11, 0, none⟩ (.int .i64 lim)).setCell ⟨bk11, 1, none⟩ (.slice (some ⟨gf, 0, none⟩) M.length cf)) := ⟨_, rfl⟩
          have RB5 : Hid (Below W8.heap.size W8 X5) := Lib.hid (by rw [hX]; exact ((RB4.out.setCell HG11.out _).setCell HG11.out _))
          have HZ11_5 : Hid (X5.heap[bk11]? = some (.cells #[.int .i64 lim, .slice (some ⟨gf, 0, none⟩) M.length cf] 30 (0, 0))) := Lib.hid (by rw [hX]; exact set2_at HZ11_4.out _ _)
          have HZ12_5 : Hid (X5.heap[bk12]? = some (.cells #[.int .i64 0, .bool false, .int .u64 0] 36 (0, 0))) := Lib.hid (by rw [hX]; exact set2_far (by have := HD_11_12; omega) HZ12_4.out _ _)
          have HR5 : Hid (rowAt X5 gf M ∧ gf < X5.heap.size) := Lib.hid (by rw [hX]; exact ⟨HR4.out.1.keep (set2_block _ _ _ _ _ (row_ne HR4.out.1 HPO.out z1)), by simpa [World.setCell] using HR4.out.2⟩)
          rw [← hX]
          refine hK.out _ _ ?_ (fun hHeld => ?_)
          · exact HSC.out _ RB5.out
          clear hK K hX z0 z1 zz lz
          try simp only [List.getElem_toArray, List.getElem_cons_succ, List.getElem_cons_zero, Act.put, List.setIfInBounds_toArray, List.set_cons_zero, List.set_cons_succ]
          refine wpAnyH_ready (rs := [14]) (by kernel_rfl) (by simp) ?_
          refine AllReadyH.cons rfl (fun K hK => ?_) AllReadyH.nil
          obtain ⟨z0, z1, z2⟩ : X5.cell? ⟨bk12, 0, none⟩ = some (.int .i64 0) ∧ X5.cell? ⟨bk12, 1, none⟩ = some (.bool false) ∧ X5.cell? ⟨bk12, 2, none⟩ = some (.int .u64 0) := ⟨(cell_of_row _ _ 0 _ _ _ HZ12_5.out).trans rfl, (cell_of_row _ _ 1 _ _ _ HZ12_5.out).trans rfl, (cell_of_row _ _ 2 _ _ _ HZ12_5.out).trans rfl⟩
          have zz : ∀ j, X5.frozen? ⟨bk12, j, none⟩ = false := fun j => frozen_of_row _ _ _ _ _ HZ12_5.out
          have lz := lt_of_heap HZ12_5.out
          go_simp
          obtain ⟨X6, hX⟩ : ∃ X, X = (((X5.setCell ⟨bk12, 0, none⟩ (.int .i64 dk)).setCell ⟨bk12, 1, none⟩ (.bool dh)).setCell ⟨bk12, 2, none⟩ (.int .u64 dn)) := ⟨_, rfl⟩
          have RB6 : Hid (Below W8.heap.size W8 X6) := Lib.hid (by rw [hX]; exact (((RB5.out.setCell HG12.out _).setCell HG12.out _).setCell HG12.out _))
          have HZ12_6 : Hid (X6.heap[bk12]? = some (.cells #[.int .i64 dk, .bool dh, .int .u64 dn] 36 (0, 0))) := Lib.hid (by rw [hX]; exact set3_at HZ12_5.out _ _ _)
          have HZ11_6 : Hid (X6.heap[bk11]? = some (.cells #[.int .i64 lim, .slice (some ⟨gf, 0, none⟩) M.length cf] 30 (0, 0))) := Lib.hid (by rw [hX]; exact set3_far (by have := HD_11_12; omega) HZ11_5.out _ _ _)
          have HR6 : Hid (rowAt X6 gf M ∧ gf < X6.heap.size) := Lib.hid (by rw [hX]; exact ⟨HR5.out.1.keep (set3_block _ _ _ _ _ _ (seals_rowB HR5.out.1 HPO.out z1)), by simpa [World.setCell] using HR5.out.2⟩)
          rw [← hX]
          refine hK.out _ _ ?_ (fun hHeld => ?_)
          · exact HSC.out _ RB6.out
          clear hK K hX z0 z1 z2 zz lz
          try simp only [List.getElem_toArray, List.getElem_cons_succ, List.getElem_cons_zero, Act.put, List.setIfInBounds_toArray, List.set_cons_zero, List.set_cons_succ]
          refine wpAnyH_take (i := 15) (v := ?_) rfl (by kernel_rfl) (by kernel_rfl) (by kernel_rfl) (fun _ _ _ h => h) (Or.inl ⟨by rfl, ?_⟩) (by assumption) ?_
          rotate_left
          · (intro w hSw; (try dsimp only at hSw); go_simp; try with_reducible rfl)
          try simp only [List.getElem_toArray, List.getElem_cons_succ, List.getElem_cons_zero, Act.put, List.setIfInBounds_toArray, List.set_cons_zero, List.set_cons_succ]
          refine wpAnyH_take (i := 16) (v := ?_) rfl (by kernel_rfl) (by kernel_rfl) (by kernel_rfl) (fun _ _ _ h => h) (Or.inl ⟨by rfl, ?_⟩) (by assumption) ?_
          rotate_left
          · (intro w hSw; (try dsimp only at hSw); go_simp; try with_reducible rfl)
          try simp only [List.getElem_toArray, List.getElem_cons_succ, List.getElem_cons_zero, Act.put, List.setIfInBounds_toArray, List.set_cons_zero, List.set_cons_succ]
          refine wpAnyH_done (by kernel_rfl) ?_ _
          refine NoPanic.normal ?_
          go_wp2_with fail
          go_meet
          exact ⟨bk11, bk12, gf, cf, rfl, rfl, rfl, rfl, HZ11_6.out, HZ12_6.out, RB6.out, HR6.out, HGF.out⟩
        · go_simp
          have hbn : Below v2.heap.size v2 (v2.alloc (.cells #[.int .i64 0, .bool false, .int .u64 0] 36)) := (Below.refl _ _).alloc (Nat.le_refl _) _
          refine hK.out _ _ ?_ (fun hHeld => ?_)
          · exact HSC.out _ (RB2.out.trans (hbn.mono RB2.out.size))
          clear hK K hHeld
          have hz := heap_alloc_new v2 (.cells #[.int .i64 0, .bool false, .int .u64 0] 36)
          obtain ⟨X3, hX⟩ : ∃ X, X = v2.alloc (.cells #[.int .i64 0, .bool false, .int .u64 0] 36) := ⟨_, rfl⟩
          rw [← hX] at hbn hz ⊢
          clear hX
          have RB3 := Lib.hid (RB2.out.trans (hbn.mono RB2.out.size))
          obtain ⟨bk12, hbk⟩ : ∃ k, k = v2.heap.size := ⟨_, rfl⟩
          have HG12 : Hid (W8.heap.size ≤ bk12) := Lib.hid (by rw [hbk]; exact RB2.out.size)
          have HD_11_12 : bk11 ≠ bk12 := by have := lt_of_heap HZ11_2.out; omega
          rw [← hbk] at hz ⊢
          clear hbk
          have HZ12_3 := Lib.hid hz
          have HZ11_3 := Lib.hid (below_box hbn HZ11_2.out)
          clear hz hbn
          try simp only [List.getElem_toArray, List.getElem_cons_succ, List.getElem_cons_zero, Act.put, List.setIfInBounds_toArray, List.set_cons_zero, List.set_cons_succ]
          refine wpAnyH_ready (rs := [5]) (by kernel_rfl) (by simp) ?_
          refine AllReadyH.cons rfl (fun K hK => ?_) AllReadyH.nil
          go_simp
          (refine (HRF.out _ RB3.out).mono ?_; rintro e v4 ⟨gf, cf, rfl, hrf, hlf, hbn, hgf⟩)
          go_wp2_with fail
          refine hK.out _ _ ?_ (fun hHeld => ?_)
          · exact HSC.out _ (RB3.out.trans (hbn.mono RB3.out.size))
          clear hK K
          have RB4 := Lib.hid (RB3.out.trans (hbn.mono RB3.out.size))
          have HZ11_4 := Lib.hid (below_box hbn HZ11_3.out)
          have HZ12_4 := Lib.hid (below_box hbn HZ12_3.out)
          have HR4 : Hid (rowAt v4 gf M ∧ gf < v4.heap.size) := Lib.hid ⟨hrf, hlf⟩
          have HGF : Hid (gf = gr ∨ W8.heap.size ≤ gf) := Lib.hid (hgf.imp id fun h => Nat.le_trans RB3.out.size h)
          clear hrf hlf hgf
          clear hbn
          try simp only [List.getElem_toArray, List.getElem_cons_succ, List.getElem_cons_zero, Act.put, List.setIfInBounds_toArray, List.set_cons_zero, List.set_cons_succ]
          refine wpAnyH_take (i := 6) (v := ?_) rfl (by kernel_rfl) (by kernel_rfl) (by kernel_rfl) (fun _ _ _ h => h) (Or.inl ⟨by rfl, ?_⟩) (by assumption) ?_
          rotate_left
          · (intro w hSw; (try dsimp only at hSw); go_simp; try with_reducible rfl)
          try simp only [List.getElem_toArray, List.getElem_cons_succ, List.getElem_cons_zero, Act.put, List.setIfInBounds_toArray, List.set_cons_zero, List.set_cons_succ]
          refine wpAnyH_take (i := 7) (v := ?_) rfl (by kernel_rfl) (by kernel_rfl) (by kernel_rfl) (fun _ _ _ h => h) (Or.inl ⟨by rfl, ?_⟩) (by assumption) ?_
          rotate_left
          · (intro w hSw; (try dsimp only at hSw); go_simp; try with_reducible rfl)
          try simp only [List.getElem_toArray, List.getElem_cons_succ, List.getElem_cons_zero, Act.put, List.setIfInBounds_toArray, List.set_cons_zero, List.set_cons_succ]
          refine wpAnyH_take (i := 8) (v := ?_) rfl (by kernel_rfl) (by kernel_rfl) (by kernel_rfl) (fun _ _ _ h => h) (Or.inl ⟨by rfl, ?_⟩) (by assumption) ?_
          rotate_left
          · (intro w hSw; (try dsimp only at hSw); go_simp; try with_reducible rfl)
          try simp only [List.getElem_toArray, List.getElem_cons_succ, List.getElem_cons_zero, Act.put, List.setIfInBounds_toArray, List.set_cons_zero, List.set_cons_succ]
          refine wpAnyH_take (i := 9) (v := ?_) rfl (by kernel_rfl) (by kernel_rfl) (by kernel_rfl) (fun _ _ _ h => h) (Or.inl ⟨by rfl, ?_⟩) (by assumption) ?_
          rotate_left
          · (intro w hSw; (try dsimp only at hSw); go_simp; try with_reducible rfl)
          try simp only [List.getElem_toArray, List.getElem_cons_succ, List.getElem_cons_zero, Act.put, List.setIfInBounds_toArray, List.set_cons_zero, List.set_cons_succ]
          refine wpAnyH_take (i := 10) (v := ?_) rfl (by kernel_rfl) (by kernel_rfl) (by kernel_rfl) (fun _ _ _ h => h) (Or.inl ⟨by rfl, ?_⟩) (by assumption) ?_
          rotate_left
          · (intro w hSw; (try dsimp only at hSw); go_simp; try with_reducible rfl)
          try simp only [List.getElem_toArray, List.getElem_cons_succ, List.getElem_cons_zero, Act.put, List.setIfInBounds_toArray, List.set_cons_zero, List.set_cons_succ]
          refine wpAnyH_ready (rs := [13]) (by kernel_rfl) (by simp) ?_
          refine AllReadyH.cons rfl (fun K hK => ?_) AllReadyH.nil
          obtain ⟨z0, z1⟩ : v4.cell? ⟨bk11, 0, none⟩ = some (.int .i64 0) ∧ v4.cell? ⟨bk11, 1, none⟩ = some (.slice none 0 0) := ⟨(cell_of_row _ _ 0 _ _ _ HZ11_4.out).trans rfl, (cell_of_row _ _ 1 _ _ _ HZ11_4.out).trans rfl⟩
          have zz : ∀ j, v4.frozen? ⟨bk11, j, none⟩ = false := fun j => frozen_of_row _ _ _ _ _ HZ11_4.out
          have lz := lt_of_heap HZ11_4.out
          go_simp
          obtain ⟨X5, hX⟩ : ∃ X, X = ((v4.setCell ⟨bk11, 0, none⟩ (.int .i64 lim)).setCell ⟨bk11, 1, none⟩ (.slice (some ⟨gf, 0, none⟩) M.length cf)) := ⟨_, rfl⟩
          have RB5 : Hid (Below W8.heap.size W8 X5) := Lib.hid (by rw [hX]; exact ((RB4.out.setCell HG11.out _).setCell HG11.out _))
          have HZ11_5 : Hid (X5.heap[bk11]? = some (.cells #[.int .i64 lim, .slice (some ⟨gf, 0, none⟩) M.length cf] 30 (0, 0))) := Lib.hid (by rw [hX]; exact set2_at HZ11_4.out _ _)
          have HZ12_5 : Hid (X5.heap[bk12]? = some (.cells #[.int .i64 0, .bool false, .int .u64 0] 36 (0, 0))) := Lib.hid (by rw [hX]; exact set2_far (by have := HD_11_12; omega) HZ12_4.out _ _)
          have HR5 : Hid (rowAt X5 gf M ∧ gf < X5.heap.size) := Lib.hid (by rw [hX]; exact ⟨HR4.out.1.keep (set2_block _ _ _ _ _ (row_ne HR4.out.1 HPO.out z1)), by simpa [World.setCell] using HR4.out.2⟩)
          rw [← hX]
          refine hK.out _ _ ?_ (fun hHeld => ?_)
          · exact HSC.out _ RB5.out
          clear hK K hX z0 z1 zz lz
          try simp only [List.getElem_toArray, List.getElem_cons_succ, List.getElem_cons_zero, Act.put, List.setIfInBounds_toArray, List.set_cons_zero, List.set_cons_succ]
          refine wpAnyH_ready (rs := [14]) (by kernel_rfl) (by simp) ?_
          refine AllReadyH.cons rfl (fun K hK => ?_) AllReadyH.nil
          obtain ⟨z0, z1, z2⟩ : X5.cell? ⟨bk12, 0, none⟩ = some (.int .i64 0) ∧ X5.cell? ⟨bk12, 1, none⟩ = some (.bool false) ∧ X5.cell? ⟨bk12, 2, none⟩ = some (.int .u64 0) := ⟨(cell_of_row _ _ 0 _ _ _ HZ12_5.out).trans rfl, (cell_of_row _ _ 1 _ _ _ HZ12_5.out).trans rfl, (cell_of_row _ _ 2 _ _ _ HZ12_5.out).trans rfl⟩
          have zz : ∀ j, X5.frozen? ⟨bk12, j, none⟩ = false := fun j => frozen_of_row _ _ _ _ _ HZ12_5.out
          have lz := lt_of_heap HZ12_5.out
          go_simp
          obtain ⟨X6, hX⟩ : ∃ X, X = (((X5.setCell ⟨bk12, 0, none⟩ (.int .i64 dk)).setCell ⟨bk12, 1, none⟩ (.bool dh)).setCell ⟨bk12, 2, none⟩ (.int .u64 dn)) := ⟨_, rfl⟩
          have RB6 : Hid (Below W8.heap.size W8 X6) := Lib.hid (by rw [hX]; exact (((RB5.out.setCell HG12.out _).setCell HG12.out _).setCell HG12.out _))
          have HZ12_6 : Hid (X6.heap[bk12]? = some (.cells #[.int .i64 dk, .bool dh, .int .u64 dn] 36 (0, 0))) := Lib.hid (by rw [hX]; exact set3_at HZ12_5.out _ _ _)
          have HZ11_6 : Hid (X6.heap[bk11]? = some (.cells #[.int .i64 lim, .slice (some ⟨gf, 0, none⟩) M.length cf] 30 (0, 0))) := Lib.hid (by rw [hX]; exact set3_far (by have := HD_11_12; omega) HZ11_5.out _ _ _)
          have HR6 : Hid (rowAt X6 gf M ∧ gf < X6.heap.size) := Lib.hid (by rw [hX]; exact ⟨HR5.out.1.keep (set3_block _ _ _ _ _ _ (seals_rowB HR5.out.1 HPO.out z1)), by simpa [World.setCell] using HR5.out.2⟩)
          rw [← hX]
          refine hK.out _ _ ?_ (fun hHeld => ?_)
          · exact HSC.out _ RB6.out
          clear hK K hX z0 z1 z2 zz lz
          try simp only [List.getElem_toArray, List.getElem_cons_succ, List.getElem_cons_zero, Act.put, List.setIfInBounds_toArray, List.set_cons_zero, List.set_cons_succ]
          refine wpAnyH_take (i := 15) (v := ?_) rfl (by kernel_rfl) (by kernel_rfl) (by kernel_rfl) (fun _ _ _ h => h) (Or.inl ⟨by rfl, ?_⟩) (by assumption) ?_
          rotate_left
          · (intro w hSw; (try dsimp only at hSw); go_simp; try with_reducible rfl)
          try simp only [List.getElem_toArray, List.getElem_cons_succ, List.getElem_cons_zero, Act.put, List.setIfInBounds_toArray, List.set_cons_zero, List.set_cons_succ]
          refine wpAnyH_take (i := 16) (v := ?_) rfl (by kernel_rfl) (by kernel_rfl) (by kernel_rfl) (fun _ _ _ h => h) (Or.inl ⟨by rfl, ?_⟩) (by assumption) ?_
          rotate_left
          · (intro w hSw; (try dsimp only at hSw); go_simp; try with_reducible rfl)
          try simp only [List.getElem_toArray, List.getElem_cons_succ, List.getElem_cons_zero, Act.put, List.setIfInBounds_toArray, List.set_cons_zero, List.set_cons_succ]
          refine wpAnyH_done (by kernel_rfl) ?_ _
          refine NoPanic.normal ?_
          go_wp2_with fail
          go_meet
          exact ⟨bk11, bk12, gf, cf, rfl, rfl, rfl, rfl, HZ11_6.out, HZ12_6.out, RB6.out, HR6.out, HGF.out⟩
      · go_simp
        have hbn : Below X1.heap.size X1 (X1.alloc (.cells #[.int .i64 0, .bool false, .int .u64 0] 36)) := (Below.refl _ _).alloc (Nat.le_refl _) _
        refine hK.out _ _ ?_ (fun hHeld => ?_)
        · exact HSC.out _ (RB1.out.trans (hbn.mono RB1.out.size))
        clear hK K hHeld
        have hz := heap_alloc_new X1 (.cells #[.int .i64 0, .bool false, .int .u64 0] 36)
        obtain ⟨X2, hX⟩ : ∃ X, X = X1.alloc (.cells #[.int .i64 0, .bool false, .int .u64 0] 36) := ⟨_, rfl⟩
        rw [← hX] at hbn hz ⊢
        clear hX
        have RB2 := Lib.hid (RB1.out.trans (hbn.mono RB1.out.size))
        obtain ⟨bk12, hbk⟩ : ∃ k, k = X1.heap.size := ⟨_, rfl⟩
        have HG12 : Hid (W8.heap.size ≤ bk12) := Lib.hid (by rw [hbk]; exact RB1.out.size)
        have HD_11_12 : bk11 ≠ bk12 := by have := lt_of_heap HZ11_1.out; omega
        rw [← hbk] at hz ⊢
        clear hbk
        have HZ12_2 := Lib.hid hz
        have HZ11_2 := Lib.hid (below_box hbn HZ11_1.out)
        clear hz hbn
        try simp only [List.getElem_toArray, List.getElem_cons_succ, List.getElem_cons_zero, Act.put, List.setIfInBounds_toArray, List.set_cons_zero, List.set_cons_succ]
        refine wpAnyH_ready (rs := [2]) (by kernel_rfl) (by simp) ?_
        refine AllReadyH.cons rfl (fun K hK => ?_) AllReadyH.nil
        go_simp
        (refine (HOF.out _).mono ?_; rintro e v3 ⟨rfl, hbn⟩)
        go_wp2_with fail
        refine hK.out _ _ ?_ (fun hHeld => ?_)
        · exact HSC.out _ (RB2.out.trans (hbn.mono RB2.out.size))
        clear hK K
        have RB3 := Lib.hid (RB2.out.trans (hbn.mono RB2.out.size))
        have HZ11_3 := Lib.hid (below_box hbn HZ11_2.out)
        have HZ12_3 := Lib.hid (below_box hbn HZ12_2.out)
        clear hbn
        try simp only [List.getElem_toArray, List.getElem_cons_succ, List.getElem_cons_zero, Act.put, List.setIfInBounds_toArray, List.set_cons_zero, List.set_cons_succ]
        refine wpAnyH_ready (rs := [5]) (by kernel_rfl) (by simp) ?_
        refine AllReadyH.cons rfl (fun K hK => ?_) AllReadyH.nil
        go_simp
        (refine (HRF.out _ RB3.out).mono ?_; rintro e v4 ⟨gf, cf, rfl, hrf, hlf, hbn, hgf⟩)
        go_wp2_with fail
        refine hK.out _ _ ?_ (fun hHeld => ?_)
        · exact HSC.out _ (RB3.out.trans (hbn.mono RB3.out.size))
        clear hK K
        have RB4 := Lib.hid (RB3.out.trans (hbn.mono RB3.out.size))
        have HZ11_4 := Lib.hid (below_box hbn HZ11_3.out)
        have HZ12_4 := Lib.hid (below_box hbn HZ12_3.out)
        have HR4 : Hid (rowAt v4 gf M ∧ gf < v4.heap.size) := Lib.hid ⟨hrf, hlf⟩
        have HGF : Hid (gf = gr ∨ W8.heap.size ≤ gf) := Lib.hid (hgf.imp id fun h => Nat.le_trans RB3.out.size h)
        clear hrf hlf hgf
        clear hbn
        try simp only [List.getElem_toArray, List.getElem_cons_succ, List.getElem_cons_zero, Act.put, List.setIfInBounds_toArray, List.set_cons_zero, List.set_cons_succ]
        refine wpAnyH_take (i := 6) (v := ?_) rfl (by kernel_rfl) (by kernel_rfl) (by kernel_rfl) (fun _ _ _ h => h) (Or.inl ⟨by rfl, ?_⟩) (by assumption) ?_
        rotate_left
        · (intro w hSw; (try dsimp only at hSw); go_simp; try with_reducible rfl)
        try simp only [List.getElem_toArray, List.getElem_cons_succ, List.getElem_cons_zero, Act.put, List.setIfInBounds_toArray, List.set_cons_zero, List.set_cons_succ]
        refine wpAnyH_take (i := 7) (v := ?_) rfl (by kernel_rfl) (by kernel_rfl) (by kernel_rfl) (fun _ _ _ h => h) (Or.inl ⟨by rfl, ?_⟩) (by assumption) ?_
        rotate_left
        · (intro w hSw; (try dsimp only at hSw); go_simp; try with_reducible rfl)
        try simp only [List.getElem_toArray, List.getElem_cons_succ, List.getElem_cons_zero, Act.put, List.setIfInBounds_toArray, List.set_cons_zero, List.set_cons_succ]
        refine wpAnyH_take (i := 8) (v := ?_) rfl (by kernel_rfl) (by kernel_rfl) (by kernel_rfl) (fun _ _ _ h => h) (Or.inl ⟨by rfl, ?_⟩) (by assumption) ?_
        rotate_left
        · (intro w hSw; (try dsimp only at hSw); go_simp; try with_reducible rfl)
        try simp only [List.getElem_toArray, List.getElem_cons_succ, List.getElem_cons_zero, Act.put, List.setIfInBounds_toArray, List.set_cons_zero, List.set_cons_succ]
        refine wpAnyH_take (i := 9) (v := ?_) rfl (by kernel_rfl) (by kernel_rfl) (by kernel_rfl) (fun _ _ _ h => h) (Or.inl ⟨by rfl, ?_⟩) (by assumption) ?_
        rotate_left
        · (intro w hSw; (try dsimp only at hSw); go_simp; try with_reducible rfl)
        try simp only [List.getElem_toArray, List.getElem_cons_succ, List.getElem_cons_zero, Act.put, List.setIfInBounds_toArray, List.set_cons_zero, List.set_cons_succ]
        refine wpAnyH_take (i := 10) (v := ?_) rfl (by kernel_rfl) (by kernel_rfl) (by kernel_rfl) (fun _ _ _ h => h) (Or.inl ⟨by rfl, ?_⟩) (by assumption) ?_
        rotate_left
        · (intro w hSw; (try dsimp only at hSw); go_simp; try with_reducible rfl)
        try simp only [List.getElem_toArray, List.getElem_cons_succ, List.getElem_cons_zero, Act.put, List.setIfInBounds_toArray, List.set_cons_zero, List.set_cons_succ]
        refine wpAnyH_ready (rs := [13]) (by kernel_rfl) (by simp) ?_
        refine AllReadyH.cons rfl (fun K hK => ?_) AllReadyH.nil
        obtain ⟨z0, z1⟩ : v4.cell? ⟨bk11, 0, none⟩ = some (.int .i64 0) ∧ v4.cell? ⟨bk11, 1, none⟩ = some (.slice none 0 0) := ⟨(cell_of_row _ _ 0 _ _ _ HZ11_4.out).trans rfl, (cell_of_row _ _ 1 _ _ _ HZ11_4.out).trans rfl⟩
        have zz : ∀ j, v4.frozen? ⟨bk11, j, none⟩ = false := fun j => frozen_of_row _ _ _ _ _ HZ11_4.out
        have lz := lt_of_heap HZ11_4.out
        go_simp
        obtain ⟨X5, hX⟩ : ∃ X, X = ((v4.setCell ⟨bk11, 0, none⟩ (.int .i64 lim)).setCell ⟨bk11, 1, none⟩ (.slice (some ⟨gf, 0, none⟩) M.length cf)) := ⟨_, rfl⟩
        have RB5 : Hid (Below W8.heap.size W8 X5) := Lib.hid (by rw [hX]; exact ((RB4.out.setCell HG11.out _).setCell HG11.out _))
        have HZ11_5 : Hid (X5.heap[bk11]? = some (.cells #[.int .i64 lim, .slice (some ⟨gf, 0, none⟩) M.length cf] 30 (0, 0))) := Lib.hid (by rw [hX]; exact set2_at HZ11_4.out _ _)
        have HZ12_5 : Hid (X5.heap[bk12]? = some (.cells #[.int .i64 0, .bool false, .int .u64 0] 36 (0, 0))) := Lib.hid (by rw [hX]; exact set2_far (by have := HD_11_12; omega) HZ12_4.out _ _)
        have HR5 : Hid (rowAt X5 gf M ∧ gf < X5.heap.size) := Lib.hid (by rw [hX]; exact ⟨HR4.out.1.keep (set2_block _ _ _ _ _ (row_ne HR4.out.1 HPO.out z1)), by simpa [World.setCell] using HR4.out.2⟩)
        rw [← hX]
        refine hK.out _ _ ?_ (fun hHeld => ?_)
        · exact HSC.out _ RB5.out
        clear hK K hX z0 z1 zz lz
        try simp only [List.getElem_toArray, List.getElem_cons_succ, List.getElem_cons_zero, Act.put, List.setIfInBounds_toArray, List.set_cons_zero, List.set_cons_succ]
        refine wpAnyH_ready (rs := [14]) (by kernel_rfl) (by simp) ?_
        refine AllReadyH.cons rfl (fun K hK => ?_) AllReadyH.nil
        obtain ⟨z0, z1, z2⟩ : X5.cell? ⟨bk12, 0, none⟩ = some (.int .i64 0) ∧ X5.cell? ⟨bk12, 1, none⟩ = some (.bool false) ∧ X5.cell? ⟨bk12, 2, none⟩ = some (.int .u64 0) := ⟨(cell_of_row _ _ 0 _ _ _ HZ12_5.out).trans rfl, (cell_of_row _ _ 1 _ _ _ HZ12_5.out).trans rfl, (cell_of_row _ _ 2 _ _ _ HZ12_5.out).trans rfl⟩
        have zz : ∀ j, X5.frozen? ⟨bk12, j, none⟩ = false := fun j => frozen_of_row _ _ _ _ _ HZ12_5.out
        have lz := lt_of_heap HZ12_5.out
        go_simp
        obtain ⟨X6, hX⟩ : ∃ X, X = (((X5.setCell ⟨bk12, 0, none⟩ (.int .i64 dk)).setCell ⟨bk12, 1, none⟩ (.bool dh)).setCell ⟨bk12, 2, none⟩ (.int .u64 dn)) := ⟨_, rfl⟩
        have RB6 : Hid (Below W8.heap.size W8 X6) := Lib.hid (by rw [hX]; exact (((RB5.out.setCell HG12.out _).setCell HG12.out _).setCell HG12.out _))
        have HZ12_6 : Hid (X6.heap[bk12]? = some (.cells #[.int .i64 dk, .bool dh, .int .u64 dn] 36 (0, 0))) := Lib.hid (by rw [hX]; exact set3_at HZ12_5.out _ _ _)
        have HZ11_6 : Hid (X6.heap[bk11]? = some (.cells #[.int .i64 lim, .slice (some ⟨gf, 0, none⟩) M.length cf] 30 (0, 0))) := Lib.hid (by rw [hX]; exact set3_far (by have := HD_11_12; omega) HZ11_5.out _ _ _)
        have HR6 : Hid (rowAt X6 gf M ∧ gf < X6.heap.size) := Lib.hid (by rw [hX]; exact ⟨HR5.out.1.keep (set3_block _ _ _ _ _ _ (seals_rowB HR5.out.1 HPO.out z1)), by simpa [World.setCell] using HR5.out.2⟩)
        rw [← hX]
        refine hK.out _ _ ?_ (fun hHeld => ?_)
        · exact HSC.out _ RB6.out
        clear hK K hX z0 z1 z2 zz lz
        try simp only [List.getElem_toArray, List.getElem_cons_succ, List.getElem_cons_zero, Act.put, List.setIfInBounds_toArray, List.set_cons_zero, List.set_cons_succ]
        refine wpAnyH_take (i := 15) (v := ?_) rfl (by kernel_rfl) (by kernel_rfl) (by kernel_rfl) (fun _ _ _ h => h) (Or.inl ⟨by rfl, ?_⟩) (by assumption) ?_
        rotate_left
        · (intro w hSw; (try dsimp only at hSw); go_simp; try with_reducible rfl)
        try simp only [List.getElem_toArray, List.getElem_cons_succ, List.getElem_cons_zero, Act.put, List.setIfInBounds_toArray, List.set_cons_zero, List.set_cons_succ]
        refine wpAnyH_take (i := 16) (v := ?_) rfl (by kernel_rfl) (by kernel_rfl) (by kernel_rfl) (fun _ _ _ h => h) (Or.inl ⟨by rfl, ?_⟩) (by assumption) ?_
        rotate_left
        · (intro w hSw; (try dsimp only at hSw); go_simp; try with_reducible rfl)
        try simp only [List.getElem_toArray, List.getElem_cons_succ, List.getElem_cons_zero, Act.put, List.setIfInBounds_toArray, List.set_cons_zero, List.set_cons_succ]
        refine wpAnyH_done (by kernel_rfl) ?_ _
        refine NoPanic.normal ?_
        go_wp2_with fail
        go_meet
        exact ⟨bk11, bk12, gf, cf, rfl, rfl, rfl, rfl, HZ11_6.out, HZ12_6.out, RB6.out, HR6.out, HGF.out⟩
    · go_simp
      have hbn : Below X0.heap.size X0 (X0.alloc (.cells #[.int .i64 0, .bool false, .int .u64 0] 36)) := (Below.refl _ _).alloc (Nat.le_refl _) _
      refine hK.out _ _ ?_ (fun hHeld => ?_)
      · exact HSC.out _ (RB0.out.trans (hbn.mono RB0.out.size))
      clear hK K hHeld
      have hz := heap_alloc_new X0 (.cells #[.int .i64 0, .bool false, .int .u64 0] 36)
      obtain ⟨X1, hX⟩ : ∃ X, X = X0.alloc (.cells #[.int .i64 0, .bool false, .int .u64 0] 36) := ⟨_, rfl⟩
      rw [← hX] at hbn hz ⊢
      clear hX
      have RB1 := Lib.hid (RB0.out.trans (hbn.mono RB0.out.size))
      obtain ⟨bk12, hbk⟩ : ∃ k, k = X0.heap.size := ⟨_, rfl⟩
      have HG12 : Hid (W8.heap.size ≤ bk12) := Lib.hid (by rw [hbk]; exact RB0.out.size)
      rw [← hbk] at hz ⊢
      clear hbk
      have HZ12_1 := Lib.hid hz
      clear hz hbn
      try simp only [List.getElem_toArray, List.getElem_cons_succ, List.getElem_cons_zero, Act.put, List.setIfInBounds_toArray, List.set_cons_zero, List.set_cons_succ]
      refine wpAnyH_ready (rs := [2, 11]) (by kernel_rfl) (by simp) ?_
      refine AllReadyH.cons rfl (fun K hK => ?_) (AllReadyH.cons rfl (fun K hK => ?_) AllReadyH.nil)
      · go_simp
        (refine (HOF.out _).mono ?_; rintro e v2 ⟨rfl, hbn⟩)
        go_wp2_with fail
        refine hK.out _ _ ?_ (fun hHeld => ?_)
        · exact HSC.out _ (RB1.out.trans (hbn.mono RB1.out.size))
        clear hK K
        have RB2 := Lib.hid (RB1.out.trans (hbn.mono RB1.out.size))
        have HZ12_2 := Lib.hid (below_box hbn HZ12_1.out)
        clear hbn
        try simp only [List.getElem_toArray, List.getElem_cons_succ, List.getElem_cons_zero, Act.put, List.setIfInBounds_toArray, List.set_cons_zero, List.set_cons_succ]
        refine wpAnyH_ready (rs := [5, 11]) (by kernel_rfl) (by simp) ?_
        refine AllReadyH.cons rfl (fun K hK => ?_) (AllReadyH.cons rfl (fun K hK => ?_) AllReadyH.nil)
        · go_simp
          (refine (HRF.out _ RB2.out).mono ?_; rintro e v3 ⟨gf, cf, rfl, hrf, hlf, hbn, hgf⟩)
          go_wp2_with fail
          refine hK.out _ _ ?_ (fun hHeld => ?_)
          · exact HSC.out _ (RB2.out.trans (hbn.mono RB2.out.size))
          clear hK K
          have RB3 := Lib.hid (RB2.out.trans (hbn.mono RB2.out.size))
          have HZ12_3 := Lib.hid (below_box hbn HZ12_2.out)
          have HR3 : Hid (rowAt v3 gf M ∧ gf < v3.heap.size) := Lib.hid ⟨hrf, hlf⟩
          have HGF : Hid (gf = gr ∨ W8.heap.size ≤ gf) := Lib.hid (hgf.imp id fun h => Nat.le_trans RB2.out.size h)
          clear hrf hlf hgf
          clear hbn
          try simp only [List.getElem_toArray, List.getElem_cons_succ, List.getElem_cons_zero, Act.put, List.setIfInBounds_toArray, List.set_cons_zero, List.set_cons_succ]
          refine wpAnyH_take (i := 6) (v := ?_) rfl (by kernel_rfl) (by kernel_rfl) (by kernel_rfl) (fun _ _ _ h => h) (Or.inl ⟨by rfl, ?_⟩) (by assumption) ?_
          rotate_left
          · (intro w hSw; (try dsimp only at hSw); go_simp; try with_reducible rfl)
          try simp only [List.getElem_toArray, List.getElem_cons_succ, List.getElem_cons_zero, Act.put, List.setIfInBounds_toArray, List.set_cons_zero, List.set_cons_succ]
          refine wpAnyH_take (i := 7) (v := ?_) rfl (by kernel_rfl) (by kernel_rfl) (by kernel_rfl) (fun _ _ _ h => h) (Or.inl ⟨by rfl, ?_⟩) (by assumption) ?_
          rotate_left
          · (intro w hSw; (try dsimp only at hSw); go_simp; try with_reducible rfl)
          try simp only [List.getElem_toArray, List.getElem_cons_succ, List.getElem_cons_zero, Act.put, List.setIfInBounds_toArray, List.set_cons_zero, List.set_cons_succ]
          refine wpAnyH_take (i := 8) (v := ?_) rfl (by kernel_rfl) (by kernel_rfl) (by kernel_rfl) (fun _ _ _ h => h) (Or.inl ⟨by rfl, ?_⟩) (by assumption) ?_
          rotate_left
          · (intro w hSw; (try dsimp only at hSw); go_simp; try with_reducible rfl)
          try simp only [List.getElem_toArray, List.getElem_cons_succ, List.getElem_cons_zero, Act.put, List.setIfInBounds_toArray, List.set_cons_zero, List.set_cons_succ]
          refine wpAnyH_take (i := 9) (v := ?_) rfl (by kernel_rfl) (by kernel_rfl) (by kernel_rfl) (fun _ _ _ h => h) (Or.inl ⟨by rfl, ?_⟩) (by assumption) ?_
          rotate_left
          · (intro w hSw; (try dsimp only at hSw); go_simp; try with_reducible rfl)
          try simp only [List.getElem_toArray, List.getElem_cons_succ, List.getElem_cons_zero, Act.put, List.setIfInBounds_toArray, List.set_cons_zero, List.set_cons_succ]
          refine wpAnyH_take (i := 10) (v := ?_) rfl (by kernel_rfl) (by kernel_rfl) (by kernel_rfl) (fun _ _ _ h => h) (Or.inl ⟨by rfl, ?_⟩) (by assumption) ?_
          rotate_left
          · (intro w hSw; (try dsimp only at hSw); go_simp; try with_reducible rfl)
          try simp only [List.getElem_toArray, List.getElem_cons_succ, List.getElem_cons_zero, Act.put, List.setIfInBounds_toArray, List.set_cons_zero, List.set_cons_succ]
          refine wpAnyH_ready (rs := [11]) (by kernel_rfl) (by simp) ?_
          refine AllReadyH.cons rfl (fun K hK => ?_) AllReadyH.nil
          go_simp
          have hbn : Below v3.heap.size v3 (v3.alloc (.cells #[.int .i64 0, .slice none 0 0] 30)) := (Below.refl _ _).alloc (Nat.le_refl _) _
          refine hK.out _ _ ?_ (fun hHeld => ?_)
          · exact HSC.out _ (RB3.out.trans (hbn.mono RB3.out.size))
          clear hK K hHeld
          have hz := heap_alloc_new v3 (.cells #[.int .i64 0, .slice none 0 0] 30)
          obtain ⟨X4, hX⟩ : ∃ X, X = v3.alloc (.cells #[.int .i64 0, .slice none 0 0] 30) := ⟨_, rfl⟩
          rw [← hX] at hbn hz ⊢
          clear hX
          have RB4 := Lib.hid (RB3.out.trans (hbn.mono RB3.out.size))
          obtain ⟨bk11, hbk⟩ : ∃ k, k = v3.heap.size := ⟨_, rfl⟩
          have HG11 : Hid (W8.heap.size ≤ bk11) := Lib.hid (by rw [hbk]; exact RB3.out.size)
          have HD_11_12 : bk11 ≠ bk12 := by have := lt_of_heap HZ12_3.out; omega
          rw [← hbk] at hz ⊢
          clear hbk
          have HZ11_4 := Lib.hid hz
          have HZ12_4 := Lib.hid (below_box hbn HZ12_3.out)
          have HR4 : Hid (rowAt X4 gf M ∧ gf < X4.heap.size) := Lib.hid ⟨HR3.out.1.keep (hbn.block _ HR3.out.2), Nat.lt_of_lt_of_le HR3.out.2 hbn.size⟩
          clear hz hbn
          try simp only [List.getElem_toArray, List.getElem_cons_succ, List.getElem_cons_zero, Act.put, List.setIfInBounds_toArray, List.set_cons_zero, List.set_cons_succ]
          refine wpAnyH_ready (rs := [13]) (by kernel_rfl) (by simp) ?_
          refine AllReadyH.cons rfl (fun K hK => ?_) AllReadyH.nil
          obtain ⟨z0, z1⟩ : X4.cell? ⟨bk11, 0, none⟩ = some (.int .i64 0) ∧ X4.cell? ⟨bk11, 1, none⟩ = some (.slice none 0 0) := ⟨(cell_of_row _ _ 0 _ _ _ HZ11_4.out).trans rfl, (cell_of_row _ _ 1 _ _ _ HZ11_4.out).trans rfl⟩
          have zz : ∀ j, X4.frozen? ⟨bk11, j, none⟩ = false := fun j => frozen_of_row _ _ _ _ _ HZ11_4.out
          have lz := lt_of_heap HZ11_4.out
          go_simp
          obtain ⟨X5, hX⟩ : ∃ X, X = ((X4.setCell ⟨bk11, 0, none⟩ (.int .i64 lim)).setCell ⟨bk11, 1, none⟩ (.slice (some ⟨gf, 0, none⟩) M.length cf)) := ⟨_, rfl⟩
          have RB5 : Hid (Below W8.heap.size W8 X5) := Lib.hid (by rw [hX]; exact ((RB4.out.setCell HG11.out _).setCell HG11.out _))
          have HZ11_5 : Hid (X5.heap[bk11]? = some (.cells #[.int .i64 lim, .slice (some ⟨gf, 0, none⟩) M.length cf] 30 (0, 0))) := Lib.hid (by rw [hX]; exact set2_at HZ11_4.out _ _)
          have HZ12_5 : Hid (X5.heap[bk12]? = some (.cells #[.int .i64 0, .bool false, .int .u64 0] 36 (0, 0))) := Lib.hid (by rw [hX]; exact set2_far (by have := HD_11_12; omega) HZ12_4.out _ _)
          have HR5 : Hid (rowAt X5 gf M ∧ gf < X5.heap.size) := Lib.hid (by rw [hX]; exact ⟨HR4.out.1.keep (set2_block _ _ _ _ _ (row_ne HR4.out.1 HPO.out z1)), by simpa [World.setCell] using HR4.out.2⟩)
          rw [← hX]
          refine hK.out _ _ ?_ (fun hHeld => ?_)
          · exact HSC.out _ RB5.out
          clear hK K hX z0 z1 zz lz
          try simp only [List.getElem_toArray, List.getElem_cons_succ, List.getElem_cons_zero, Act.put, List.setIfInBounds_toArray, List.set_cons_zero, List.set_cons_succ]
          refine wpAnyH_ready (rs := [14]) (by kernel_rfl) (by simp) ?_
          refine AllReadyH.cons rfl (fun K hK => ?_) AllReadyH.nil
          obtain ⟨z0, z1, z2⟩ : X5.cell? ⟨bk12, 0, none⟩ = some (.int .i64 0) ∧ X5.cell? ⟨bk12, 1, none⟩ = some (.bool false) ∧ X5.cell? ⟨bk12, 2, none⟩ = some (.int .u64 0) := ⟨(cell_of_row _ _ 0 _ _ _ HZ12_5.out).trans rfl, (cell_of_row _ _ 1 _ _ _ HZ12_5.out).trans rfl, (cell_of_row _ _ 2 _ _ _ HZ12_5.out).trans rfl⟩
          have zz : ∀ j, X5.frozen? ⟨bk12, j, none⟩ = false := fun j => frozen_of_row _ _ _ _ _ HZ12_5.out
          have lz := lt_of_heap HZ12_5.out
          go_simp
          obtain ⟨X6, hX⟩ : ∃ X, X = (((X5.setCell ⟨bk12, 0, none⟩ (.int .i64 dk)).setCell ⟨bk12, 1, none⟩ (.bool dh)).setCell ⟨bk12, 2, none⟩ (.int .u64 dn)) := ⟨_, rfl⟩
          have RB6 : Hid (Below W8.heap.size W8 X6) := Lib.hid (by rw [hX]; exact (((RB5.out.setCell HG12.out _).setCell HG12.out _).setCell HG12.out _))
          have HZ12_6 : Hid (X6.heap[bk12]? = some (.cells #[.int .i64 dk, .bool dh, .int .u64 dn] 36 (0, 0))) := Lib.hid (by rw [hX]; exact set3_at HZ12_5.out _ _ _)
          have HZ11_6 : Hid (X6.heap[bk11]? = some (.cells #[.int .i64 lim, .slice (some ⟨gf, 0, none⟩) M.length cf] 30 (0, 0))) := Lib.hid (by rw [hX]; exact set3_far (by have := HD_11_12; omega) HZ11_5.out _ _ _)
          have HR6 : Hid (rowAt X6 gf M ∧ gf < X6.heap.size) := Lib.hid (by rw [hX]; exact ⟨HR5.out.1.keep (set3_block _ _ _ _ _ _ (seals_rowB HR5.out.1 HPO.out z1)), by simpa [World.setCell] using HR5.out.2⟩)
          rw [← hX]
          refine hK.out _ _ ?_ (fun hHeld => ?_)
          · exact HSC.out _ RB6.out
          clear hK K hX z0 z1 z2 zz lz
          try simp only [List.getElem_toArray, List.getElem_cons_succ, List.getElem_cons_zero, Act.put, List.setIfInBounds_toArray, List.set_cons_zero, List.set_cons_succ]
          refine wpAnyH_take (i := 15) (v := ?_) rfl (by kernel_rfl) (by kernel_rfl) (by kernel_rfl) (fun _ _ _ h => h) (Or.inl ⟨by rfl, ?_⟩) (by assumption) ?_
          rotate_left
          · (intro w hSw; (try dsimp only at hSw); go_simp; try with_reducible rfl)
          try simp only [List.getElem_toArray, List.getElem_cons_succ, List.getElem_cons_zero, Act.put, List.setIfInBounds_toArray, List.set_cons_zero, List.set_cons_succ]
          refine wpAnyH_take (i := 16) (v := ?_) rfl (by kernel_rfl) (by kernel_rfl) (by kernel_rfl) (fun _ _ _ h => h) (Or.inl ⟨by rfl, ?_⟩) (by assumption) ?_
          rotate_left
          · (intro w hSw; (try dsimp only at hSw); go_simp; try with_reducible rfl)
          try simp only [List.getElem_toArray, List.getElem_cons_succ, List.getElem_cons_zero, Act.put, List.setIfInBounds_toArray, List.set_cons_zero, List.set_cons_succ]
          refine wpAnyH_done (by kernel_rfl) ?_ _
          refine NoPanic.normal ?_
          go_wp2_with fail
          go_meet
          exact ⟨bk11, bk12, gf, cf, rfl, rfl, rfl, rfl, HZ11_6.out, HZ12_6.out, RB6.out, HR6.out, HGF.out⟩
        · go_simp
          have hbn : Below v2.heap.size v2 (v2.alloc (.cells #[.int .i64 0, .slice none 0 0] 30)) := (Below.refl _ _).alloc (Nat.le_refl _) _
          refine hK.out _ _ ?_ (fun hHeld => ?_)
          · exact HSC.out _ (RB2.out.trans (hbn.mono RB2.out.size))
          clear hK K hHeld
          have hz := heap_alloc_new v2 (.cells #[.int .i64 0, .slice none 0 0] 30)
          obtain ⟨X3, hX⟩ : ∃ X, X = v2.alloc (.cells #[.int .i64 0, .slice none 0 0] 30) := ⟨_, rfl⟩
          rw [← hX] at hbn hz ⊢
          clear hX
          have RB3 := Lib.hid (RB2.out.trans (hbn.mono RB2.out.size))
          obtain ⟨bk11, hbk⟩ : ∃ k, k = v2.heap.size := ⟨_, rfl⟩
          have HG11 : Hid (W8.heap.size ≤ bk11) := Lib.hid (by rw [hbk]; exact RB2.out.size)
          have HD_11_12 : bk11 ≠ bk12 := by have := lt_of_heap HZ12_2.out; omega
          rw [← hbk] at hz ⊢
          clear hbk
          have HZ11_3 := Lib.hid hz
          have HZ12_3 := Lib.hid (below_box hbn HZ12_2.out)
          clear hz hbn
          try simp only [List.getElem_toArray, List.getElem_cons_succ, List.getElem_cons_zero, Act.put, List.setIfInBounds_toArray, List.set_cons_zero, List.set_cons_succ]
          refine wpAnyH_ready (rs := [5]) (by kernel_rfl) (by simp) ?_
          refine AllReadyH.cons rfl (fun K hK => ?_) AllReadyH.nil
          go_simp
          (refine (HRF.out _ RB3.out).mono ?_; rintro e v4 ⟨gf, cf, rfl, hrf, hlf, hbn, hgf⟩)
          go_wp2_with fail
          refine hK.out _ _ ?_ (fun hHeld => ?_)
          · exact HSC.out _ (RB3.out.trans (hbn.mono RB3.out.size))
          clear hK K
          have RB4 := Lib.hid (RB3.out.trans (hbn.mono RB3.out.size))
          have HZ11_4 := Lib.hid (below_box hbn HZ11_3.out)
          have HZ12_4 := Lib.hid (below_box hbn HZ12_3.out)
          have HR4 : Hid (rowAt v4 gf M ∧ gf < v4.heap.size) := Lib.hid ⟨hrf, hlf⟩
          have HGF : Hid (gf = gr ∨ W8.heap.size ≤ gf) := Lib.hid (hgf.imp id fun h => Nat.le_trans RB3.out.size h)
          clear hrf hlf hgf
          clear hbn
          try simp only [List.getElem_toArray, List.getElem_cons_succ, List.getElem_cons_zero, Act.put, List.setIfInBounds_toArray, List.set_cons_zero, List.set_cons_succ]
          refine wpAnyH_take (i := 6) (v := ?_) rfl (by kernel_rfl) (by kernel_rfl) (by kernel_rfl) (fun _ _ _ h => h) (Or.inl ⟨by rfl, ?_⟩) (by assumption) ?_
          rotate_left
          · (intro w hSw; (try dsimp only at hSw); go_simp; try with_reducible rfl)
          try simp only [List.getElem_toArray, List.getElem_cons_succ, List.getElem_cons_zero, Act.put, List.setIfInBounds_toArray, List.set_cons_zero, List.set_cons_succ]
          refine wpAnyH_take (i := 7) (v := ?_) rfl (by kernel_rfl) (by kernel_rfl) (by kernel_rfl) (fun _ _ _ h => h) (Or.inl ⟨by rfl, ?_⟩) (by assumption) ?_
          rotate_left
          · (intro w hSw; (try dsimp only at hSw); go_simp; try with_reducible rfl)
          try simp only [List.getElem_toArray, List.getElem_cons_succ, List.getElem_cons_zero, Act.put, List.setIfInBounds_toArray, List.set_cons_zero, List.set_cons_succ]
          refine wpAnyH_take (i := 8) (v := ?_) rfl (by kernel_rfl) (by kernel_rfl) (by kernel_rfl) (fun _ _ _ h => h) (Or.inl ⟨by rfl, ?_⟩) (by assumption) ?_
          rotate_left
          · (intro w hSw; (try dsimp only at hSw); go_simp; try with_reducible rfl)
          try simp only [List.getElem_toArray, List.getElem_cons_succ, List.getElem_cons_zero, Act.put, List.setIfInBounds_toArray, List.set_cons_zero, List.set_cons_succ]
          refine wpAnyH_take (i := 9) (v := ?_) rfl (by kernel_rfl) (by kernel_rfl) (by kernel_rfl) (fun _ _ _ h => h) (Or.inl ⟨by rfl, ?_⟩) (by assumption) ?_
          rotate_left
          · (intro w hSw; (try dsimp only at hSw); go_simp; try with_reducible rfl)
          try simp only [List.getElem_toArray, List.getElem_cons_succ, List.getElem_cons_zero, Act.put, List.setIfInBounds_toArray, List.set_cons_zero, List.set_cons_succ]
          refine wpAnyH_take (i := 10) (v := ?_) rfl (by kernel_rfl) (by kernel_rfl) (by kernel_rfl) (fun _ _ _ h => h) (Or.inl ⟨by rfl, ?_⟩) (by assumption) ?_
          rotate_left
          · (intro w hSw; (try dsimp only at hSw); go_simp; try with_reducible rfl)
          try simp only [List.getElem_toArray, List.getElem_cons_succ, List.getElem_cons_zero, Act.put, List.setIfInBounds_toArray, List.set_cons_zero, List.set_cons_succ]
          refine wpAnyH_ready (rs := [13]) (by kernel_rfl) (by simp) ?_
          refine AllReadyH.cons rfl (fun K hK => ?_) AllReadyH.nil
          obtain ⟨z0, z1⟩ : v4.cell? ⟨bk11, 0, none⟩ = some (.int .i64 0) ∧ v4.cell? ⟨bk11, 1, none⟩ = some (.slice none 0 0) := ⟨(cell_of_row _ _ 0 _ _ _ HZ11_4.out).trans rfl, (cell_of_row _ _ 1 _ _ _ HZ11_4.out).trans rfl⟩
          have zz : ∀ j, v4.frozen? ⟨bk11, j, none⟩ = false := fun j => frozen_of_row _ _ _ _ _ HZ11_4.out
          have lz := lt_of_heap HZ11_4.out
          go_simp
          obtain ⟨X5, hX⟩ : ∃ X, X = ((v4.setCell ⟨bk11, 0, none⟩ (.int .i64 lim)).setCell ⟨bk11, 1, none⟩ (.slice (some ⟨gf, 0, none⟩) M.length cf)) := ⟨_, rfl⟩
          have RB5 : Hid (Below W8.heap.size W8 X5) := Lib.hid (by rw [hX]; exact ((RB4.out.setCell HG11.out _).setCell HG11.out _))
          have HZ11_5 : Hid (X5.heap[bk11]? = some (.cells #[.int .i64 lim, .slice (some ⟨gf, 0, none⟩) M.length cf] 30 (0, 0))) := Lib.hid (by rw [hX]; exact set2_at HZ11_4.out _ _)
          have HZ12_5 : Hid (X5.heap[bk12]? = some (.cells #[.int .i64 0, .bool false, .int .u64 0] 36 (0, 0))) := Lib.hid (by rw [hX]; exact set2_far (by have := HD_11_12; omega) HZ12_4.out _ _)
          have HR5 : Hid (rowAt X5 gf M ∧ gf < X5.heap.size) := Lib.hid (by rw [hX]; exact ⟨HR4.out.1.keep (set2_block _ _ _ _ _ (row_ne HR4.out.1 HPO.out z1)), by simpa [World.setCell] using HR4.out.2⟩)
          rw [← hX]
          refine hK.out _ _ ?_ (fun hHeld => ?_)
          · exact HSC.out _ RB5.out
          clear hK K hX z0 z1 zz lz
          try simp only [List.getElem_toArray, List.getElem_cons_succ, List.getElem_cons_zero, Act.put, List.setIfInBounds_toArray, List.set_cons_zero, List.set_cons_succ]
          refine wpAnyH_ready (rs := [14]) (by kernel_rfl) (by simp) ?_
          refine AllReadyH.cons rfl (fun K hK => ?_) AllReadyH.nil
          obtain ⟨z0, z1, z2⟩ : X5.cell? ⟨bk12, 0, none⟩ = some (.int .i64 0) ∧ X5.cell? ⟨bk12, 1, none⟩ = some (.bool false) ∧ X5.cell? ⟨bk12, 2, none⟩ = some (.int .u64 0) := ⟨(cell_of_row _ _ 0 _ _ _ HZ12_5.out).trans rfl, (cell_of_row _ _ 1 _ _ _ HZ12_5.out).trans rfl, (cell_of_row _ _ 2 _ _ _ HZ12_5.out).trans rfl⟩
          have zz : ∀ j, X5.frozen? ⟨bk12, j, none⟩ = false := fun j => frozen_of_row _ _ _ _ _ HZ12_5.out
          have lz := lt_of_heap HZ12_5.out
          go_simp
          obtain ⟨X6, hX⟩ : ∃ X, X = (((X5.setCell ⟨bk12, 0, none⟩ (.int .i64 dk)).setCell ⟨bk12, 1, none⟩ (.bool dh)).setCell ⟨bk12, 2, none⟩ (.int .u64 dn)) := ⟨_, rfl⟩
          have RB6 : Hid (Below W8.heap.size W8 X6) := Lib.hid (by rw [hX]; exact (((RB5.out.setCell HG12.out _).setCell HG12.out _).setCell HG12.out _))
          have HZ12_6 : Hid (X6.heap[bk12]? = some (.cells #[.int .i64 dk, .bool dh, .int .u64 dn] 36 (0, 0))) := Lib.hid (by rw [hX]; exact set3_at HZ12_5.out _ _ _)
          have HZ11_6 : Hid (X6.heap[bk11]? = some (.cells #[.int .i64 lim, .slice (some ⟨gf, 0, none⟩) M.length cf] 30 (0, 0))) := Lib.hid (by rw [hX]; exact set3_far (by have := HD_11_12; omega) HZ11_5.out _ _ _)
          have HR6 : Hid (rowAt X6 gf M ∧ gf < X6.heap.size) := Lib.hid (by rw [hX]; exact ⟨HR5.out.1.keep (set3_block _ _ _ _ _ _ (seals_rowB HR5.out.1 HPO.out z1)), by simpa [World.setCell] using HR5.out.2⟩)
          rw [← hX]
          refine hK.out _ _ ?_ (fun hHeld => ?_)
          · exact HSC.out _ RB6.out
          clear hK K hX z0 z1 z2 zz lz
          try simp only [List.getElem_toArray, List.getElem_cons_succ, List.getElem_cons_zero, Act.put, List.setIfInBounds_toArray, List.set_cons_zero, List.set_cons_succ]
          refine wpAnyH_take (i := 15) (v := ?_) rfl (by kernel_rfl) (by kernel_rfl) (by kernel_rfl) (fun _ _ _ h => h) (Or.inl ⟨by rfl, ?_⟩) (by assumption) ?_
          rotate_left
          · (intro w hSw; (try dsimp only at hSw); go_simp; try with_reducible rfl)
          try simp only [List.getElem_toArray, List.getElem_cons_succ, List.getElem_cons_zero, Act.put, List.setIfInBounds_toArray, List.set_cons_zero, List.set_cons_succ]
          refine wpAnyH_take (i := 16) (v := ?_) rfl (by kernel_rfl) (by kernel_rfl) (by kernel_rfl) (fun _ _ _ h => h) (Or.inl ⟨by rfl, ?_⟩) (by assumption) ?_
          rotate_left
          · (intro w hSw; (try dsimp only at hSw); go_simp; try with_reducible rfl)
          try simp only [List.getElem_toArray, List.getElem_cons_succ, List.getElem_cons_zero, Act.put, List.setIfInBounds_toArray, List.set_cons_zero, List.set_cons_succ]
          refine wpAnyH_done (by kernel_rfl) ?_ _
          refine NoPanic.normal ?_
          go_wp2_with fail
          go_meet
          exact ⟨bk11, bk12, gf, cf, rfl, rfl, rfl, rfl, HZ11_6.out, HZ12_6.out, RB6.out, HR6.out, HGF.out⟩
      · go_simp
        have hbn : Below X1.heap.size X1 (X1.alloc (.cells #[.int .i64 0, .slice none 0 0] 30)) := (Below.refl _ _).alloc (Nat.le_refl _) _
        refine hK.out _ _ ?_ (fun hHeld => ?_)
        · exact HSC.out _ (RB1.out.trans (hbn.mono RB1.out.size))
        clear hK K hHeld
        have hz := heap_alloc_new X1 (.cells #[.int .i64 0, .slice none 0 0] 30)
        obtain ⟨X2, hX⟩ : ∃ X, X = X1.alloc (.cells #[.int .i64 0, .slice none 0 0] 30) := ⟨_, rfl⟩
        rw [← hX] at hbn hz ⊢
        clear hX
        have RB2 := Lib.hid (RB1.out.trans (hbn.mono RB1.out.size))
        obtain ⟨bk11, hbk⟩ : ∃ k, k = X1.heap.size := ⟨_, rfl⟩
        have HG11 : Hid (W8.heap.size ≤ bk11) := Lib.hid (by rw [hbk]; exact RB1.out.size)
        have HD_11_12 : bk11 ≠ bk12 := by have := lt_of_heap HZ12_1.out; omega
        rw [← hbk] at hz ⊢
        clear hbk
        have HZ11_2 := Lib.hid hz
        have HZ12_2 := Lib.hid (below_box hbn HZ12_1.out)
        clear hz hbn
        try simp only [List.getElem_toArray, List.getElem_cons_succ, List.getElem_cons_zero, Act.put, List.setIfInBounds_toArray, List.set_cons_zero, List.set_cons_succ]
        refine wpAnyH_ready (rs := [2]) (by kernel_rfl) (by simp) ?_
        refine AllReadyH.cons rfl (fun K hK => ?_) AllReadyH.nil
        go_simp
        (refine (HOF.out _).mono ?_; rintro e v3 ⟨rfl, hbn⟩)
        go_wp2_with fail
        refine hK.out _ _ ?_ (fun hHeld => ?_)
        · exact HSC.out _ (RB2.out.trans (hbn.mono RB2.out.size))
        clear hK K
        have RB3 := Lib.hid (RB2.out.trans (hbn.mono RB2.out.size))
        have HZ11_3 := Lib.hid (below_box hbn HZ11_2.out)
        have HZ12_3 := Lib.hid (below_box hbn HZ12_2.out)
        clear hbn
        try simp only [List.getElem_toArray, List.getElem_cons_succ, List.getElem_cons_zero, Act.put, List.setIfInBounds_toArray, List.set_cons_zero, List.set_cons_succ]
        refine wpAnyH_ready (rs := [5]) (by kernel_rfl) (by simp) ?_
        refine AllReadyH.cons rfl (fun K hK => ?_) AllReadyH.nil
        go_simp
        (refine (HRF.out _ RB3.out).mono ?_; rintro e v4 ⟨gf, cf, rfl, hrf, hlf, hbn, hgf⟩)
        go_wp2_with fail
        refine hK.out _ _ ?_ (fun hHeld => ?_)
        · exact HSC.out _ (RB3.out.trans (hbn.mono RB3.out.size))
        clear hK K
        have RB4 := Lib.hid (RB3.out.trans (hbn.mono RB3.out.size))
        have HZ11_4 := Lib.hid (below_box hbn HZ11_3.out)
        have HZ12_4 := Lib.hid (below_box hbn HZ12_3.out)
        have HR4 : Hid (rowAt v4 gf M ∧ gf < v4.heap.size) := Lib.hid ⟨hrf, hlf⟩
        have HGF : Hid (gf = gr ∨ W8.heap.size ≤ gf) := Lib.hid (hgf.imp id fun h => Nat.le_trans RB3.out.size h)
        clear hrf hlf hgf
        clear hbn
        try simp only [List.getElem_toArray, List.getElem_cons_succ, List.getElem_cons_zero, Act.put, List.setIfInBounds_toArray, List.set_cons_zero, List.set_cons_succ]
        refine wpAnyH_take (i := 6) (v := ?_) rfl (by kernel_rfl) (by kernel_rfl) (by kernel_rfl) (fun _ _ _ h => h) (Or.inl ⟨by rfl, ?_⟩) (by assumption) ?_
        rotate_left
        · (intro w hSw; (try dsimp only at hSw); go_simp; try with_reducible rfl)
        try simp only [List.getElem_toArray, List.getElem_cons_succ, List.getElem_cons_zero, Act.put, List.setIfInBounds_toArray, List.set_cons_zero, List.set_cons_succ]
        refine wpAnyH_take (i := 7) (v := ?_) rfl (by kernel_rfl) (by kernel_rfl) (by kernel_rfl) (fun _ _ _ h => h) (Or.inl ⟨by rfl, ?_⟩) (by assumption) ?_
        rotate_left
        · (intro w hSw; (try dsimp only at hSw); go_simp; try with_reducible rfl)
        try simp only [List.getElem_toArray, List.getElem_cons_succ, List.getElem_cons_zero, Act.put, List.setIfInBounds_toArray, List.set_cons_zero, List.set_cons_succ]
        refine wpAnyH_take (i := 8) (v := ?_) rfl (by kernel_rfl) (by kernel_rfl) (by kernel_rfl) (fun _ _ _ h => h) (Or.inl ⟨by rfl, ?_⟩) (by assumption) ?_
        rotate_left
        · (intro w hSw; (try dsimp only at hSw); go_simp; try with_reducible rfl)
        try simp only [List.getElem_toArray, List.getElem_cons_succ, List.getElem_cons_zero, Act.put, List.setIfInBounds_toArray, List.set_cons_zero, List.set_cons_succ]
        refine wpAnyH_take (i := 9) (v := ?_) rfl (by kernel_rfl) (by kernel_rfl) (by kernel_rfl) (fun _ _ _ h => h) (Or.inl ⟨by rfl, ?_⟩) (by assumption) ?_
        rotate_left
        · (intro w hSw; (try dsimp only at hSw); go_simp; try with_reducible rfl)
        try simp only [List.getElem_toArray, List.getElem_cons_succ, List.getElem_cons_zero, Act.put, List.setIfInBounds_toArray, List.set_cons_zero, List.set_cons_succ]
        refine wpAnyH_take (i := 10) (v := ?_) rfl (by kernel_rfl) (by kernel_rfl) (by kernel_rfl) (fun _ _ _ h => h) (Or.inl ⟨by rfl, ?_⟩) (by assumption) ?_
        rotate_left
        · (intro w hSw; (try dsimp only at hSw); go_simp; try with_reducible rfl)
        try simp only [List.getElem_toArray, List.getElem_cons_succ, List.getElem_cons_zero, Act.put, List.setIfInBounds_toArray, List.set_cons_zero, List.set_cons_succ]
        refine wpAnyH_ready (rs := [13]) (by kernel_rfl) (by simp) ?_
        refine AllReadyH.cons rfl (fun K hK => ?_) AllReadyH.nil
        obtain ⟨z0, z1⟩ : v4.cell? ⟨bk11, 0, none⟩ = some (.int .i64 0) ∧ v4.cell? ⟨bk11, 1, none⟩ = some (.slice none 0 0) := ⟨(cell_of_row _ _ 0 _ _ _ HZ11_4.out).trans rfl, (cell_of_row _ _ 1 _ _ _ HZ11_4.out).trans rfl⟩
        have zz : ∀ j, v4.frozen? ⟨bk11, j, none⟩ = false := fun j => frozen_of_row _ _ _ _ _ HZ11_4.out
        have lz := lt_of_heap HZ11_4.out
        go_simp
        obtain ⟨X5, hX⟩ : ∃ X, X = ((v4.setCell ⟨bk11, 0, none⟩ (.int .i64 lim)).setCell ⟨bk11, 1, none⟩ (.slice (some ⟨gf, 0, none⟩) M.length cf)) := ⟨_, rfl⟩
        have RB5 : Hid (Below W8.heap.size W8 X5) := Lib.hid (by rw [hX]; exact ((RB4.out.setCell HG11.out _).setCell HG11.out _))
        have HZ11_5 : Hid (X5.heap[bk11]? = some (.cells #[.int .i64 lim, .slice (some ⟨gf, 0, none⟩) M.length cf] 30 (0, 0))) := Lib.hid (by rw [hX]; exact set2_at HZ11_4.out _ _)
        have HZ12_5 : Hid (X5.heap[bk12]? = some (.cells #[.int .i64 0, .bool false, .int .u64 0] 36 (0, 0))) := Lib.hid (by rw [hX]; exact set2_far (by have := HD_11_12; omega) HZ12_4.out _ _)
        have HR5 : Hid (rowAt X5 gf M ∧ gf < X5.heap.size) := Lib.hid (by rw [hX]; exact ⟨HR4.out.1.keep (set2_block _ _ _ _ _ (row_ne HR4.out.1 HPO.out z1)), by simpa [World.setCell] using HR4.out.2⟩)
        rw [← hX]
        refine hK.out _ _ ?_ (fun hHeld => ?_)
        · exact HSC.out _ RB5.out
        clear hK K hX z0 z1 zz lz
        try simp only [List.getElem_toArray, List.getElem_cons_succ, List.getElem_cons_zero, Act.put, List.setIfInBounds_toArray, List.set_cons_zero, List.set_cons_succ]
        refine wpAnyH_ready (rs := [14]) (by kernel_rfl) (by simp) ?_
        refine AllReadyH.cons rfl (fun K hK => ?_) AllReadyH.nil
        obtain ⟨z0, z1, z2⟩ : X5.cell? ⟨bk12, 0, none⟩ = some (.int .i64 0) ∧ X5.cell? ⟨bk12, 1, none⟩ = some (.bool false) ∧ X5.cell? ⟨bk12, 2, none⟩ = some (.int .u64 0) := ⟨(cell_of_row _ _ 0 _ _ _ HZ12_5.out).trans rfl, (cell_of_row _ _ 1 _ _ _ HZ12_5.out).trans rfl, (cell_of_row _ _ 2 _ _ _ HZ12_5.out).trans rfl⟩
        have zz : ∀ j, X5.frozen? ⟨bk12, j, none⟩ = false := fun j => frozen_of_row _ _ _ _ _ HZ12_5.out
        have lz := lt_of_heap HZ12_5.out
        go_simp
        obtain ⟨X6, hX⟩ : ∃ X, X = (((X5.setCell ⟨bk12, 0, none⟩ (.int .i64 dk)).setCell ⟨bk12, 1, none⟩ (.bool dh)).setCell ⟨bk12, 2, none⟩ (.int .u64 dn)) := ⟨_, rfl⟩
        have RB6 : Hid (Below W8.heap.size W8 X6) := Lib.hid (by rw [hX]; exact (((RB5.out.setCell HG12.out _).setCell HG12.out _).setCell HG12.out _))
        have HZ12_6 : Hid (X6.heap[bk12]? = some (.cells #[.int .i64 dk, .bool dh, .int .u64 dn] 36 (0, 0))) := Lib.hid (by rw [hX]; exact set3_at HZ12_5.out _ _ _)
        have HZ11_6 : Hid (X6.heap[bk11]? = some (.cells #[.int .i64 lim, .slice (some ⟨gf, 0, none⟩) M.length cf] 30 (0, 0))) := Lib.hid (by rw [hX]; exact set3_far (by have := HD_11_12; omega) HZ11_5.out _ _ _)
        have HR6 : Hid (rowAt X6 gf M ∧ gf < X6.heap.size) := Lib.hid (by rw [hX]; exact ⟨HR5.out.1.keep (set3_block _ _ _ _ _ _ (seals_rowB HR5.out.1 HPO.out z1)), by simpa [World.setCell] using HR5.out.2⟩)
        rw [← hX]
        refine hK.out _ _ ?_ (fun hHeld => ?_)
        · exact HSC.out _ RB6.out
        clear hK K hX z0 z1 z2 zz lz
        try simp only [List.getElem_toArray, List.getElem_cons_succ, List.getElem_cons_zero, Act.put, List.setIfInBounds_toArray, List.set_cons_zero, List.set_cons_succ]
        refine wpAnyH_take (i := 15) (v := ?_) rfl (by kernel_rfl) (by kernel_rfl) (by kernel_rfl) (fun _ _ _ h => h) (Or.inl ⟨by rfl, ?_⟩) (by assumption) ?_
        rotate_left
        · (intro w hSw; (try dsimp only at hSw); go_simp; try with_reducible rfl)
        try simp only [List.getElem_toArray, List.getElem_cons_succ, List.getElem_cons_zero, Act.put, List.setIfInBounds_toArray, List.set_cons_zero, List.set_cons_succ]
        refine wpAnyH_take (i := 16) (v := ?_) rfl (by kernel_rfl) (by kernel_rfl) (by kernel_rfl) (fun _ _ _ h => h) (Or.inl ⟨by rfl, ?_⟩) (by assumption) ?_
        rotate_left
        · (intro w hSw; (try dsimp only at hSw); go_simp; try with_reducible rfl)
        try simp only [List.getElem_toArray, List.getElem_cons_succ, List.getElem_cons_zero, Act.put, List.setIfInBounds_toArray, List.set_cons_zero, List.set_cons_succ]
        refine wpAnyH_done (by kernel_rfl) ?_ _
        refine NoPanic.normal ?_
        go_wp2_with fail
        go_meet
        exact ⟨bk11, bk12, gf, cf, rfl, rfl, rfl, rfl, HZ11_6.out, HZ12_6.out, RB6.out, HR6.out, HGF.out⟩
  case rest =>
    obtain ⟨pn, pf, gf, cf, rfl, rfl, rfl, rfl, hn, hf, hbx, ⟨hrw, hrl⟩, hgf⟩ := hcut
    have HX13 := Lib.hid (below_box hbx HX9.out)
    have HX14 := Lib.hid (below_box hbx HX10.out)
    have HX15 := Lib.hid (below_box hbx HX11.out)
    have HXf := Lib.hid hf
    have HXn := Lib.hid hn
    have HQR := Lib.hid (HQ12.out.turn hbx hrw hrl hgf)
    clear hbx hf hn hrw hrl hgf HSC HRF
    clear HX9 HX10 HX11
    have HSC2 : Hid (∀ W', Below wc.heap.size wc W' → (fun W' => (W'.cell? ⟨pn, 0, none⟩ = some (.int .i64 lim) ∧ W'.cell? ⟨pn, 1, none⟩ = some (.slice (some ⟨gf, 0, none⟩) M.length cf)) ∧ (W'.cell? ⟨p12, 0, none⟩ = some (.int .i64 dk) ∧ W'.cell? ⟨p12, 1, none⟩ = some (.bool dh) ∧ W'.cell? ⟨p12, 2, none⟩ = some (.int .u64 dn)) ∧ (W'.cell? ⟨pf, 0, none⟩ = some (.int .i64 dk) ∧ W'.cell? ⟨pf, 1, none⟩ = some (.bool dh) ∧ W'.cell? ⟨pf, 2, none⟩ = some (.int .u64 dn))) W') := Lib.hid (fun W' hb => ⟨ra_cells (below_box hb HXn.out), cf_cells (below_box hb HX15.out), rc_cells (below_box hb HXf.out)⟩)
    obtain ⟨cn0, cn1⟩ := ra_cells HXn.out
    have ln := lt_of_heap HXn.out
    obtain ⟨cd0, cd1, cd2⟩ := cf_cells HX15.out
    have ld := lt_of_heap HX15.out
    obtain ⟨cf0, cf1, cf2⟩ := rc_cells HXf.out
    have lf := lt_of_heap HXf.out
    have HOF2 := Lib.hid (fun w' => ofc_any ⟨dk, dh, dn⟩ w')
    unfold cfV at HOF2
    have HSM := Lib.hid (fun W' (hb : Below wc.heap.size wc W') => (HQR.out.keep hb).same cf)
    have HAZ := Lib.hid (fun W' (hb : Below wc.heap.size wc W') => HAw.out _ (HQR.out.keep hb).st.bel)
    go_wp2_with fail
    refine wp_region_noPanic ?_
    refine wp_region_held_drew (S := (fun W' => (W'.cell? ⟨pn, 0, none⟩ = some (.int .i64 lim) ∧ W'.cell? ⟨pn, 1, none⟩ = some (.slice (some ⟨gf, 0, none⟩) M.length cf)) ∧ (W'.cell? ⟨p12, 0, none⟩ = some (.int .i64 dk) ∧ W'.cell? ⟨p12, 1, none⟩ = some (.bool dh) ∧ W'.cell? ⟨p12, 2, none⟩ = some (.int .u64 dn)) ∧ (W'.cell? ⟨pf, 0, none⟩ = some (.int .i64 dk) ∧ W'.cell? ⟨pf, 1, none⟩ = some (.bool dh) ∧ W'.cell? ⟨pf, 2, none⟩ = some (.int .u64 dn)))) (by kernel_rfl) ?_ (fun hHeld => ?_)
    · ((try dsimp only); first | (go_simp; done) | (simp [*]; done))
    refine wpAnyH_take (i := 0) (v := ?_) rfl (by kernel_rfl) (by kernel_rfl) (by kernel_rfl) (fun _ _ _ h => h) (Or.inl ⟨by rfl, ?_⟩) (by assumption) ?_
    rotate_left
    · (intro w hSw; (try dsimp only at hSw); go_simp; try with_reducible rfl)
    try simp only [List.getElem_toArray, List.getElem_cons_zero, Act.put, List.setIfInBounds_toArray, List.set_cons_zero, List.set_cons_succ]
    refine wpAnyH_take (i := 2) (v := ?_) rfl (by kernel_rfl) (by kernel_rfl) (by kernel_rfl) (fun _ _ _ h => h) (Or.inl ⟨by rfl, ?_⟩) (by assumption) ?_
    rotate_left
    · (intro w hSw; (try dsimp only at hSw); go_simp; try with_reducible rfl)
    try simp only [List.getElem_toArray, List.getElem_cons_succ, List.getElem_cons_zero, Act.put, List.setIfInBounds_toArray, List.set_cons_zero, List.set_cons_succ]
    refine wpAnyH_ready (rs := [1]) (by kernel_rfl) (by simp) ?_
    refine AllReadyH.cons rfl (fun K hK => ?_) AllReadyH.nil
    go_simp
    (refine (HOF2.out _).mono ?_; rintro e v1 ⟨rfl, hb⟩; have RC1 := Lib.hid ((Below.refl _ wc).drew.trans (hb.mono (Nat.le_refl _))); have hS := HSC2.out _ RC1.out; clear hb)
    go_wp2_with fail
    refine hK.out _ _ ?_ (fun hHeld => ?_)
    · ((try dsimp only); first | (go_simp; done) | (simp [*]; done))
    clear hK K
    try simp only [List.getElem_toArray, List.getElem_cons_succ, List.getElem_cons_zero, Act.put, List.setIfInBounds_toArray, List.set_cons_zero, List.set_cons_succ]
    refine wpAnyH_take (i := 3) (v := ?_) rfl (by kernel_rfl) (by kernel_rfl) (by kernel_rfl) (fun _ _ _ h => h) (Or.inl ⟨by rfl, ?_⟩) (by assumption) ?_
    rotate_left
    · (intro w hSw; (try dsimp only at hSw); go_simp; try with_reducible rfl)
    try simp only [List.getElem_toArray, List.getElem_cons_succ, List.getElem_cons_zero, Act.put, List.setIfInBounds_toArray, List.set_cons_zero, List.set_cons_succ]
    refine wpAnyH_take (i := 4) (v := ?_) rfl (by kernel_rfl) (by kernel_rfl) (by kernel_rfl) (fun _ _ _ h => h) (Or.inl ⟨by rfl, ?_⟩) (by assumption) ?_
    rotate_left
    · (intro w hSw; (try dsimp only at hSw); go_simp; try with_reducible rfl)
    try simp only [List.getElem_toArray, List.getElem_cons_succ, List.getElem_cons_zero, Act.put, List.setIfInBounds_toArray, List.set_cons_zero, List.set_cons_succ]
    refine wpAnyH_take (i := 5) (v := ?_) rfl (by kernel_rfl) (by kernel_rfl) (by kernel_rfl) (fun _ _ _ h => h) (Or.inl ⟨by rfl, ?_⟩) (by assumption) ?_
    rotate_left
    · (intro w hSw; (try dsimp only at hSw); go_simp; try with_reducible rfl)
    try simp only [List.getElem_toArray, List.getElem_cons_succ, List.getElem_cons_zero, Act.put, List.setIfInBounds_toArray, List.set_cons_zero, List.set_cons_succ]
    refine wpAnyH_take (i := 6) (v := ?_) rfl (by kernel_rfl) (by kernel_rfl) (by kernel_rfl) (fun _ _ _ h => h) (Or.inl ⟨by rfl, ?_⟩) (by assumption) ?_
    rotate_left
    · (intro w hSw; (try dsimp only at hSw); go_simp; try with_reducible rfl)
    try simp only [List.getElem_toArray, List.getElem_cons_succ, List.getElem_cons_zero, Act.put, List.setIfInBounds_toArray, List.set_cons_zero, List.set_cons_succ]
    refine wpAnyH_take (i := 7) (v := ?_) rfl (by kernel_rfl) (by kernel_rfl) (by kernel_rfl) (fun _ _ _ h => h) (Or.inl ⟨by rfl, ?_⟩) (by assumption) ?_
    rotate_left
    · (intro w hSw; (try dsimp only at hSw); go_simp; try with_reducible rfl)
    try simp only [List.getElem_toArray, List.getElem_cons_succ, List.getElem_cons_zero, Act.put, List.setIfInBounds_toArray, List.set_cons_zero, List.set_cons_succ]
    refine wpAnyH_take (i := 8) (v := ?_) rfl (by kernel_rfl) (by kernel_rfl) (by kernel_rfl) (fun _ _ _ h => h) (Or.inl ⟨by rfl, ?_⟩) (by assumption) ?_
    rotate_left
    · (intro w hSw; (try dsimp only at hSw); go_simp; try with_reducible rfl)
    try simp only [List.getElem_toArray, List.getElem_cons_succ, List.getElem_cons_zero, Act.put, List.setIfInBounds_toArray, List.set_cons_zero, List.set_cons_succ]
    refine wpAnyH_take (i := 9) (v := ?_) rfl (by kernel_rfl) (by kernel_rfl) (by kernel_rfl) (fun _ _ _ h => h) (Or.inl ⟨by rfl, ?_⟩) (by assumption) ?_
    rotate_left
    · (intro w hSw; (try dsimp only at hSw); go_simp; try with_reducible rfl)
    try simp only [List.getElem_toArray, List.getElem_cons_succ, List.getElem_cons_zero, Act.put, List.setIfInBounds_toArray, List.set_cons_zero, List.set_cons_succ]
    refine wpAnyH_take (i := 10) (v := ?_) rfl (by kernel_rfl) (by kernel_rfl) (by kernel_rfl) (fun _ _ _ h => h) (Or.inl ⟨by rfl, ?_⟩) (by assumption) ?_
    rotate_left
    · (intro w hSw; (try dsimp only at hSw); go_simp; try with_reducible rfl)
    try simp only [List.getElem_toArray, List.getElem_cons_succ, List.getElem_cons_zero, Act.put, List.setIfInBounds_toArray, List.set_cons_zero, List.set_cons_succ]
    refine wpAnyH_take (i := 11) (v := ?_) rfl (by kernel_rfl) (by kernel_rfl) (by kernel_rfl) (fun _ _ _ h => h) (Or.inl ⟨by rfl, ?_⟩) (by assumption) ?_
    rotate_left
    · (intro w hSw; (try dsimp only at hSw); go_simp; try with_reducible rfl)
    try simp only [List.getElem_toArray, List.getElem_cons_succ, List.getElem_cons_zero, Act.put, List.setIfInBounds_toArray, List.set_cons_zero, List.set_cons_succ]
    refine wpAnyH_take (i := 12) (v := ?_) rfl (by kernel_rfl) (by kernel_rfl) (by kernel_rfl) (fun _ _ _ h => h) (Or.inl ⟨by rfl, ?_⟩) (by assumption) ?_
    rotate_left
    · (intro w hSw; (try dsimp only at hSw); go_simp; try with_reducible rfl)
    try simp only [List.getElem_toArray, List.getElem_cons_succ, List.getElem_cons_zero, Act.put, List.setIfInBounds_toArray, List.set_cons_zero, List.set_cons_succ]
    refine wpAnyH_take (i := 13) (v := ?_) rfl (by kernel_rfl) (by kernel_rfl) (by kernel_rfl) (fun _ _ _ h => h) (Or.inl ⟨by rfl, ?_⟩) (by assumption) ?_
    rotate_left
    · (intro w hSw; (try dsimp only at hSw); go_simp; try with_reducible rfl)
    try simp only [List.getElem_toArray, List.getElem_cons_succ, List.getElem_cons_zero, Act.put, List.setIfInBounds_toArray, List.set_cons_zero, List.set_cons_succ]
    refine wpAnyH_take (i := 14) (v := ?_) rfl (by kernel_rfl) (by kernel_rfl) (by kernel_rfl) (fun _ _ _ h => h) (Or.inl ⟨by rfl, ?_⟩) (by assumption) ?_
    rotate_left
    · (intro w hSw; (try dsimp only at hSw); go_simp; try with_reducible rfl)
    try simp only [List.getElem_toArray, List.getElem_cons_succ, List.getElem_cons_zero, Act.put, List.setIfInBounds_toArray, List.set_cons_zero, List.set_cons_succ]
    refine wpAnyH_take (i := 15) (v := ?_) rfl (by kernel_rfl) (by kernel_rfl) (by kernel_rfl) (fun _ _ _ h => h) (Or.inl ⟨by rfl, ?_⟩) (by assumption) ?_
    rotate_left
    · (intro w hSw; (try dsimp only at hSw); go_simp; try with_reducible rfl)
    try simp only [List.getElem_toArray, List.getElem_cons_succ, List.getElem_cons_zero, Act.put, List.setIfInBounds_toArray, List.set_cons_zero, List.set_cons_succ]
    refine wpAnyH_take (i := 16) (v := ?_) rfl (by kernel_rfl) (by kernel_rfl) (by kernel_rfl) (fun _ _ _ h => h) (Or.inl ⟨by rfl, ?_⟩) (by assumption) ?_
    rotate_left
    · (intro w hSw; (try dsimp only at hSw); go_simp; try with_reducible rfl)
    try simp only [List.getElem_toArray, List.getElem_cons_succ, List.getElem_cons_zero, Act.put, List.setIfInBounds_toArray, List.set_cons_zero, List.set_cons_succ]
    refine wpAnyH_ready (rs := [17]) (by kernel_rfl) (by simp) ?_
    refine AllReadyH.cons rfl (fun K hK => ?_) AllReadyH.nil
    go_simp
    (refine (HSM.out _ RC1.out).mono ?_; rintro e v2 ⟨rfl, hb⟩; have RC2 := Lib.hid (RC1.out.trans (hb.mono RC1.out.size)); have hS := HSC2.out _ RC2.out; clear hb)
    go_wp2_with fail
    refine hK.out _ _ ?_ (fun hHeld => ?_)
    · ((try dsimp only); first | (go_simp; done) | (simp [*]; done))
    clear hK K
    try simp only [List.getElem_toArray, List.getElem_cons_succ, List.getElem_cons_zero, Act.put, List.setIfInBounds_toArray, List.set_cons_zero, List.set_cons_succ]
    refine wpAnyH_take (i := 18) (v := ?_) rfl (by kernel_rfl) (by kernel_rfl) (by kernel_rfl) (fun _ _ _ h => h) (Or.inl ⟨by rfl, ?_⟩) (by assumption) ?_
    rotate_left
    · (intro w hSw; (try dsimp only at hSw); go_simp; try with_reducible rfl)
    try simp only [List.getElem_toArray, List.getElem_cons_succ, List.getElem_cons_zero, Act.put, List.setIfInBounds_toArray, List.set_cons_zero, List.set_cons_succ]
    refine wpAnyH_take (i := 19) (v := ?_) rfl (by kernel_rfl) (by kernel_rfl) (by kernel_rfl) (fun _ _ _ h => h) (Or.inl ⟨by rfl, ?_⟩) (by assumption) ?_
    rotate_left
    · (intro w hSw; (try dsimp only at hSw); go_simp; try with_reducible rfl)
    try simp only [List.getElem_toArray, List.getElem_cons_succ, List.getElem_cons_zero, Act.put, List.setIfInBounds_toArray, List.set_cons_zero, List.set_cons_succ]
    refine wpAnyH_ready (rs := [20]) (by kernel_rfl) (by simp) ?_
    refine AllReadyH.cons rfl (fun K hK => ?_) AllReadyH.nil
    go_simp
    (refine (HAZ.out _ RC2.out).mono ?_; rintro e v3 ⟨rfl, hb⟩; have RC3 := Lib.hid (RC2.out.trans (hb.mono RC2.out.size)); have hS := HSC2.out _ RC3.out; clear hb)
    go_wp2_with fail
    refine hK.out _ _ ?_ (fun hHeld => ?_)
    · ((try dsimp only); first | (go_simp; done) | (simp [*]; done))
    clear hK K
    try simp only [List.getElem_toArray, List.getElem_cons_succ, List.getElem_cons_zero, Act.put, List.setIfInBounds_toArray, List.set_cons_zero, List.set_cons_succ]
    refine wpAnyH_take (i := 21) (v := ?_) rfl (by kernel_rfl) (by kernel_rfl) (by kernel_rfl) (fun _ _ _ h => h) (Or.inl ⟨by rfl, ?_⟩) (by assumption) ?_
    rotate_left
    · (intro w hSw; (try dsimp only at hSw); go_simp; try with_reducible rfl)
    try simp only [List.getElem_toArray, List.getElem_cons_succ, List.getElem_cons_zero, Act.put, List.setIfInBounds_toArray, List.set_cons_zero, List.set_cons_succ]
    refine wpAnyH_take (i := 22) (v := ?_) rfl (by kernel_rfl) (by kernel_rfl) (by kernel_rfl) (fun _ _ _ h => h) (Or.inl ⟨by rfl, ?_⟩) (by assumption) ?_
    rotate_left
    · (intro w hSw; (try dsimp only at hSw); go_simp; try with_reducible rfl)
    try simp only [List.getElem_toArray, List.getElem_cons_succ, List.getElem_cons_zero, Act.put, List.setIfInBounds_toArray, List.set_cons_zero, List.set_cons_succ]
    refine wpAnyH_done (by kernel_rfl) ?_ _
    refine NoPanic.normal ?_
    go_wp2_with fail
    go_ret
    exact ⟨rfl, HB0.out.trans ((HQR.out.keep RC3.out).st.bel.mono HB0.out.size)⟩
end Go.Proofs.YtonpjogaamgceaaDoor
