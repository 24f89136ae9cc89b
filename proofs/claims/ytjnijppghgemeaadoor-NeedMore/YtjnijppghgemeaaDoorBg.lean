/- Layer 6: the walk of copyOf, its loops. -/
import Derived.Test.YtjnijppghgemeaaDoorBf
namespace Go.Proofs.YtjnijppghgemeaaDoor
open Go.RowKit Go.Shelf

set_option maxRecDepth 100000 in
set_option maxHeartbeats 4000000 in
theorem copyOf_any (x : Sl) (p : Pt) (w : World) (hp : PatA w x p) (hs0 : p.p0.length ≤ 4096) (hs1 : p.p1.length ≤ 4096) (hsm : p.ms.length ≤ 4096) (hst : ∀ i, i < p.ms.length → (p.ms.getD i default).t.length ≤ 4096) :
    Calls Tryd.prog 35 #[patV x p] w fun e w' => ∃ v0 v1 vM vs, e = .returned (.agg #[.string ⟨p.nm.toArray⟩, v0, v1, vM]) ∧ Ow w' (w.heap.size + 3) v0 v1 vM p.p0 p.p1 p.ms vs ∧ Below w.heap.size w w' := by
  obtain ⟨i0, hi0, hz0, hz1, hz2⟩ := info_parts Tryd.infoM
  have HP := Lib.hid hp
  obtain ⟨wA, hwA⟩ : ∃ wA, wA = ((w.alloc (.cells #[.string ⟨p.nm.toArray⟩, .slice x.s0 p.p0.length x.c0, .slice x.s1 p.p1.length x.c1, .slice x.s2 p.ms.length x.c2] 26)).alloc (.cells #[.string ⟨#[]⟩, .slice none 0 0, .slice none 0 0, .slice none 0 0] 26)).alloc (.cells #[.string ⟨p.nm.toArray⟩, .slice none 0 0, .slice none 0 0, .slice none 0 0] 26) := ⟨_, rfl⟩
  have HWA : Hid (Below w.heap.size w wA ∧ wA.heap.size = w.heap.size + 3 ∧ wA.heap[w.heap.size + 1 + 1]? = some (.cells #[.string ⟨p.nm.toArray⟩, .slice none 0 0, .slice none 0 0, .slice none 0 0] 26 (0, 0))) := Lib.hid (by
    refine ⟨by rw [hwA]; exact (((Below.refl _ _).alloc (Nat.le_refl _) _).alloc (by simp) _).alloc (by simp; omega) _, by rw [hwA]; simp, ?_⟩
    have := heap_alloc_new ((w.alloc (.cells #[.string ⟨p.nm.toArray⟩, .slice x.s0 p.p0.length x.c0, .slice x.s1 p.p1.length x.c1, .slice x.s2 p.ms.length x.c2] 26)).alloc (.cells #[.string ⟨#[]⟩, .slice none 0 0, .slice none 0 0, .slice none 0 0] 26)) (.cells #[.string ⟨p.nm.toArray⟩, .slice none 0 0, .slice none 0 0, .slice none 0 0] 26)
    rw [World.size_alloc, World.size_alloc] at this
    rw [hwA]; exact this)
  have HST := Lib.hid (fun (w1 w2 : World) (v0 v1 : Value) => cp_start (w := w) (w1 := w1) (w2 := w2) (x := x) (p := p) (v0 := v0) (v1 := v1) wA hwA)
  have HC0 := Lib.hid (copyTokens_any x.s0 x.c0 p.p0 wA (hp.i0.keep HWA.out.1) hs0)
  have HC1 := Lib.hid (fun wx (hb : Below w.heap.size w wx) => copyTokens_any x.s1 x.c1 p.p1 wx (hp.i1.keep hb) hs1)
  have HW := Lib.hid hwA
  clear hp
  unfold patV
  have j0 : ∀ w, (Instr.index 23 (.agg #[.slice x.s0 p.p0.length x.c0, .slice x.s1 p.p1.length x.c1]) (.int .i64 0)).run Tryd.prog w = .ok (.slice x.s0 p.p0.length x.c0) w := fun _ => by kernel_rfl
  have j1 : ∀ w, (Instr.index 23 (.agg #[.slice x.s0 p.p0.length x.c0, .slice x.s1 p.p1.length x.c1]) (.int .i64 1)).run Tryd.prog w = .ok (.slice x.s1 p.p1.length x.c1) w := fun _ => by kernel_rfl
  go_enter Tryd.func35, Tryd.ntmps35
  go_wp2_with fail
  rw [← HW.out]
  clear hwA
  refine wp_loop_rounds 3 ?_
  rw [rounds_succ]
  go_wp2_with (go_at_call 46; refine HC0.out.mono ?_; rintro e w1 ⟨s0, c0, rfl, ho0, hb1⟩; have HO0 := Lib.hid ho0; have HB1 := Lib.hid hb1; clear ho0 hb1; have HQ1 := Lib.hid ((HB1.out.block _ (by rw [HWA.out.2.1]; omega)).trans HWA.out.2.2); obtain ⟨r0, r1, r2, r3, y0, y1, y2, y3⟩ := box4c HQ1.out)
  rw [rounds_succ]
  have HBS := Lib.hid ((HWA.out.1.trans (HB1.out.mono HWA.out.1.size)).setCell (p := ⟨w.heap.size + 1 + 1, 1, none⟩) (show w.heap.size ≤ w.heap.size + 1 + 1 by omega) (.slice s0 p.p0.length c0))
  have HQS := Lib.hid (setCell_box41 (u := .slice s0 p.p0.length c0) HQ1.out)
  clear r0 r1 r2 r3 y0 y1 y2 y3
  go_wp2_with (go_at_call 46; refine (HC1.out _ HBS.out).mono ?_; rintro e w2 ⟨s1, c1, rfl, ho1, hb2⟩; have HO1 := Lib.hid ho1; have HB2 := Lib.hid hb2; clear ho1 hb2; have HQ2 := Lib.hid ((HB2.out.block _ (lt_of_heap HQS.out)).trans HQS.out); obtain ⟨r0, r1, r2, r3, y0, y1, y2, y3⟩ := box4c HQ2.out)
  rw [rounds_succ]
  have HCP := Lib.hid (HST.out w1 w2 _ _ HB1.out HO0.out HB2.out HO1.out)
  clear r0 r1 r2 r3 y0 y1 y2 y3 HQ1 HQ2 HQS HBS HO0 HO1 HB1 HB2 HST HC0 HC1 HWA HW
  generalize w2.setCell ⟨w.heap.size + 1 + 1, 2, none⟩ (.slice s1 p.p1.length c1) = W at *
  obtain ⟨a0, a1, a2, a3, -⟩ := box4c HCP.out.pb
  go_wp2_with fail
  clear a0 a1 a2 a3
  go_loopg [7, 26] p.ms.length (fun q _ u26 wr => ∃ (k : Nat) (vM : Value) (vs : List Value), k + q = p.ms.length ∧ u26 = .int .i64 k ∧ Aside (Cp w x p k (.slice s0 p.p0.length c0) (.slice s1 p.p1.length c1) vM vs wr))
  case atStart => exact ⟨0, _, _, by omega, rfl, HCP.out⟩
  case round =>
    obtain ⟨k, vM, vs, hkq, rfl, hcp⟩ := hrel
    have HC := Lib.hid hcp.out
    clear hcp
    obtain ⟨q0, q1, q2, q3, z0, z1, z2, z3⟩ := box4c HC.out.qb
    by_cases hlt : k < p.ms.length
    · have hk2 : (k : Int) < p.ms.length := by omega
      obtain ⟨g, o, hx2, hms⟩ := (HP.out.im.keep HC.out.bel) (by omega)
      obtain ⟨m0, sx, cx, m1, m2⟩ := hms k hlt
      clear hms
      obtain ⟨sM, cM, hvM, -⟩ := HC.out.ow.mso.msgs
      have hl : (p.ms.take k).length = k := by simp; omega
      rw [hl] at hvM
      subst hvM
      have HM2 := Lib.hid m2; clear m2
      obtain ⟨f, hf⟩ : ∃ f, f = (p.ms.getD k default).fr := ⟨_, rfl⟩
      obtain ⟨t, ht⟩ : ∃ t, t = (p.ms.getD k default).t := ⟨_, rfl⟩
      rw [← hf] at m0
      rw [← ht] at m1 HM2
      have HTL : Hid (t.length ≤ 4096) := Lib.hid (by rw [ht]; exact hst k hlt)
      have HF := Lib.hid hf
      have HT := Lib.hid ht
      clear hf ht
      have hxs : x.s2 = some ⟨g, o, none⟩ := hx2
      rw [hxs]
      go_wp2_with fail
      have HXB : Hid (Below wr.heap.size wr (wr.alloc (.cells #[.int .i64 f, .slice sx t.length cx] 55))) := Lib.hid ((Below.refl _ _).alloc (Nat.le_refl _) _)
      have HMB : Hid ((wr.alloc (.cells #[.int .i64 f, .slice sx t.length cx] 55)).heap[wr.heap.size]? = some (.cells #[.int .i64 f, .slice sx t.length cx] 55 (0, 0))) := Lib.hid (heap_alloc_new wr _)
      generalize wr.alloc (.cells #[.int .i64 f, .slice sx t.length cx] 55) = W1 at *
      have HC1 := Lib.hid (HC.out.keep HXB.out)
      clear q0 q1 q2 q3 z0 z1 z2 z3 m0 m1
      obtain ⟨q0, q1, q2, q3, z0, z1, z2, z3⟩ := box4c HC1.out.qb
      have m0 : W1.cell? ⟨wr.heap.size, 0, none⟩ = some (.int .i64 f) := (cell_of_row W1 _ 0 _ _ _ HMB.out).trans rfl
      have m1 : W1.cell? ⟨wr.heap.size, 1, none⟩ = some (.slice sx t.length cx) := (cell_of_row W1 _ 1 _ _ _ HMB.out).trans rfl
      have H5F : Hid (∀ w5, Below W1.heap.size W1 w5 → w5.cell? ⟨wr.heap.size, 0, none⟩ = some (.int .i64 f) ∧ w5.cell? ⟨wr.heap.size, 1, none⟩ = some (.slice sx t.length cx) ∧ w5.cell? ⟨w.heap.size + 1 + 1, 3, none⟩ = some (.slice sM k cM) ∧ w5.frozen? ⟨w.heap.size + 1 + 1, 3, none⟩ = false ∧ w5.ownsRow (w.heap.size + 3) 55 2 (.slice sM k cM) k (msC (p.ms.take k) vs) ∧ Below W1.heap.size W1 w5 ∧ w.heap.size + 3 ≤ w5.heap.size) := Lib.hid (fun w5 hb => by
        have h1 := (hb.block _ (lt_of_heap HMB.out)).trans HMB.out
        have h2 := HC1.out.keep hb
        obtain ⟨-, -, -, a3, -, -, -, y3⟩ := box4c h2.qb
        refine ⟨(cell_of_row w5 _ 0 _ _ _ h1).trans rfl, (cell_of_row w5 _ 1 _ _ _ h1).trans rfl, a3, y3, ?_, hb, ?_⟩
        · have := h2.ow.om; rwa [hl] at this
        · have := lt_of_heap h2.qb; omega)
      have H4F : Hid (∀ (w5 w4 : World) (s5 : Option Addr) (c5 : Nat) (vM' : Value), Below W1.heap.size W1 w5 → w5.ownsRow W1.heap.size 3 1 (.slice s5 t.length c5) t.length (t.map (Value.int .i64)) → w4.ownsRow (w.heap.size + 3) 55 2 vM' (k + 1) (msC (p.ms.take k) vs ++ [.int .i64 f, .slice s5 t.length c5]) → (w5.alloc (.cells #[.int .i64 f, .slice s5 t.length c5] 55)).grownBy w4 (Value.slice sM k cM).ownBlock →
          w4.cell? ⟨w.heap.size + 1 + 1, 3, none⟩ = some (.slice sM k cM) ∧ w4.frozen? ⟨w.heap.size + 1 + 1, 3, none⟩ = false ∧ Cp w x p (k + 1) (.slice s0 p.p0.length c0) (.slice s1 p.p1.length c1) vM' (vs ++ [.slice s5 t.length c5]) (w4.setCell ⟨w.heap.size + 1 + 1, 3, none⟩ vM')) := Lib.hid (fun w5 w4 s5 c5 vM' hb ho hown hgr => by
        have hY : Below W1.heap.size W1 (w5.alloc (.cells #[.int .i64 f, .slice s5 t.length c5] 55)) := hb.alloc hb.size _
        have h2 := HC1.out.keep hY
        have lq := lt_of_heap h2.qb
        have hfar : some (w.heap.size + 1 + 1) ≠ (Value.slice sM k cM).ownBlock := fun e => by
          have := (h2.ow.om.lt _ e.symm).1; omega
        have hq4 := (hgr.block _ lq hfar).trans h2.qb
        obtain ⟨-, -, -, a3, -, -, -, y3⟩ := box4c hq4
        refine ⟨a3, y3, HC.out.step hlt HXB.out hY (Nat.le_refl _) (World.ownsRow.alloc (by rw [← HT.out]; exact ho) _) hgr (by rw [← HF.out]; exact hown)⟩)
      go_region_law (first
        | (refine step_append_lies _ (by rfl) (.tmp 31) (.tmp 38) 24 (by rfl) (w.heap.size + 3) 55 i0 _ 2 32 Tryd.underlying24 hi0 hz0 hz1 hz2 rfl (by omega) (.slice sM k cM) k (msC (p.ms.take k) vs) (by rfl) (World.ownsRow.alloc H5.out.2.2.2.2.1 _) ⟨w5.heap.size, 0, none⟩ 1 1 [.int .i64 f, .slice s5 t.length c5] (by rfl) (by rfl) (fun j u hj => by match j, hj with | 0, hj => (simp at hj; subst hj; simp [Addr.add]) | 1, hj => (simp at hj; subst hj; simp [Addr.add])) (by simp [Value.oneCell']) (by omega) (by simp [maxLen]; omega) (by omega) (by have := H5.out.2.2.2.2.2.2; simp; omega) _ rfl ?_; intro g2 cap2 w4 hown2 hgr2 _ _; obtain ⟨e1, e2, hgn⟩ := H4F.out w5 w4 s5 c5 _ H5.out.2.2.2.2.2.1 HO5.out hown2 hgr2; have HGN := Lib.hid hgn; clear hgn hown2 hgr2)
        | (go_simp; go_at_call 46; refine (copyTokens_any sx cx t _ (HM2.out.keep HXB.out.drew) HTL.out).mono ?_; rintro e w5 ⟨s5, c5, rfl, ho5, hb5⟩; have HO5 := Lib.hid ho5; have H5 := Lib.hid (H5F.out w5 ((Below.refl _ _).drew.trans hb5)); clear ho5 hb5; obtain ⟨n0, n1, n2, n3, -⟩ := H5.out; have lq5 := World.block_lt_of_cell? _ _ n2; have lm5 := World.block_lt_of_cell? _ _ n1))
      all_goals
        go_wp2_with fail
        rw [← hxs]
        go_roundg (p.ms.length - (k + 1))
        case measure => omega
        case rel => exact ⟨k + 1, _, _, by omega, by go_num, HGN.out⟩
    · have hk2 : ¬ (k : Int) < p.ms.length := by omega
      obtain rfl : k = p.ms.length := by omega
      obtain ⟨sM, cM, hvM, -⟩ := HC.out.ow.mso.msgs
      subst hvM
      obtain ⟨r0, r1, r2, r3, y0, y1, y2, y3⟩ := box4c HC.out.res
      have HO : Hid (Ow wr (w.heap.size + 3) (.slice s0 p.p0.length c0) (.slice s1 p.p1.length c1) (.slice sM (p.ms.take p.ms.length).length cM) p.p0 p.p1 p.ms vs) := Lib.hid (by
        have := HC.out.ow; rw [List.take_length] at this ⊢; exact this)
      obtain ⟨nM, hnM⟩ : ∃ n, n = (p.ms.take p.ms.length).length := ⟨_, rfl⟩
      rw [← hnM] at HO q3 HC
      clear hnM
      go_wp2_with fail
      refine bodyPost_ret (v := .agg #[.string ⟨p.nm.toArray⟩, .slice s0 p.p0.length c0, .slice s1 p.p1.length c1, .slice sM nM cM]) (by simp [results, Tryd.results35, go_sem, r0, r1, r2, r3]) rfl ?_
      exact ⟨_, _, _, rfl, ⟨vs, HO.out.only HC.out.res (set4_only wr _ _ _ _ _)⟩, set4_below HC.out.bel (Nat.le_succ _) _ _ _ _⟩
end Go.Proofs.YtjnijppghgemeaaDoor
