/- Walks: making a node, as the program does it. Walks: sharing, as the program and as the reference do it; the reference's New. Walks: what the document fixes of two secrets (awake). -/
import Derived.Test.YtgjhhipkfglpgaaDoorQe
namespace Go.Proofs.YtgjhhipkfglpgaaDoor
open Go.RowKit Go.Maps

/-- What a world keeps of another one, but for three blocks and new ones. -/
structure Kept (w w' : World) (b g bm : Nat) : Prop where
  os : w'.os = w.os
  tape : w'.tape = w.tape
  output : w'.output = w.output
  size : w.heap.size ≤ w'.heap.size
  block : ∀ k, k < w.heap.size → k ≠ b → k ≠ g → k ≠ bm → w'.heap[k]? = w.heap[k]?
theorem Kept.of {w w' : World} {b g bm : Nat} (h : Below w.heap.size w w') : Kept w w' b g bm := ⟨h.os, h.tape, h.output, h.size, fun k hk _ _ _ => h.block k hk⟩
theorem Kept.below {B b g bm : Nat} {w0 w w' : World} (h : Kept w w' b g bm) (h0 : Below B w0 w) (hB : B ≤ w.heap.size) (h1 : B ≤ b) (h2 : B ≤ g) (h3 : B ≤ bm) : Below B w0 w' :=
  ⟨h.os.trans h0.os, h.tape.trans h0.tape, h.output.trans h0.output, Nat.le_trans h0.size h.size, fun k hk => (h.block k (by omega) (by omega) (by omega) (by omega)).trans (h0.block k hk)⟩

/-- What Mk leaves. -/
def MkPost (b g bm lim : Nat) (L : List Nd) (d : Nd) (w : World) (e : Ending) (w' : World) : Prop :=
  ∃ g' cap', e = .returned (.tuple #[.int .i64 (mkR lim L d), .int .i64 (mkE lim L d)]) ∧ Ar w' b g' bm cap' lim (mkL lim L d) ∧ (g' = g ∨ w.heap.size ≤ g') ∧ Kept w w' b g bm

theorem mkPost_same {b g bm cap lim : Nat} {L : List Nd} {d : Nd} {r er : Int} {w w' : World} (hV : mkL lim L d = L ∧ mkR lim L d = r ∧ mkE lim L d = er) (hA : Ar w b g bm cap lim L) (hb : Below w.heap.size w w') :
    MkPost b g bm lim L d w (.returned (.tuple #[.int .i64 r, .int .i64 er])) w' := by
  unfold MkPost
  rw [hV.1, hV.2.1, hV.2.2]
  exact ⟨g, cap, rfl, hA.below hb, .inl rfl, Kept.of hb⟩

/-- Behind the append. -/
def MidPost (b g bm lim : Nat) (L : List Nd) (d : Nd) (w wx : World) : Prop :=
  ∃ g2 cap2, wx.heap[b]? = some (.cells #[.slice (some ⟨g2, 0, none⟩) (L.length + 1) cap2, .map (some bm), .int .i64 lim] 72 (0, 0)) ∧
    wx.ownsRow 0 53 5 (.slice (some ⟨g2, 0, none⟩) (L.length + 1) cap2) (L.length + 1) (cells (L ++ [d])) ∧ (g2 = g ∨ w.heap.size ≤ g2) ∧ g2 < wx.heap.size ∧
    wx.heap[bm]? = w.heap[bm]? ∧ wx.heap[w.heap.size]? = some (.cells #[.int .i64 d.k, .int .u64 d.n, .int .i64 d.a, .int .i64 d.b, .int .i64 d.c] 53 (0, 0)) ∧ Kept w wx b g bm

theorem setCell_box {w : World} {b : Nat} {u v0 v1 v2 : Value} {t : TypeId} (h : w.heap[b]? = some (.cells #[v0, v1, v2] t (0, 0))) : (w.setCell ⟨b, 0, none⟩ u).heap[b]? = some (.cells #[u, v1, v2] t (0, 0)) := by
  simp only [World.setCell, Array.getElem?_modify, if_true, h]
  rfl

theorem mid_rel {b g bm cap lim g1 cap1 : Nat} {L : List Nd} {d : Nd} {w X w4 : World} (hA : Ar w b g bm cap lim L) (hbX : Below w.heap.size w X) (hbox : X.heap[w.heap.size]? = some (.cells #[.int .i64 d.k, .int .u64 d.n, .int .i64 d.a, .int .i64 d.b, .int .i64 d.c] 53 (0, 0)))
    (hown : w4.ownsRow 0 53 5 (.slice (some ⟨g1, 0, none⟩) (L.length + 1) cap1) (L.length + 1) (cells L ++ vals d)) (hgr : X.grownBy w4 (some g)) (hat : some g = some g1 ∨ g1 = X.heap.size) (hlt : g1 < w4.heap.size) :
    MidPost b g bm lim L d w (w4.setCell ⟨b, 0, none⟩ (.slice (some ⟨g1, 0, none⟩) (L.length + 1) cap1)) := by
  have hbs := hA.blt
  have hgs := hA.glt
  have hms := hA.mlt
  have hXs := hbX.size
  have h1 : ∀ k, k < w.heap.size → k ≠ g → w4.heap[k]? = w.heap[k]? := fun k hk hne => (hgr.block k (by omega) (by simpa using hne)).trans (hbX.block k hk)
  have hg1 : g1 = g ∨ w.heap.size ≤ g1 := by
    rcases hat with h | h
    · exact .inl (by simpa using h.symm)
    · exact .inr (by omega)
  have hb1 : b ≠ g1 := by
    rcases hg1 with h | h
    · rw [h]; exact hA.nbg
    · omega
  have hXlt : w.heap.size < X.heap.size := lt_of_heap hbox
  refine ⟨g1, cap1, setCell_box ((h1 b hbs hA.nbg).trans hA.box), ?_, hg1, by simp [World.setCell]; exact hlt, ?_, ?_, ?_⟩
  · rw [cells_append, cells_one]
    obtain ⟨e, h'⟩ := hown
    refine ⟨e, ?_⟩
    rcases h' with h' | ⟨g', cap', cur, hv, hb, hg, rest⟩
    · exact .inl h'
    · refine .inr ⟨g', cap', cur, hv, hb, ?_, rest⟩
      have : g' = g1 := by simpa using (congrArg (fun v => match v with | Value.slice (some a) _ _ => a.block | _ => 0) hv).symm
      rw [Below.heap_setCell _ _ _ _ (by rw [this]; exact Ne.symm hb1)]; exact hg
  · rw [Below.heap_setCell _ _ _ _ (Ne.symm hA.nbm)]; exact h1 bm hms (Ne.symm hA.ngm)
  · rw [Below.heap_setCell _ _ _ _ (by simp; omega), hgr.block _ hXlt (by simp; omega)]; exact hbox
  · exact ⟨hgr.os.trans hbX.os, hgr.tape.trans hbX.tape, hgr.output.trans hbX.output, by simp [World.setCell]; have := hgr.size; omega, fun k hk n1 n2 _ => by rw [Below.heap_setCell _ _ _ _ n1]; exact h1 k hk n2⟩

theorem kept_grown {b g : Nat} {X0 X w4 : World} (hB : Below X0.heap.size X0 X) (hg : X.grownBy w4 (some g)) : Kept X0 w4 b g g :=
  ⟨hg.os.trans hB.os, hg.tape.trans hB.tape, hg.output.trans hB.output, Nat.le_trans hB.size hg.size, fun k hk _ n2 _ => (hg.block k (Nat.lt_of_lt_of_le hk hB.size) (by simp; exact n2)).trans (hB.block k hk)⟩
theorem kept_set {b g : Nat} {X0 w4 : World} (h : Kept X0 w4 b g g) (u : Value) : Kept X0 (w4.setCell ⟨b, 0, none⟩ u) b g g :=
  ⟨h.os, h.tape, h.output, by simp [World.setCell]; exact h.size, fun k hk n1 n2 n3 => by rw [Below.heap_setCell _ _ _ _ n1]; exact h.block k hk n1 n2 n3⟩
theorem own_below {X0 X : World} {g n cap : Nat} {xs : List Value} (h : X0.ownsRow 0 53 5 (.slice (some ⟨g, 0, none⟩) n cap) n xs) (hB : Below X0.heap.size X0 X) : X.ownsRow 0 53 5 (.slice (some ⟨g, 0, none⟩) n cap) n xs :=
  h.kept (row := none) ⟨hB.os, hB.tape, hB.output, hB.size, fun k hk _ => hB.block k hk⟩ (by simp [Value.ownBlock])
theorem mk_end {b g bm cap lim : Nat} {L : List Nd} {d : Nd} {w w6 : World} (hA : Ar w b g bm cap lim L) (hok : d.ok) (hr : right L d = true) (hn : ix d L = none) (hl : L.length < lim) {g2 cap2 : Nat} {wx : World}
    (hbox : wx.heap[b]? = some (.cells #[.slice (some ⟨g2, 0, none⟩) (L.length + 1) cap2, .map (some bm), .int .i64 lim] 72 (0, 0))) (hown : wx.ownsRow 0 53 5 (.slice (some ⟨g2, 0, none⟩) (L.length + 1) cap2) (L.length + 1) (cells (L ++ [d])))
    (hg2 : g2 = g ∨ w.heap.size ≤ g2) (hk : Kept w wx b g bm) {D : DataW Unit} (hD : w6.ownsMap Tryd.prog 53 (plainElem Tryd.prog 3) bm (L.length + 1) D) (hR : Reg D (L ++ [d])) (hgr : wx.grownBy w6 (some bm)) :
    MkPost b g bm lim L d w (.returned (.tuple #[.int .i64 L.length, .int .i64 0])) w6 := by
  have hbs := hA.blt
  have hgs := hA.glt
  have hms := hA.mlt
  have hv := mk_new (lim := lim) hr hn hl
  have hgm : g2 ≠ bm := by
    rcases hg2 with h | h
    · rw [h]; exact hA.ngm
    · omega
  have hbg : b ≠ g2 := by
    rcases hg2 with h | h
    · rw [h]; exact hA.nbg
    · omega
  unfold MkPost
  rw [hv.1, hv.2.1, hv.2.2]
  have hL : (L ++ [d]).length = L.length + 1 := by simp
  refine ⟨g2, cap2, rfl, ⟨?_, ?_, ⟨D, by rw [hL]; exact hD, hR⟩, hbg, hA.nbm, hgm, by rw [hL]; omega, hA.max, hA.wf.snoc hok hr hn⟩, hg2, ?_⟩
  · rw [hL, hgr.block b (lt_of_heap hbox) (by simp; exact hA.nbm)]; exact hbox
  · rw [hL]; exact hown.kept hgr (by simp [Value.ownBlock]; exact hgm)
  · have hks := hk.size
    exact ⟨hgr.os.trans hk.os, hgr.tape.trans hk.tape, hgr.output.trans hk.output, Nat.le_trans hk.size hgr.size, fun k hlt n1 n2 n3 => (hgr.block k (by omega) (by simp; exact n3)).trans (hk.block k hlt n1 n2 n3)⟩

set_option maxRecDepth 100000 in
set_option maxHeartbeats 4000000 in
theorem mk_any (b g bm cap lim : Nat) (L : List Nd) (k n a b' c : Int) (w : World) (hA : Ar w b g bm cap lim L) (hsh : Shp w) (hok : (⟨k, n, a, b', c⟩ : Nd).ok) :
    Calls Tryd.prog 18 #[.pointer (some ⟨b, 0, none⟩), .agg #[.int .i64 k, .int .u64 n, .int .i64 a, .int .i64 b', .int .i64 c]] w (MkPost b g bm lim L ⟨k, n, a, b', c⟩ w) := by
  have hbl : b < w.heap.size := hA.blt
  have HB1 := Lib.hid (fun o => (Below.refl w.heap.size w).alloc (Nat.le_refl _) o)
  have HV := Lib.hid (fun o => valid_any b g bm cap lim L k n a b' c (w.alloc o) (hA.below (HB1.out o)) (hsh.below (HB1.out o)) hok.2.1)
  have HA := Lib.hid hA; clear hA
  have HOK := Lib.hid hok; clear hok
  have HSH := Lib.hid hsh; clear hsh
  go_enter Tryd.func18, Tryd.ntmps18
  go_wp2_with fail
  refine (HV.out _).mono ?_
  rintro e w1 ⟨rfl, hb1⟩
  have hc1 := bcell hb1
  have hs1 := hb1.size
  simp only [World.size_alloc] at hc1 hs1
  have n0 : w1.cell? ⟨w.heap.size, 0, none⟩ = some (.int .i64 k) := by rw [hc1 _ _ (by omega)]; go_simp
  have n1 : w1.cell? ⟨w.heap.size, 1, none⟩ = some (.int .u64 n) := by rw [hc1 _ _ (by omega)]; go_simp
  have n2 : w1.cell? ⟨w.heap.size, 2, none⟩ = some (.int .i64 a) := by rw [hc1 _ _ (by omega)]; go_simp
  have n3 : w1.cell? ⟨w.heap.size, 3, none⟩ = some (.int .i64 b') := by rw [hc1 _ _ (by omega)]; go_simp
  have n4 : w1.cell? ⟨w.heap.size, 4, none⟩ = some (.int .i64 c) := by rw [hc1 _ _ (by omega)]; go_simp
  have HX1 : Hid (w1.heap[w.heap.size]? = some (.cells #[.int .i64 k, .int .u64 n, .int .i64 a, .int .i64 b', .int .i64 c] 53 (0, 0))) := Lib.hid (by rw [hb1.block _ (by simp)]; exact heap_alloc_new w _)
  have HB2 := Lib.hid ((HB1.out _).trans (hb1.mono (HB1.out _).size))
  clear hc1 hb1 HV HB1
  cases hrt : right L ⟨k, n, a, b', c⟩
  · have HM := Lib.hid (mk_wrong (lim := lim) hrt)
    have HR := Lib.hid hrt; clear hrt
    go_wp2_with fail
    go_ret2
    exact mkPost_same HM.out HA.out HB2.out
  have HR := Lib.hid hrt; clear hrt
  have HF := Lib.hid (find_any b g bm cap lim L k n a b' c w1 (HA.out.below HB2.out) HOK.out)
  go_wp2_with fail
  refine HF.out.mono ?_
  rintro e w2 ⟨rfl, hb2⟩
  have hc2 := bcell hb2
  have hs2 := hb2.size
  have m0 := (hc2 w.heap.size 0 (by omega)).trans n0
  have m1 := (hc2 w.heap.size 1 (by omega)).trans n1
  have m2 := (hc2 w.heap.size 2 (by omega)).trans n2
  have m3 := (hc2 w.heap.size 3 (by omega)).trans n3
  have m4 := (hc2 w.heap.size 4 (by omega)).trans n4
  have HX2 := Lib.hid ((hb2.block _ (by omega)).trans HX1.out)
  have HB3 := Lib.hid (HB2.out.trans (hb2.mono HB2.out.size))
  have l2 : w.heap.size < w2.heap.size := by omega
  clear hc2 hb2 HF HB2 HX1 n0 n1 n2 n3 n4 hs1
  have hA2 := HA.out.below HB3.out
  have c0 := hA2.c0
  have c1 := hA2.c1
  have c2 := hA2.c2
  have hbl2 := hA2.blt
  have HA2 := Lib.hid hA2; clear hA2
  cases hix : ix ⟨k, n, a, b', c⟩ L with
  | some i =>
    have HM := Lib.hid (mk_old (lim := lim) HR.out hix)
    have HI := Lib.hid hix; clear hix
    go_wp2_with fail
    go_ret2
    exact mkPost_same HM.out HA.out HB3.out
  | none =>
    have HI := Lib.hid hix; clear hix
    by_cases hl : lim ≤ L.length
    · have HM := Lib.hid (mk_full (lim := lim) HR.out HI.out hl)
      have hd : decide ((lim : Int) ≤ (L.length : Int)) = true := by simpa using hl
      go_wp2_with fail
      go_quiet (fail)
      go_wp2_with fail
      go_ret2
      exact mkPost_same HM.out HA.out (belowDrewN HB3.out)
    · have hd : decide (lim ≤ L.length) = false := by simpa using hl
      have hd2 : L.length < lim := by omega
      clear hl
      go_wp2_with fail
      go_quiet (fail)
      go_wp2_with fail
      have HX3 : Hid ((w2.drewN nq).heap[w.heap.size]? = some (.cells #[.int .i64 k, .int .u64 n, .int .i64 a, .int .i64 b', .int .i64 c] 53 (0, 0))) := Lib.hid HX2.out
      have HB4 : Hid (Below w.heap.size w (w2.drewN nq)) := Lib.hid (belowDrewN HB3.out)
      have f0 : (w2.drewN nq).frozen? ⟨b, 0, none⟩ = false := frozen_of_row _ _ _ _ _ HA2.out.box
      have k0 : (w2.drewN nq).cell? ⟨b, 0, none⟩ = some (.slice (some ⟨g, 0, none⟩) L.length cap) := c0
      have k1 : (w2.drewN nq).cell? ⟨b, 1, none⟩ = some (.map (some bm)) := c1
      have m0 : (w2.drewN nq).cell? ⟨w.heap.size, 0, none⟩ = some (.int .i64 k) := m0
      have m1 : (w2.drewN nq).cell? ⟨w.heap.size, 1, none⟩ = some (.int .u64 n) := m1
      have m2 : (w2.drewN nq).cell? ⟨w.heap.size, 2, none⟩ = some (.int .i64 a) := m2
      have m3 : (w2.drewN nq).cell? ⟨w.heap.size, 3, none⟩ = some (.int .i64 b') := m3
      have m4 : (w2.drewN nq).cell? ⟨w.heap.size, 4, none⟩ = some (.int .i64 c) := m4
      have HO : Hid ((w2.drewN nq).ownsRow 0 53 5 (.slice (some ⟨g, 0, none⟩) L.length cap) L.length (cells L)) := Lib.hid HA2.out.own
      have lx : w.heap.size < (w2.drewN nq).heap.size := l2
      have lb : b < (w2.drewN nq).heap.size := hbl2
      generalize w2.drewN nq = X0 at *
      clear hs2 c0 c1 c2 HX2 HB3 HA2 l2 hbl2 hd
      obtain ⟨i0, hi0, hz0, hz1, hz2⟩ := info_parts Tryd.info53
      have hsm := HA.out.small
      have hgl := HA.out.glt
      have hbne : w.heap.size ≠ b := by omega
      have hgne : w.heap.size ≠ g := by omega
      go_cut [] (fun wx => MidPost b g bm lim L ⟨k, n, a, b', c⟩ w wx)
      case first =>
        refine wp_region_noPanic ?_
        refine wp_region_held_drew (S := fun W' => Kept X0 W' b g g) (by kernel_rfl) (Kept.of (Below.refl _ _).drew) (fun hHeld => ?_)
        refine wpAnyH_take (i := 0) (v := ?_) rfl (by kernel_rfl) (by kernel_rfl) (by kernel_rfl) (fun _ _ _ h => h) (Or.inl ⟨by rfl, ?_⟩) (by assumption) ?_
        rotate_left
        · (intro W hSw; go_simp; try with_reducible rfl)
        try simp only [List.getElem_toArray, List.getElem_cons_zero, Act.put, List.setIfInBounds_toArray, List.set_cons_zero, List.set_cons_succ]
        refine wpAnyH_take (i := 1) (v := ?_) rfl (by kernel_rfl) (by kernel_rfl) (by kernel_rfl) (fun _ _ _ h => h) (Or.inl ⟨by rfl, ?_⟩) (by assumption) ?_
        rotate_left
        · (intro W hSw; go_simp; try with_reducible rfl)
        try simp only [List.getElem_toArray, List.getElem_cons_succ, List.getElem_cons_zero, Act.put, List.setIfInBounds_toArray, List.set_cons_zero, List.set_cons_succ]
        refine wpAnyH_take (i := 2) (v := ?_) rfl (by kernel_rfl) (by kernel_rfl) (by kernel_rfl) (fun _ _ _ h => h) (Or.inl ⟨by rfl, ?_⟩) (by assumption) ?_
        rotate_left
        · (intro W hSw; go_simp; try with_reducible rfl)
        try simp only [List.getElem_toArray, List.getElem_cons_succ, List.getElem_cons_zero, Act.put, List.setIfInBounds_toArray, List.set_cons_zero, List.set_cons_succ]
        refine wpAnyH_take (i := 3) (v := ?_) rfl (by kernel_rfl) (by kernel_rfl) (by kernel_rfl) (fun _ _ _ h => h) (Or.inl ⟨by rfl, ?_⟩) (by assumption) ?_
        rotate_left
        · (intro W hSw; go_simp; try with_reducible rfl)
        try simp only [List.getElem_toArray, List.getElem_cons_succ, List.getElem_cons_zero, Act.put, List.setIfInBounds_toArray, List.set_cons_zero, List.set_cons_succ]
        refine wpAnyH_take (i := 5) (v := ?_) rfl (by kernel_rfl) (by kernel_rfl) (by kernel_rfl) (fun _ _ _ h => h) (Or.inl ⟨by rfl, ?_⟩) (by assumption) ?_
        rotate_left
        · (intro W hSw; have q := hSw.block w.heap.size lx hbne hgne hgne; have e0 := (World.cell?_of_block (a := ⟨w.heap.size, 0, none⟩) q).trans m0; have e1 := (World.cell?_of_block (a := ⟨w.heap.size, 1, none⟩) q).trans m1; have e2 := (World.cell?_of_block (a := ⟨w.heap.size, 2, none⟩) q).trans m2; have e3 := (World.cell?_of_block (a := ⟨w.heap.size, 3, none⟩) q).trans m3; have e4 := (World.cell?_of_block (a := ⟨w.heap.size, 4, none⟩) q).trans m4; clear q; go_simp; try with_reducible rfl)
        try simp only [List.getElem_toArray, List.getElem_cons_succ, List.getElem_cons_zero, Act.put, List.setIfInBounds_toArray, List.set_cons_zero, List.set_cons_succ]
        clear hHeld
        have hB : Below X0.heap.size X0 X0.drew := (Below.refl _ _).drew
        generalize X0.drew = X1 at *
        refine wpAnyH_ready (rs := [4, 6]) (by kernel_rfl) (by simp) ?_
        refine AllReadyH.cons rfl (fun K hK => ?_) (AllReadyH.cons rfl (fun K hK => ?_) AllReadyH.nil)
        · skip
          have e1 := (bcell hB b 0 lb).trans k0
          go_simp
          refine hK.out _ _ (Kept.of hB) (fun hHeld => ?_)
          clear hK K hHeld e1
          try simp only [List.getElem_toArray, List.getElem_cons_succ, List.getElem_cons_zero, Act.put, List.setIfInBounds_toArray, List.set_cons_zero, List.set_cons_succ]
          refine wpAnyH_ready (rs := [6]) (by kernel_rfl) (by simp) ?_
          refine AllReadyH.cons rfl (fun K hK => ?_) AllReadyH.nil
          go_simp
          refine hK.out _ _ (Kept.of (hB.alloc hB.size _)) (fun hHeld => ?_)
          clear hK K hHeld
          try simp only [List.getElem_toArray, List.getElem_cons_succ, List.getElem_cons_zero, Act.put, List.setIfInBounds_toArray, List.set_cons_zero, List.set_cons_succ]
          have hB' := hB.alloc hB.size (.cells #[.int .i64 k, .int .u64 n, .int .i64 a, .int .i64 b', .int .i64 c] 53)
          have hN := heap_alloc_new X1 (.cells #[.int .i64 k, .int .u64 n, .int .i64 a, .int .i64 b', .int .i64 c] 53)
          obtain ⟨Nb, hNe⟩ : ∃ v, v = X1.heap.size := ⟨_, rfl⟩
          rw [← hNe] at hN ⊢
          have hNlt : Nb < (X1.alloc (.cells #[.int .i64 k, .int .u64 n, .int .i64 a, .int .i64 b', .int .i64 c] 53)).heap.size := by rw [hNe]; simp
          clear hNe hB
          generalize X1.alloc (.cells #[.int .i64 k, .int .u64 n, .int .i64 a, .int .i64 b', .int .i64 c] 53) = X2 at *
          have hB := hB'
          clear hB'
          have hown : X2.ownsRow 0 53 5 (.slice (some ⟨g, 0, none⟩) L.length cap) L.length (cells L) := own_below HO.out hB
          have hXbox := (hB.block _ lx).trans HX3.out
          have hbX := HB4.out.trans (hB.mono HB4.out.size)
          refine wpAnyH_ready (rs := [7]) (by kernel_rfl) (by simp) ?_
          refine AllReadyH.cons rfl (fun K hK => ?_) AllReadyH.nil
          refine step_append_lies _ (by rfl) (.tmp 40) (.tmp 42) 22 (by rfl) 0 53 i0 _ 5 40 Tryd.underlying22 hi0 hz0 hz1 hz2 rfl (by omega) (.slice (some ⟨g, 0, none⟩) L.length cap) L.length (cells L) (by rfl) hown ⟨Nb, 0, none⟩ 1 1 (vals ⟨k, n, a, b', c⟩) (by rfl) (by rfl) (World.news_of_block (cs := #[.int .i64 k, .int .u64 n, .int .i64 a, .int .i64 b', .int .i64 c]) (t := 53) (fr := (0, 0)) hN) (by simp [vals, Value.oneCell']) (by omega) (by simp [maxLen]; omega) (by omega) (Nat.zero_le _) _ rfl ?_
          intro g2 cap2 w4 hown2 hgr2 hat2 hlt2
          have hgr2 : X2.grownBy w4 (some g) := hgr2
          have hat2 : some g = some g2 ∨ g2 = X2.heap.size := hat2
          have HGM := Lib.hid (mid_rel (d := ⟨k, n, a, b', c⟩) HA.out hbX hXbox hown2 hgr2 hat2 hlt2)
          have e1 : w4.cell? ⟨b, 0, none⟩ = some (.slice (some ⟨g, 0, none⟩) L.length cap) := hgr2.cell ((bcell hB b 0 lb).trans k0) (by simp; exact HA.out.nbg)
          have e2 : w4.frozen? ⟨b, 0, none⟩ = false := (hgr2.frozen_far ⟨b, 0, none⟩ (by have := hB.size; simp; omega) (by simp; exact HA.out.nbg)).trans ((bfroz hB b 0 lb).trans f0)
          have hk4 := kept_grown (b := b) hB hgr2
          refine hK.out _ _ hk4 (fun hHeld => ?_)
          clear hK K hHeld hown hown2 hat2 hgr2 hXbox hbX hN
          try simp only [List.getElem_toArray, List.getElem_cons_succ, List.getElem_cons_zero, Act.put, List.setIfInBounds_toArray, List.set_cons_zero, List.set_cons_succ]
          refine wpAnyH_take (i := 8) (v := ?_) rfl (by kernel_rfl) (by kernel_rfl) (by kernel_rfl) (fun _ _ _ h => h) (Or.inl ⟨by rfl, ?_⟩) hk4 ?_
          rotate_left
          · (intro W hSw; go_simp; try with_reducible rfl)
          try simp only [List.getElem_toArray, List.getElem_cons_succ, List.getElem_cons_zero, Act.put, List.setIfInBounds_toArray, List.set_cons_zero, List.set_cons_succ]
          refine wpAnyH_take (i := 9) (v := ?_) rfl (by kernel_rfl) (by kernel_rfl) (by kernel_rfl) (fun _ _ _ h => h) (Or.inl ⟨by rfl, ?_⟩) hk4 ?_
          rotate_left
          · (intro W hSw; go_simp; try with_reducible rfl)
          try simp only [List.getElem_toArray, List.getElem_cons_succ, List.getElem_cons_zero, Act.put, List.setIfInBounds_toArray, List.set_cons_zero, List.set_cons_succ]
          refine wpAnyH_ready (rs := [10]) (by kernel_rfl) (by simp) ?_
          refine AllReadyH.cons rfl (fun K hK => ?_) AllReadyH.nil
          go_simp
          refine hK.out _ _ (kept_set hk4 _) (fun hHeld => ?_)
          clear hK K hHeld e1 e2
          try simp only [List.getElem_toArray, List.getElem_cons_succ, List.getElem_cons_zero, Act.put, List.setIfInBounds_toArray, List.set_cons_zero, List.set_cons_succ]
          refine wpAnyH_done (by kernel_rfl) ?_ _
          refine NoPanic.normal ?_
          go_wp2_with fail
          go_meet
          case rel => exact HGM.out
        · skip
          go_simp
          refine hK.out _ _ (Kept.of (hB.alloc hB.size _)) (fun hHeld => ?_)
          clear hK K hHeld
          try simp only [List.getElem_toArray, List.getElem_cons_succ, List.getElem_cons_zero, Act.put, List.setIfInBounds_toArray, List.set_cons_zero, List.set_cons_succ]
          have hB' := hB.alloc hB.size (.cells #[.int .i64 k, .int .u64 n, .int .i64 a, .int .i64 b', .int .i64 c] 53)
          have hN := heap_alloc_new X1 (.cells #[.int .i64 k, .int .u64 n, .int .i64 a, .int .i64 b', .int .i64 c] 53)
          obtain ⟨Nb, hNe⟩ : ∃ v, v = X1.heap.size := ⟨_, rfl⟩
          rw [← hNe] at hN ⊢
          have hNlt : Nb < (X1.alloc (.cells #[.int .i64 k, .int .u64 n, .int .i64 a, .int .i64 b', .int .i64 c] 53)).heap.size := by rw [hNe]; simp
          clear hNe hB
          generalize X1.alloc (.cells #[.int .i64 k, .int .u64 n, .int .i64 a, .int .i64 b', .int .i64 c] 53) = X3 at *
          have hB := hB'
          clear hB'
          refine wpAnyH_ready (rs := [4]) (by kernel_rfl) (by simp) ?_
          refine AllReadyH.cons rfl (fun K hK => ?_) AllReadyH.nil
          have e1 := (bcell hB b 0 lb).trans k0
          go_simp
          refine hK.out _ _ (Kept.of hB) (fun hHeld => ?_)
          clear hK K hHeld e1
          try simp only [List.getElem_toArray, List.getElem_cons_succ, List.getElem_cons_zero, Act.put, List.setIfInBounds_toArray, List.set_cons_zero, List.set_cons_succ]
          have hown : X3.ownsRow 0 53 5 (.slice (some ⟨g, 0, none⟩) L.length cap) L.length (cells L) := own_below HO.out hB
          have hXbox := (hB.block _ lx).trans HX3.out
          have hbX := HB4.out.trans (hB.mono HB4.out.size)
          refine wpAnyH_ready (rs := [7]) (by kernel_rfl) (by simp) ?_
          refine AllReadyH.cons rfl (fun K hK => ?_) AllReadyH.nil
          refine step_append_lies _ (by rfl) (.tmp 40) (.tmp 42) 22 (by rfl) 0 53 i0 _ 5 40 Tryd.underlying22 hi0 hz0 hz1 hz2 rfl (by omega) (.slice (some ⟨g, 0, none⟩) L.length cap) L.length (cells L) (by rfl) hown ⟨Nb, 0, none⟩ 1 1 (vals ⟨k, n, a, b', c⟩) (by rfl) (by rfl) (World.news_of_block (cs := #[.int .i64 k, .int .u64 n, .int .i64 a, .int .i64 b', .int .i64 c]) (t := 53) (fr := (0, 0)) hN) (by simp [vals, Value.oneCell']) (by omega) (by simp [maxLen]; omega) (by omega) (Nat.zero_le _) _ rfl ?_
          intro g2 cap2 w4 hown2 hgr2 hat2 hlt2
          have hgr2 : X3.grownBy w4 (some g) := hgr2
          have hat2 : some g = some g2 ∨ g2 = X3.heap.size := hat2
          have HGM := Lib.hid (mid_rel (d := ⟨k, n, a, b', c⟩) HA.out hbX hXbox hown2 hgr2 hat2 hlt2)
          have e1 : w4.cell? ⟨b, 0, none⟩ = some (.slice (some ⟨g, 0, none⟩) L.length cap) := hgr2.cell ((bcell hB b 0 lb).trans k0) (by simp; exact HA.out.nbg)
          have e2 : w4.frozen? ⟨b, 0, none⟩ = false := (hgr2.frozen_far ⟨b, 0, none⟩ (by have := hB.size; simp; omega) (by simp; exact HA.out.nbg)).trans ((bfroz hB b 0 lb).trans f0)
          have hk4 := kept_grown (b := b) hB hgr2
          refine hK.out _ _ hk4 (fun hHeld => ?_)
          clear hK K hHeld hown hown2 hat2 hgr2 hXbox hbX hN
          try simp only [List.getElem_toArray, List.getElem_cons_succ, List.getElem_cons_zero, Act.put, List.setIfInBounds_toArray, List.set_cons_zero, List.set_cons_succ]
          refine wpAnyH_take (i := 8) (v := ?_) rfl (by kernel_rfl) (by kernel_rfl) (by kernel_rfl) (fun _ _ _ h => h) (Or.inl ⟨by rfl, ?_⟩) hk4 ?_
          rotate_left
          · (intro W hSw; go_simp; try with_reducible rfl)
          try simp only [List.getElem_toArray, List.getElem_cons_succ, List.getElem_cons_zero, Act.put, List.setIfInBounds_toArray, List.set_cons_zero, List.set_cons_succ]
          refine wpAnyH_take (i := 9) (v := ?_) rfl (by kernel_rfl) (by kernel_rfl) (by kernel_rfl) (fun _ _ _ h => h) (Or.inl ⟨by rfl, ?_⟩) hk4 ?_
          rotate_left
          · (intro W hSw; go_simp; try with_reducible rfl)
          try simp only [List.getElem_toArray, List.getElem_cons_succ, List.getElem_cons_zero, Act.put, List.setIfInBounds_toArray, List.set_cons_zero, List.set_cons_succ]
          refine wpAnyH_ready (rs := [10]) (by kernel_rfl) (by simp) ?_
          refine AllReadyH.cons rfl (fun K hK => ?_) AllReadyH.nil
          go_simp
          refine hK.out _ _ (kept_set hk4 _) (fun hHeld => ?_)
          clear hK K hHeld e1 e2
          try simp only [List.getElem_toArray, List.getElem_cons_succ, List.getElem_cons_zero, Act.put, List.setIfInBounds_toArray, List.set_cons_zero, List.set_cons_succ]
          refine wpAnyH_done (by kernel_rfl) ?_ _
          refine NoPanic.normal ?_
          go_wp2_with fail
          go_meet
          case rel => exact HGM.out
      case rest =>
        obtain ⟨g2, cap2, hbox, hown, hg2, hg2lt, hbm, hnode, hk⟩ := hcut
        clear hi0 hz0 hz1 hz2 k0 k1 m0 m1 m2 m3 m4 f0 HX3 HB4 HO lx lb
        have z1 : wc.cell? ⟨b, 1, none⟩ = some (.map (some bm)) := by rw [cell_of_row wc b 1 _ _ _ hbox]; rfl
        have m0 : wc.cell? ⟨w.heap.size, 0, none⟩ = some (.int .i64 k) := by rw [cell_of_row wc _ 0 _ _ _ hnode]; rfl
        have m1 : wc.cell? ⟨w.heap.size, 1, none⟩ = some (.int .u64 n) := by rw [cell_of_row wc _ 1 _ _ _ hnode]; rfl
        have m2 : wc.cell? ⟨w.heap.size, 2, none⟩ = some (.int .i64 a) := by rw [cell_of_row wc _ 2 _ _ _ hnode]; rfl
        have m3 : wc.cell? ⟨w.heap.size, 3, none⟩ = some (.int .i64 b') := by rw [cell_of_row wc _ 3 _ _ _ hnode]; rfl
        have m4 : wc.cell? ⟨w.heap.size, 4, none⟩ = some (.int .i64 c) := by rw [cell_of_row wc _ 4 _ _ _ hnode]; rfl
        obtain ⟨kl, hkl⟩ := key_ok HOK.out
        obtain ⟨D, hD, hR⟩ := HA.out.reg
        have hDw : wc.drew.ownsMap Tryd.prog 53 (plainElem Tryd.prog 3) bm L.length D := by
          obtain ⟨es, clock, he, rest⟩ := hD
          exact ⟨es, clock, hbm.trans he, rest⟩
        obtain ⟨w6, hup, hD6, hturn⟩ := hDw.store law33 Tryd.underlying70 (by simp [maxLen]; omega) hkl (plainElem_int (a := (L.length : Int)) Tryd.underlying3 (wf_i64 (by unfold i64ok; omega)))
        have HE := Lib.hid (mk_end (w6 := w6) HA.out HOK.out HR.out HI.out hd2 hbox hown hg2 hk hD6 (hR.put hkl HI.out) ⟨hturn.grown.os, hturn.grown.tape, hturn.grown.output, hturn.grown.size, hturn.grown.block⟩)
        clear hbox hown hg2 hg2lt hbm hnode hk hD hDw hD6 hturn hR hkl
        unfold agg at hup
        simp only at hup
        go_wp2_with fail
        go_region
        go_wp2_with fail
        go_ret2
        exact HE.out
end Go.Proofs.YtgjhhipkfglpgaaDoor

namespace Go.Proofs.YtgjhhipkfglpgaaDoor
open Go.RowKit Go.Maps

def ShPost (b g bm lim : Nat) (L : List Nd) (x y : Int) (w : World) (e : Ending) (w' : World) : Prop :=
  ∃ g' cap', e = .returned (.tuple #[.int .i64 (shR lim L x y), .int .i64 (shE lim L x y)]) ∧ Ar w' b g' bm cap' lim (shL lim L x y) ∧ (g' = g ∨ w.heap.size ≤ g') ∧ Kept w w' b g bm

theorem Kept.from {w W w' : World} {b g bm : Nat} (hB : Below w.heap.size w W) (h : Kept W w' b g bm) : Kept w w' b g bm :=
  ⟨h.os.trans hB.os, h.tape.trans hB.tape, h.output.trans hB.output, Nat.le_trans hB.size h.size, fun k hk n1 n2 n3 => (h.block k (Nat.lt_of_lt_of_le hk hB.size) n1 n2 n3).trans (hB.block k hk)⟩

theorem sh_close {b g bm lim g' cap' : Nat} {L : List Nd} {x y : Int} {d : Nd} {w W w' : World} (hbo : both L x y = true) (hd : shN L x y = d) (hB : Below w.heap.size w W) (hA : Ar w' b g' bm cap' lim (mkL lim L d)) (hg : g' = g ∨ W.heap.size ≤ g') (hk : Kept W w' b g bm) :
    ShPost b g bm lim L x y w (.returned (.tuple #[.int .i64 (mkR lim L d), .int .i64 (mkE lim L d)])) w' := by
  subst hd
  unfold ShPost shL shR shE
  rw [if_pos hbo, if_pos hbo, if_pos hbo]
  refine ⟨g', cap', rfl, hA, ?_, Kept.from hB hk⟩
  rcases hg with h | h
  · exact .inl h
  · exact .inr (Nat.le_trans hB.size h)

end Go.Proofs.YtgjhhipkfglpgaaDoor

namespace Go.Proofs.YtgjhhipkfglpgaaDoor
open Go.RowKit Go.Maps

/-- An arena made since the world w. -/
structure St (w wi : World) (b g bm cap lim : Nat) (L : List Nd) : Prop where
  ar : Ar wi b g bm cap lim L
  bel : Below w.heap.size w wi
  hb : w.heap.size ≤ b
  hg : w.heap.size ≤ g
  hm : w.heap.size ≤ bm
section
variable {w wi w' : World} {b g bm cap lim : Nat} {L : List Nd}
theorem St.shp (h : St w wi b g bm cap lim L) (hs : Shp w) : Shp wi := hs.below h.bel
theorem St.keep (h : St w wi b g bm cap lim L) (hb : Below wi.heap.size wi w') : St w w' b g bm cap lim L :=
  ⟨h.ar.below hb, h.bel.trans (hb.mono h.bel.size), h.hb, h.hg, h.hm⟩
theorem St.step (h : St w wi b g bm cap lim L) {g' cap' : Nat} {M : List Nd} (hA : Ar w' b g' bm cap' lim M) (hg : g' = g ∨ wi.heap.size ≤ g') (hk : Kept wi w' b g bm) : St w w' b g' bm cap' lim M :=
  ⟨hA, hk.below h.bel h.bel.size h.hb h.hg h.hm, h.hb, by rcases hg with e | e; rw [e]; exact h.hg; have := h.bel.size; omega, h.hm⟩
end

theorem okN (k : Int) (n a : Int) (hk : i64ok k) (hn : u64ok n) (ha : i64ok a) : (⟨k, n, a, 0, 0⟩ : Nd).ok := ⟨hk, hn, ha, by simp [i64ok], by simp [i64ok]⟩
end Go.Proofs.YtgjhhipkfglpgaaDoor
