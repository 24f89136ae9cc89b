/- Layer 9: the law LevelGrows. -/
import Derived.Test.YtahbbojhdkillaaDoorGi
namespace Go.Proofs.YtahbbojhdkillaaDoor
open Go.RowKit Go.Shelf

set_option maxRecDepth 100000 in
set_option maxHeartbeats 4000000 in
theorem grows_long (t : Tr) (s : Option Addr) (c : Nat) (l : List Int) (r : Int) (h : 30 < l.length) (w : World) (hE : Ew w) : Calls Tryd.prog 5 #[trV t, .slice s l.length c, .int .i64 r] w fun e w' => e = .returned (.bool true) ∧ Below w.heap.size w w' := by
  have HA := Lib.hid (fun wx (hb : Below w.heap.size w wx) => awake9_any wx (hE.keep hb))
  have hi : (30 : Int) < l.length := by omega
  clear h hE
  have HB : Hid (∀ o, Below w.heap.size w (w.alloc o)) := Lib.hid (fun o => (Below.refl _ _).alloc (Nat.le_refl _) o)
  unfold trV trA
  go_enter Tryd.func5, Tryd.ntmps5
  go_wp2_with fail
  go_at_call 14
  refine (HA.out _ (HB.out _)).mono ?_
  rintro e w9 ⟨rfl, hb9⟩
  have HB9 := Lib.hid ((HB.out _).trans (hb9.mono (HB.out _).size))
  clear hb9
  go_wp2_with fail
  go_ret
  exact ⟨rfl, HB9.out⟩
/-- A law's track, and levels' boxes that are still empty. -/
structure Gq (w : World) (t : Tr) (ls : List Nat) (wr : World) : Prop where
  tb : wr.heap[w.heap.size]? = some (TrO t)
  bel : Below w.heap.size w wr
  z : ∀ b, b ∈ ls → w.heap.size < b ∧ wr.heap[b]? = some (.cells #[.int .i64 0, .int .i64 0] 37 (0, 0))
  nd : ls.Nodup
theorem Gq.keep {w : World} {t : Tr} {ls : List Nat} {wr wx : World} (h : Gq w t ls wr) (hb : Below wr.heap.size wr wx) : Gq w t ls wx :=
  ⟨(hb.block _ (lt_of_heap h.tb)).trans h.tb, h.bel.trans (hb.mono h.bel.size), fun b hm => ⟨(h.z b hm).1, (hb.block _ (lt_of_heap (h.z b hm).2)).trans (h.z b hm).2⟩, h.nd⟩
theorem Gq.alloc {w : World} {t : Tr} {ls : List Nat} {wr : World} (h : Gq w t ls wr) : Gq w t (wr.heap.size :: ls) (wr.alloc (.cells #[.int .i64 0, .int .i64 0] 37)) := by
  have hk := h.keep ((Below.refl _ _).alloc (Nat.le_refl _) (.cells #[.int .i64 0, .int .i64 0] 37))
  refine ⟨hk.tb, hk.bel, fun b hm => ?_, ?_⟩
  · rcases List.mem_cons.1 hm with rfl | hm
    · exact ⟨lt_of_heap h.tb, heap_alloc_new wr _⟩
    · exact hk.z b hm
  · refine List.nodup_cons.2 ⟨fun hm => ?_, h.nd⟩
    exact Nat.lt_irrefl _ (lt_of_heap (h.z _ hm).2)
theorem set2_block {w : World} {b k : Nat} {o : Obj} (h : w.heap[k]? = some o) (hk : k ≠ b) (u v : Value) : ((w.setCell ⟨b, 0, none⟩ u).setCell ⟨b, 1, none⟩ v).heap[k]? = some o := by
  have e : ∀ (w : World) (i : Nat) (v : Value), (w.setCell ⟨b, i, none⟩ v).heap[k]? = w.heap[k]? := fun w i v => Below.heap_setCell _ _ _ _ hk
  rw [e, e]; exact h
theorem set2_same {w : World} {b : Nat} {v0 v1 : Value} {T : TypeId} (h : w.heap[b]? = some (.cells #[v0, v1] T (0, 0))) (u v : Value) : ((w.setCell ⟨b, 0, none⟩ u).setCell ⟨b, 1, none⟩ v).heap[b]? = some (.cells #[u, v] T (0, 0)) := by
  have k : ∀ (w : World) (cs : Array Value) (i : Nat) (v : Value), w.heap[b]? = some (.cells cs T (0, 0)) → (w.setCell ⟨b, i, none⟩ v).heap[b]? = some (.cells (cs.set! i v) T (0, 0)) := by
    intro w cs i v h
    simp only [World.setCell, Array.getElem?_modify, if_true, h]
    rfl
  exact k _ _ 1 v (k _ _ 0 u h)
/-- A law's track, and two levels in their boxes. -/
structure Gv (w : World) (t : Tr) (A B : Nat) (va ca vb cb : Int) (wr : World) : Prop where
  tb : wr.heap[w.heap.size]? = some (TrO t)
  bel : Below w.heap.size w wr
  a : wr.heap[A]? = some (.cells #[.int .i64 va, .int .i64 ca] 37 (0, 0))
  b : wr.heap[B]? = some (.cells #[.int .i64 vb, .int .i64 cb] 37 (0, 0))
theorem Gv.keep {w : World} {t : Tr} {A B : Nat} {va ca vb cb : Int} {wr wx : World} (h : Gv w t A B va ca vb cb wr) (hb : Below wr.heap.size wr wx) : Gv w t A B va ca vb cb wx :=
  ⟨(hb.block _ (lt_of_heap h.tb)).trans h.tb, h.bel.trans (hb.mono h.bel.size), (hb.block _ (lt_of_heap h.a)).trans h.a, (hb.block _ (lt_of_heap h.b)).trans h.b⟩
/-- Behind the first store. -/
theorem Gq.one {w : World} {t : Tr} {ls : List Nat} {wr : World} (h : Gq w t ls wr) {A B : Nat} (hA : A ∈ ls) (hB : B ∈ ls) (hne : B ≠ A) (u v : Value) : ((wr.setCell ⟨A, 0, none⟩ u).setCell ⟨A, 1, none⟩ v).heap[w.heap.size]? = some (TrO t) ∧ Below w.heap.size w ((wr.setCell ⟨A, 0, none⟩ u).setCell ⟨A, 1, none⟩ v) ∧ ((wr.setCell ⟨A, 0, none⟩ u).setCell ⟨A, 1, none⟩ v).heap[A]? = some (.cells #[u, v] 37 (0, 0)) ∧ ((wr.setCell ⟨A, 0, none⟩ u).setCell ⟨A, 1, none⟩ v).heap[B]? = some (.cells #[.int .i64 0, .int .i64 0] 37 (0, 0)) := by
  have ha := h.z A hA
  have hb := h.z B hB
  exact ⟨set2_block h.tb (by omega) u v, (h.bel.setCell (by show w.heap.size ≤ A; omega) _).setCell (by show w.heap.size ≤ A; omega) _, set2_same ha.2 u v, set2_block hb.2 hne u v⟩
theorem Gq.two {w : World} {t : Tr} {ls : List Nat} {wr : World} (h : Gq w t ls wr) {A B : Nat} (hA : A ∈ ls) (hB : B ∈ ls) (hne : B ≠ A) (va ca vb cb : Int) : Gv w t A B va ca vb cb ((((wr.setCell ⟨A, 0, none⟩ (.int .i64 va)).setCell ⟨A, 1, none⟩ (.int .i64 ca)).setCell ⟨B, 0, none⟩ (.int .i64 vb)).setCell ⟨B, 1, none⟩ (.int .i64 cb)) := by
  have h1 := h.one hA hB hne (.int .i64 va) (.int .i64 ca)
  have hb := h.z B hB
  exact ⟨set2_block h1.1 (by omega) _ _, (h1.2.1.setCell (by show w.heap.size ≤ B; omega) _).setCell (by show w.heap.size ≤ B; omega) _, set2_block h1.2.2.1 (Ne.symm hne) _ _, set2_same h1.2.2.2 _ _⟩
set_option maxRecDepth 100000 in
set_option maxHeartbeats 16000000 in
theorem grows_few (t : Tr) (s : Option Addr) (c : Nat) (l : List Int) (r : Int) (h : ¬ 30 < l.length) (w : World) (hE : Ew w) (hl : IntsV w s l) : Calls Tryd.prog 5 #[trV t, .slice s l.length c, .int .i64 r] w fun e w' => e = .returned (.bool true) ∧ Below w.heap.size w w' := by
  have HA := Lib.hid (fun wx (hb : Below w.heap.size w wx) => awake9_any wx (hE.keep hb))
  have HM := Lib.hid (fun wx (hb : Below w.heap.size w wx) => mix_any t s c l (by omega) wx (hl.keep hb))
  have HO := Lib.hid (fun wx (hb : Below w.heap.size w wx) => of9_any t r wx (hE.pf.keep hb))
  have HO2 := Lib.hid (fun wx (hb : Below w.heap.size w wx) => of9_any (t.mix l) r wx (hE.pf.keep hb))
  have HS := Lib.hid (fun wx (hb : Below w.heap.size w wx) => sent_any t r wx (hE.pf.keep hb))
  have HGE : Hid (r = 0 ∨ r = 1 → (t.lv r).1 ≤ ((t.mix l).lv r).1) := Lib.hid (fun hr => by unfold Tr.lv; rw [if_pos hr, if_pos hr]; exact au_grows t.f l r)
  have HVA : Hid (r = 0 ∨ r = 1 → (t.lv r).1 = auV t.f r) := Lib.hid (fun hr => by unfold Tr.lv; rw [if_pos hr])
  have HNO : Hid (¬ (r = 0 ∨ r = 1) → (t.lv r).1 = 0 ∧ (t.lv r).2 = 0 ∧ t.sent r = t) := Lib.hid (fun hr => by
    unfold Tr.lv Tr.sent; rw [if_neg hr, if_neg (fun e => hr (Or.inl e)), if_neg (fun e => hr (Or.inr e))]; exact ⟨rfl, rfl, rfl⟩)
  obtain ⟨m, hm⟩ : ∃ m, m = t.mix l := ⟨_, rfl⟩
  rw [← hm] at HM HO2 HGE
  obtain ⟨n, hn⟩ : ∃ n, n = l.length := ⟨_, rfl⟩
  rw [← hn] at HM ⊢
  have hn30 : ¬ (30 : Int) < n := by omega
  clear hm hn hE hl h
  have HT0 := Lib.hid (heap_alloc_new w (.cells (trA t) 54))
  have HG0 : Hid (Gq w t [] (w.alloc (.cells (trA t) 54)).drew) := Lib.hid ⟨heap_alloc_new w _, ((Below.refl _ _).alloc (Nat.le_refl _) _).drew, fun b hb => by simp at hb, List.nodup_nil⟩
  obtain ⟨c0, c1, c2, c3, c4, c5, c6, c7, c8, c9⟩ := TrC.of HT0.out
  have hlt := lt_of_heap HT0.out
  unfold trV lvV at *
  generalize (t.lv r).1 = va at HO HGE HVA HNO
  generalize (t.lv r).2 = ca at HO HNO
  generalize (m.lv r).1 = vb at HO2 HGE
  generalize (m.lv r).2 = cb at HO2
  unfold trA at *
  go_enter Tryd.func5, Tryd.ntmps5
  go_wp2_with fail
  obtain ⟨W0, hW0⟩ : ∃ W, W = w.alloc (.cells #[.bool (t.f 0), .bool (t.f 1), .bool (t.f 2), .bool (t.f 3), .bool (t.f 4), .bool (t.f 5), .bool (t.f 6), .bool (t.f 7), .int .i64 t.a, .int .i64 t.b] 54) := ⟨_, rfl⟩
  rw [← hW0] at HG0 c0 c1 c2 c3 c4 c5 c6 c7 c8 c9 hlt ⊢
  clear hW0 HT0
  go_cut [7, 8] (fun u7 u8 wx => ∃ A B : Nat, u7 = .pointer (some ⟨A, 0, none⟩) ∧ u8 = .pointer (some ⟨B, 0, none⟩) ∧ Aside (Gv w t A B va ca vb cb wx))
  case first =>
    refine wp_region_noPanic ?_
    refine wp_region_held_drew (S := (fun w' => w'.cell? ⟨w.heap.size, 0, none⟩ = some (.bool (t.f 0)) ∧ w'.cell? ⟨w.heap.size, 1, none⟩ = some (.bool (t.f 1)) ∧ w'.cell? ⟨w.heap.size, 2, none⟩ = some (.bool (t.f 2)) ∧ w'.cell? ⟨w.heap.size, 3, none⟩ = some (.bool (t.f 3)) ∧ w'.cell? ⟨w.heap.size, 4, none⟩ = some (.bool (t.f 4)) ∧ w'.cell? ⟨w.heap.size, 5, none⟩ = some (.bool (t.f 5)) ∧ w'.cell? ⟨w.heap.size, 6, none⟩ = some (.bool (t.f 6)) ∧ w'.cell? ⟨w.heap.size, 7, none⟩ = some (.bool (t.f 7)) ∧ w'.cell? ⟨w.heap.size, 8, none⟩ = some (.int .i64 t.a) ∧ w'.cell? ⟨w.heap.size, 9, none⟩ = some (.int .i64 t.b))) (by kernel_rfl) ?_ (fun hHeld => ?_)
    · exact TrC.of HG0.out.tb
    generalize W0.drew = Wd at *
    refine wpAnyH_take (i := 0) (v := ?_) rfl (by kernel_rfl) (by kernel_rfl) (by kernel_rfl) (fun _ _ _ h => h) (Or.inl ⟨by rfl, ?_⟩) (by assumption) ?_
    rotate_left
    · (intro w hSw; (try dsimp only at hSw); go_simp; try with_reducible rfl)
    try simp only [List.getElem_toArray, List.getElem_cons_zero, Act.put, List.setIfInBounds_toArray, List.set_cons_zero, List.set_cons_succ]
    refine wpAnyH_take (i := 1) (v := ?_) rfl (by kernel_rfl) (by kernel_rfl) (by kernel_rfl) (fun _ _ _ h => h) (Or.inl ⟨by rfl, ?_⟩) (by assumption) ?_
    rotate_left
    · (intro w hSw; (try dsimp only at hSw); go_simp; try with_reducible rfl)
    try simp only [List.getElem_toArray, List.getElem_cons_succ, List.getElem_cons_zero, Act.put, List.setIfInBounds_toArray, List.set_cons_zero, List.set_cons_succ]
    refine wpAnyH_take (i := 3) (v := ?_) rfl (by kernel_rfl) (by kernel_rfl) (by kernel_rfl) (fun _ _ _ h => h) (Or.inl ⟨by rfl, ?_⟩) (by assumption) ?_
    rotate_left
    · (intro w hSw; (try dsimp only at hSw); go_simp; try with_reducible rfl)
    try simp only [List.getElem_toArray, List.getElem_cons_succ, List.getElem_cons_zero, Act.put, List.setIfInBounds_toArray, List.set_cons_zero, List.set_cons_succ]
    refine wpAnyH_take (i := 4) (v := ?_) rfl (by kernel_rfl) (by kernel_rfl) (by kernel_rfl) (fun _ _ _ h => h) (Or.inl ⟨by rfl, ?_⟩) (by assumption) ?_
    rotate_left
    · (intro w hSw; (try dsimp only at hSw); go_simp; try with_reducible rfl)
    try simp only [List.getElem_toArray, List.getElem_cons_succ, List.getElem_cons_zero, Act.put, List.setIfInBounds_toArray, List.set_cons_zero, List.set_cons_succ]
    refine wpAnyH_take (i := 6) (v := ?_) rfl (by kernel_rfl) (by kernel_rfl) (by kernel_rfl) (fun _ _ _ h => h) (Or.inl ⟨by rfl, ?_⟩) (by assumption) ?_
    rotate_left
    · (intro w hSw; (try dsimp only at hSw); go_simp; try with_reducible rfl)
    try simp only [List.getElem_toArray, List.getElem_cons_succ, List.getElem_cons_zero, Act.put, List.setIfInBounds_toArray, List.set_cons_zero, List.set_cons_succ]
    refine wpAnyH_ready (rs := [2, 8, 9]) (by kernel_rfl) (by simp) ?_
    refine AllReadyH.cons rfl (fun K hK => ?_) (AllReadyH.cons rfl (fun K hK => ?_) (AllReadyH.cons rfl (fun K hK => ?_) AllReadyH.nil))
    · go_simp
      (refine (HO.out _ HG0.out.bel).mono ?_; rintro e w1 ⟨rfl, hb1⟩; have HG1 := Lib.hid (HG0.out.keep hb1); clear hb1)
      go_wp2_with fail
      refine hK.out _ _ ?_ (fun hHeld => ?_)
      · exact TrC.of HG1.out.tb
      clear hK K
      try simp only [List.getElem_toArray, List.getElem_cons_succ, List.getElem_cons_zero, Act.put, List.setIfInBounds_toArray, List.set_cons_zero, List.set_cons_succ]
      refine wpAnyH_ready (rs := [5, 8, 9]) (by kernel_rfl) (by simp) ?_
      refine AllReadyH.cons rfl (fun K hK => ?_) (AllReadyH.cons rfl (fun K hK => ?_) (AllReadyH.cons rfl (fun K hK => ?_) AllReadyH.nil))
      · go_simp
        (refine (HM.out _ HG1.out.bel).mono ?_; rintro e w2 ⟨rfl, hb2⟩; have HG2 := Lib.hid (HG1.out.keep hb2); clear hb2)
        go_wp2_with fail
        refine hK.out _ _ ?_ (fun hHeld => ?_)
        · exact TrC.of HG2.out.tb
        clear hK K
        try simp only [List.getElem_toArray, List.getElem_cons_succ, List.getElem_cons_zero, Act.put, List.setIfInBounds_toArray, List.set_cons_zero, List.set_cons_succ]
        refine wpAnyH_ready (rs := [7, 8, 9]) (by kernel_rfl) (by simp) ?_
        refine AllReadyH.cons rfl (fun K hK => ?_) (AllReadyH.cons rfl (fun K hK => ?_) (AllReadyH.cons rfl (fun K hK => ?_) AllReadyH.nil))
        · go_simp
          (refine (HO2.out _ HG2.out.bel).mono ?_; rintro e w3 ⟨rfl, hb3⟩; have HG3 := Lib.hid (HG2.out.keep hb3); clear hb3)
          go_wp2_with fail
          refine hK.out _ _ ?_ (fun hHeld => ?_)
          · exact TrC.of HG3.out.tb
          clear hK K
          try simp only [List.getElem_toArray, List.getElem_cons_succ, List.getElem_cons_zero, Act.put, List.setIfInBounds_toArray, List.set_cons_zero, List.set_cons_succ]
          refine wpAnyH_ready (rs := [8, 9]) (by kernel_rfl) (by simp) ?_
          refine AllReadyH.cons rfl (fun K hK => ?_) (AllReadyH.cons rfl (fun K hK => ?_) AllReadyH.nil)
          · go_simp
            have HG4 := Lib.hid HG3.out.alloc
            refine hK.out _ _ ?_ (fun hHeld => ?_)
            · exact TrC.of HG4.out.tb
            clear hK K hHeld
            obtain ⟨W4, hW⟩ : ∃ W, W = (w3).alloc (.cells #[.int .i64 0, .int .i64 0] 37) := ⟨_, rfl⟩
            rw [← hW] at HG4 ⊢
            clear hW
            try simp only [List.getElem_toArray, List.getElem_cons_succ, List.getElem_cons_zero, Act.put, List.setIfInBounds_toArray, List.set_cons_zero, List.set_cons_succ]
            refine wpAnyH_ready (rs := [9]) (by kernel_rfl) (by simp) ?_
            refine AllReadyH.cons rfl (fun K hK => ?_) AllReadyH.nil
            have hl : w3.heap.size < W4.heap.size := lt_of_heap (HG4.out.z (w3.heap.size) (by simp [])).2
            go_simp
            have HG5 := Lib.hid HG4.out.alloc
            refine hK.out _ _ ?_ (fun hHeld => ?_)
            · exact TrC.of HG5.out.tb
            clear hK K hHeld
            obtain ⟨W5, hW⟩ : ∃ W, W = (W4).alloc (.cells #[.int .i64 0, .int .i64 0] 37) := ⟨_, rfl⟩
            rw [← hW] at HG5 ⊢
            clear hW
            try simp only [List.getElem_toArray, List.getElem_cons_succ, List.getElem_cons_zero, Act.put, List.setIfInBounds_toArray, List.set_cons_zero, List.set_cons_succ]
            have hne : W4.heap.size ≠ w3.heap.size := by omega
            have hne2 : w3.heap.size ≠ W4.heap.size := by omega
            have hA := HG5.out.z (w3.heap.size) (by simp [])
            have hB := HG5.out.z (W4.heap.size) (by simp [])
            obtain ⟨x0, x1, x2, x3⟩ := box2r hA.2
            obtain ⟨y0, y1, y2, y3⟩ := box2r hB.2
            have lx := lt_of_heap hA.2
            have ly := lt_of_heap hB.2
            have HO1 := Lib.hid (HG5.out.one (A := w3.heap.size) (B := W4.heap.size) (by simp []) (by simp []) hne (.int .i64 va) (.int .i64 ca))
            have HO2 := Lib.hid (HG5.out.two (A := w3.heap.size) (B := W4.heap.size) (by simp []) (by simp []) hne va ca vb cb)
            refine wpAnyH_ready (rs := [10]) (by kernel_rfl) (by simp) ?_
            refine AllReadyH.cons rfl (fun K hK => ?_) AllReadyH.nil
            go_simp
            refine hK.out _ _ ?_ (fun hHeld => ?_)
            · exact TrC.of HO1.out.1
            clear hK K
            try simp only [List.getElem_toArray, List.getElem_cons_succ, List.getElem_cons_zero, Act.put, List.setIfInBounds_toArray, List.set_cons_zero, List.set_cons_succ]
            refine wpAnyH_ready (rs := [11]) (by kernel_rfl) (by simp) ?_
            refine AllReadyH.cons rfl (fun K hK => ?_) AllReadyH.nil
            go_simp
            refine hK.out _ _ ?_ (fun hHeld => ?_)
            · exact TrC.of HO2.out.tb
            clear hK K
            try simp only [List.getElem_toArray, List.getElem_cons_succ, List.getElem_cons_zero, Act.put, List.setIfInBounds_toArray, List.set_cons_zero, List.set_cons_succ]
            refine wpAnyH_done (by kernel_rfl) ?_ _
            refine NoPanic.normal ?_
            go_wp2_with fail
            go_meet
            exact ⟨_, _, rfl, rfl, HO2.out⟩
          · go_simp
            have HG4 := Lib.hid HG3.out.alloc
            refine hK.out _ _ ?_ (fun hHeld => ?_)
            · exact TrC.of HG4.out.tb
            clear hK K hHeld
            obtain ⟨W4, hW⟩ : ∃ W, W = (w3).alloc (.cells #[.int .i64 0, .int .i64 0] 37) := ⟨_, rfl⟩
            rw [← hW] at HG4 ⊢
            clear hW
            try simp only [List.getElem_toArray, List.getElem_cons_succ, List.getElem_cons_zero, Act.put, List.setIfInBounds_toArray, List.set_cons_zero, List.set_cons_succ]
            refine wpAnyH_ready (rs := [8]) (by kernel_rfl) (by simp) ?_
            refine AllReadyH.cons rfl (fun K hK => ?_) AllReadyH.nil
            have hl : w3.heap.size < W4.heap.size := lt_of_heap (HG4.out.z (w3.heap.size) (by simp [])).2
            go_simp
            have HG5 := Lib.hid HG4.out.alloc
            refine hK.out _ _ ?_ (fun hHeld => ?_)
            · exact TrC.of HG5.out.tb
            clear hK K hHeld
            obtain ⟨W5, hW⟩ : ∃ W, W = (W4).alloc (.cells #[.int .i64 0, .int .i64 0] 37) := ⟨_, rfl⟩
            rw [← hW] at HG5 ⊢
            clear hW
            try simp only [List.getElem_toArray, List.getElem_cons_succ, List.getElem_cons_zero, Act.put, List.setIfInBounds_toArray, List.set_cons_zero, List.set_cons_succ]
            have hne : w3.heap.size ≠ W4.heap.size := by omega
            have hne2 : W4.heap.size ≠ w3.heap.size := by omega
            have hA := HG5.out.z (W4.heap.size) (by simp [])
            have hB := HG5.out.z (w3.heap.size) (by simp [])
            obtain ⟨x0, x1, x2, x3⟩ := box2r hA.2
            obtain ⟨y0, y1, y2, y3⟩ := box2r hB.2
            have lx := lt_of_heap hA.2
            have ly := lt_of_heap hB.2
            have HO1 := Lib.hid (HG5.out.one (A := W4.heap.size) (B := w3.heap.size) (by simp []) (by simp []) hne (.int .i64 va) (.int .i64 ca))
            have HO2 := Lib.hid (HG5.out.two (A := W4.heap.size) (B := w3.heap.size) (by simp []) (by simp []) hne va ca vb cb)
            refine wpAnyH_ready (rs := [10]) (by kernel_rfl) (by simp) ?_
            refine AllReadyH.cons rfl (fun K hK => ?_) AllReadyH.nil
            go_simp
            refine hK.out _ _ ?_ (fun hHeld => ?_)
            · exact TrC.of HO1.out.1
            clear hK K
            try simp only [List.getElem_toArray, List.getElem_cons_succ, List.getElem_cons_zero, Act.put, List.setIfInBounds_toArray, List.set_cons_zero, List.set_cons_succ]
            refine wpAnyH_ready (rs := [11]) (by kernel_rfl) (by simp) ?_
            refine AllReadyH.cons rfl (fun K hK => ?_) AllReadyH.nil
            go_simp
            refine hK.out _ _ ?_ (fun hHeld => ?_)
            · exact TrC.of HO2.out.tb
            clear hK K
            try simp only [List.getElem_toArray, List.getElem_cons_succ, List.getElem_cons_zero, Act.put, List.setIfInBounds_toArray, List.set_cons_zero, List.set_cons_succ]
            refine wpAnyH_done (by kernel_rfl) ?_ _
            refine NoPanic.normal ?_
            go_wp2_with fail
            go_meet
            exact ⟨_, _, rfl, rfl, HO2.out⟩
        · go_simp
          have HG3 := Lib.hid HG2.out.alloc
          refine hK.out _ _ ?_ (fun hHeld => ?_)
          · exact TrC.of HG3.out.tb
          clear hK K hHeld
          obtain ⟨W3, hW⟩ : ∃ W, W = (w2).alloc (.cells #[.int .i64 0, .int .i64 0] 37) := ⟨_, rfl⟩
          rw [← hW] at HG3 ⊢
          clear hW
          try simp only [List.getElem_toArray, List.getElem_cons_succ, List.getElem_cons_zero, Act.put, List.setIfInBounds_toArray, List.set_cons_zero, List.set_cons_succ]
          refine wpAnyH_ready (rs := [7, 9]) (by kernel_rfl) (by simp) ?_
          refine AllReadyH.cons rfl (fun K hK => ?_) (AllReadyH.cons rfl (fun K hK => ?_) AllReadyH.nil)
          · go_simp
            (refine (HO2.out _ HG3.out.bel).mono ?_; rintro e w4 ⟨rfl, hb4⟩; have HG4 := Lib.hid (HG3.out.keep hb4); clear hb4)
            go_wp2_with fail
            refine hK.out _ _ ?_ (fun hHeld => ?_)
            · exact TrC.of HG4.out.tb
            clear hK K
            try simp only [List.getElem_toArray, List.getElem_cons_succ, List.getElem_cons_zero, Act.put, List.setIfInBounds_toArray, List.set_cons_zero, List.set_cons_succ]
            refine wpAnyH_ready (rs := [9]) (by kernel_rfl) (by simp) ?_
            refine AllReadyH.cons rfl (fun K hK => ?_) AllReadyH.nil
            have hl : w2.heap.size < w4.heap.size := lt_of_heap (HG4.out.z (w2.heap.size) (by simp [])).2
            go_simp
            have HG5 := Lib.hid HG4.out.alloc
            refine hK.out _ _ ?_ (fun hHeld => ?_)
            · exact TrC.of HG5.out.tb
            clear hK K hHeld
            obtain ⟨W5, hW⟩ : ∃ W, W = (w4).alloc (.cells #[.int .i64 0, .int .i64 0] 37) := ⟨_, rfl⟩
            rw [← hW] at HG5 ⊢
            clear hW
            try simp only [List.getElem_toArray, List.getElem_cons_succ, List.getElem_cons_zero, Act.put, List.setIfInBounds_toArray, List.set_cons_zero, List.set_cons_succ]
            have hne : w4.heap.size ≠ w2.heap.size := by omega
            have hne2 : w2.heap.size ≠ w4.heap.size := by omega
            have hA := HG5.out.z (w2.heap.size) (by simp [])
            have hB := HG5.out.z (w4.heap.size) (by simp [])
            obtain ⟨x0, x1, x2, x3⟩ := box2r hA.2
            obtain ⟨y0, y1, y2, y3⟩ := box2r hB.2
            have lx := lt_of_heap hA.2
            have ly := lt_of_heap hB.2
            have HO1 := Lib.hid (HG5.out.one (A := w2.heap.size) (B := w4.heap.size) (by simp []) (by simp []) hne (.int .i64 va) (.int .i64 ca))
            have HO2 := Lib.hid (HG5.out.two (A := w2.heap.size) (B := w4.heap.size) (by simp []) (by simp []) hne va ca vb cb)
            refine wpAnyH_ready (rs := [10]) (by kernel_rfl) (by simp) ?_
            refine AllReadyH.cons rfl (fun K hK => ?_) AllReadyH.nil
            go_simp
            refine hK.out _ _ ?_ (fun hHeld => ?_)
            · exact TrC.of HO1.out.1
            clear hK K
            try simp only [List.getElem_toArray, List.getElem_cons_succ, List.getElem_cons_zero, Act.put, List.setIfInBounds_toArray, List.set_cons_zero, List.set_cons_succ]
            refine wpAnyH_ready (rs := [11]) (by kernel_rfl) (by simp) ?_
            refine AllReadyH.cons rfl (fun K hK => ?_) AllReadyH.nil
            go_simp
            refine hK.out _ _ ?_ (fun hHeld => ?_)
            · exact TrC.of HO2.out.tb
            clear hK K
            try simp only [List.getElem_toArray, List.getElem_cons_succ, List.getElem_cons_zero, Act.put, List.setIfInBounds_toArray, List.set_cons_zero, List.set_cons_succ]
            refine wpAnyH_done (by kernel_rfl) ?_ _
            refine NoPanic.normal ?_
            go_wp2_with fail
            go_meet
            exact ⟨_, _, rfl, rfl, HO2.out⟩
          · have hl : w2.heap.size < W3.heap.size := lt_of_heap (HG3.out.z (w2.heap.size) (by simp [])).2
            go_simp
            have HG4 := Lib.hid HG3.out.alloc
            refine hK.out _ _ ?_ (fun hHeld => ?_)
            · exact TrC.of HG4.out.tb
            clear hK K hHeld
            obtain ⟨W4, hW⟩ : ∃ W, W = (W3).alloc (.cells #[.int .i64 0, .int .i64 0] 37) := ⟨_, rfl⟩
            rw [← hW] at HG4 ⊢
            clear hW
            try simp only [List.getElem_toArray, List.getElem_cons_succ, List.getElem_cons_zero, Act.put, List.setIfInBounds_toArray, List.set_cons_zero, List.set_cons_succ]
            refine wpAnyH_ready (rs := [7]) (by kernel_rfl) (by simp) ?_
            refine AllReadyH.cons rfl (fun K hK => ?_) AllReadyH.nil
            go_simp
            (refine (HO2.out _ HG4.out.bel).mono ?_; rintro e w5 ⟨rfl, hb5⟩; have HG5 := Lib.hid (HG4.out.keep hb5); clear hb5)
            go_wp2_with fail
            refine hK.out _ _ ?_ (fun hHeld => ?_)
            · exact TrC.of HG5.out.tb
            clear hK K
            try simp only [List.getElem_toArray, List.getElem_cons_succ, List.getElem_cons_zero, Act.put, List.setIfInBounds_toArray, List.set_cons_zero, List.set_cons_succ]
            have hne : W3.heap.size ≠ w2.heap.size := by omega
            have hne2 : w2.heap.size ≠ W3.heap.size := by omega
            have hA := HG5.out.z (w2.heap.size) (by simp [])
            have hB := HG5.out.z (W3.heap.size) (by simp [])
            obtain ⟨x0, x1, x2, x3⟩ := box2r hA.2
            obtain ⟨y0, y1, y2, y3⟩ := box2r hB.2
            have lx := lt_of_heap hA.2
            have ly := lt_of_heap hB.2
            have HO1 := Lib.hid (HG5.out.one (A := w2.heap.size) (B := W3.heap.size) (by simp []) (by simp []) hne (.int .i64 va) (.int .i64 ca))
            have HO2 := Lib.hid (HG5.out.two (A := w2.heap.size) (B := W3.heap.size) (by simp []) (by simp []) hne va ca vb cb)
            refine wpAnyH_ready (rs := [10]) (by kernel_rfl) (by simp) ?_
            refine AllReadyH.cons rfl (fun K hK => ?_) AllReadyH.nil
            go_simp
            refine hK.out _ _ ?_ (fun hHeld => ?_)
            · exact TrC.of HO1.out.1
            clear hK K
            try simp only [List.getElem_toArray, List.getElem_cons_succ, List.getElem_cons_zero, Act.put, List.setIfInBounds_toArray, List.set_cons_zero, List.set_cons_succ]
            refine wpAnyH_ready (rs := [11]) (by kernel_rfl) (by simp) ?_
            refine AllReadyH.cons rfl (fun K hK => ?_) AllReadyH.nil
            go_simp
            refine hK.out _ _ ?_ (fun hHeld => ?_)
            · exact TrC.of HO2.out.tb
            clear hK K
            try simp only [List.getElem_toArray, List.getElem_cons_succ, List.getElem_cons_zero, Act.put, List.setIfInBounds_toArray, List.set_cons_zero, List.set_cons_succ]
            refine wpAnyH_done (by kernel_rfl) ?_ _
            refine NoPanic.normal ?_
            go_wp2_with fail
            go_meet
            exact ⟨_, _, rfl, rfl, HO2.out⟩
        · go_simp
          have HG3 := Lib.hid HG2.out.alloc
          refine hK.out _ _ ?_ (fun hHeld => ?_)
          · exact TrC.of HG3.out.tb
          clear hK K hHeld
          obtain ⟨W3, hW⟩ : ∃ W, W = (w2).alloc (.cells #[.int .i64 0, .int .i64 0] 37) := ⟨_, rfl⟩
          rw [← hW] at HG3 ⊢
          clear hW
          try simp only [List.getElem_toArray, List.getElem_cons_succ, List.getElem_cons_zero, Act.put, List.setIfInBounds_toArray, List.set_cons_zero, List.set_cons_succ]
          refine wpAnyH_ready (rs := [7, 8]) (by kernel_rfl) (by simp) ?_
          refine AllReadyH.cons rfl (fun K hK => ?_) (AllReadyH.cons rfl (fun K hK => ?_) AllReadyH.nil)
          · go_simp
            (refine (HO2.out _ HG3.out.bel).mono ?_; rintro e w4 ⟨rfl, hb4⟩; have HG4 := Lib.hid (HG3.out.keep hb4); clear hb4)
            go_wp2_with fail
            refine hK.out _ _ ?_ (fun hHeld => ?_)
            · exact TrC.of HG4.out.tb
            clear hK K
            try simp only [List.getElem_toArray, List.getElem_cons_succ, List.getElem_cons_zero, Act.put, List.setIfInBounds_toArray, List.set_cons_zero, List.set_cons_succ]
            refine wpAnyH_ready (rs := [8]) (by kernel_rfl) (by simp) ?_
            refine AllReadyH.cons rfl (fun K hK => ?_) AllReadyH.nil
            have hl : w2.heap.size < w4.heap.size := lt_of_heap (HG4.out.z (w2.heap.size) (by simp [])).2
            go_simp
            have HG5 := Lib.hid HG4.out.alloc
            refine hK.out _ _ ?_ (fun hHeld => ?_)
            · exact TrC.of HG5.out.tb
            clear hK K hHeld
            obtain ⟨W5, hW⟩ : ∃ W, W = (w4).alloc (.cells #[.int .i64 0, .int .i64 0] 37) := ⟨_, rfl⟩
            rw [← hW] at HG5 ⊢
            clear hW
            try simp only [List.getElem_toArray, List.getElem_cons_succ, List.getElem_cons_zero, Act.put, List.setIfInBounds_toArray, List.set_cons_zero, List.set_cons_succ]
            have hne : w2.heap.size ≠ w4.heap.size := by omega
            have hne2 : w4.heap.size ≠ w2.heap.size := by omega
            have hA := HG5.out.z (w4.heap.size) (by simp [])
            have hB := HG5.out.z (w2.heap.size) (by simp [])
            obtain ⟨x0, x1, x2, x3⟩ := box2r hA.2
            obtain ⟨y0, y1, y2, y3⟩ := box2r hB.2
            have lx := lt_of_heap hA.2
            have ly := lt_of_heap hB.2
            have HO1 := Lib.hid (HG5.out.one (A := w4.heap.size) (B := w2.heap.size) (by simp []) (by simp []) hne (.int .i64 va) (.int .i64 ca))
            have HO2 := Lib.hid (HG5.out.two (A := w4.heap.size) (B := w2.heap.size) (by simp []) (by simp []) hne va ca vb cb)
            refine wpAnyH_ready (rs := [10]) (by kernel_rfl) (by simp) ?_
            refine AllReadyH.cons rfl (fun K hK => ?_) AllReadyH.nil
            go_simp
            refine hK.out _ _ ?_ (fun hHeld => ?_)
            · exact TrC.of HO1.out.1
            clear hK K
            try simp only [List.getElem_toArray, List.getElem_cons_succ, List.getElem_cons_zero, Act.put, List.setIfInBounds_toArray, List.set_cons_zero, List.set_cons_succ]
            refine wpAnyH_ready (rs := [11]) (by kernel_rfl) (by simp) ?_
            refine AllReadyH.cons rfl (fun K hK => ?_) AllReadyH.nil
            go_simp
            refine hK.out _ _ ?_ (fun hHeld => ?_)
            · exact TrC.of HO2.out.tb
            clear hK K
            try simp only [List.getElem_toArray, List.getElem_cons_succ, List.getElem_cons_zero, Act.put, List.setIfInBounds_toArray, List.set_cons_zero, List.set_cons_succ]
            refine wpAnyH_done (by kernel_rfl) ?_ _
            refine NoPanic.normal ?_
            go_wp2_with fail
            go_meet
            exact ⟨_, _, rfl, rfl, HO2.out⟩
          · have hl : w2.heap.size < W3.heap.size := lt_of_heap (HG3.out.z (w2.heap.size) (by simp [])).2
            go_simp
            have HG4 := Lib.hid HG3.out.alloc
            refine hK.out _ _ ?_ (fun hHeld => ?_)
            · exact TrC.of HG4.out.tb
            clear hK K hHeld
            obtain ⟨W4, hW⟩ : ∃ W, W = (W3).alloc (.cells #[.int .i64 0, .int .i64 0] 37) := ⟨_, rfl⟩
            rw [← hW] at HG4 ⊢
            clear hW
            try simp only [List.getElem_toArray, List.getElem_cons_succ, List.getElem_cons_zero, Act.put, List.setIfInBounds_toArray, List.set_cons_zero, List.set_cons_succ]
            refine wpAnyH_ready (rs := [7]) (by kernel_rfl) (by simp) ?_
            refine AllReadyH.cons rfl (fun K hK => ?_) AllReadyH.nil
            go_simp
            (refine (HO2.out _ HG4.out.bel).mono ?_; rintro e w5 ⟨rfl, hb5⟩; have HG5 := Lib.hid (HG4.out.keep hb5); clear hb5)
            go_wp2_with fail
            refine hK.out _ _ ?_ (fun hHeld => ?_)
            · exact TrC.of HG5.out.tb
            clear hK K
            try simp only [List.getElem_toArray, List.getElem_cons_succ, List.getElem_cons_zero, Act.put, List.setIfInBounds_toArray, List.set_cons_zero, List.set_cons_succ]
            have hne : w2.heap.size ≠ W3.heap.size := by omega
            have hne2 : W3.heap.size ≠ w2.heap.size := by omega
            have hA := HG5.out.z (W3.heap.size) (by simp [])
            have hB := HG5.out.z (w2.heap.size) (by simp [])
            obtain ⟨x0, x1, x2, x3⟩ := box2r hA.2
            obtain ⟨y0, y1, y2, y3⟩ := box2r hB.2
            have lx := lt_of_heap hA.2
            have ly := lt_of_heap hB.2
            have HO1 := Lib.hid (HG5.out.one (A := W3.heap.size) (B := w2.heap.size) (by simp []) (by simp []) hne (.int .i64 va) (.int .i64 ca))
            have HO2 := Lib.hid (HG5.out.two (A := W3.heap.size) (B := w2.heap.size) (by simp []) (by simp []) hne va ca vb cb)
            refine wpAnyH_ready (rs := [10]) (by kernel_rfl) (by simp) ?_
            refine AllReadyH.cons rfl (fun K hK => ?_) AllReadyH.nil
            go_simp
            refine hK.out _ _ ?_ (fun hHeld => ?_)
            · exact TrC.of HO1.out.1
            clear hK K
            try simp only [List.getElem_toArray, List.getElem_cons_succ, List.getElem_cons_zero, Act.put, List.setIfInBounds_toArray, List.set_cons_zero, List.set_cons_succ]
            refine wpAnyH_ready (rs := [11]) (by kernel_rfl) (by simp) ?_
            refine AllReadyH.cons rfl (fun K hK => ?_) AllReadyH.nil
            go_simp
            refine hK.out _ _ ?_ (fun hHeld => ?_)
            · exact TrC.of HO2.out.tb
            clear hK K
            try simp only [List.getElem_toArray, List.getElem_cons_succ, List.getElem_cons_zero, Act.put, List.setIfInBounds_toArray, List.set_cons_zero, List.set_cons_succ]
            refine wpAnyH_done (by kernel_rfl) ?_ _
            refine NoPanic.normal ?_
            go_wp2_with fail
            go_meet
            exact ⟨_, _, rfl, rfl, HO2.out⟩
      · go_simp
        have HG2 := Lib.hid HG1.out.alloc
        refine hK.out _ _ ?_ (fun hHeld => ?_)
        · exact TrC.of HG2.out.tb
        clear hK K hHeld
        obtain ⟨W2, hW⟩ : ∃ W, W = (w1).alloc (.cells #[.int .i64 0, .int .i64 0] 37) := ⟨_, rfl⟩
        rw [← hW] at HG2 ⊢
        clear hW
        try simp only [List.getElem_toArray, List.getElem_cons_succ, List.getElem_cons_zero, Act.put, List.setIfInBounds_toArray, List.set_cons_zero, List.set_cons_succ]
        refine wpAnyH_ready (rs := [5, 9]) (by kernel_rfl) (by simp) ?_
        refine AllReadyH.cons rfl (fun K hK => ?_) (AllReadyH.cons rfl (fun K hK => ?_) AllReadyH.nil)
        · go_simp
          (refine (HM.out _ HG2.out.bel).mono ?_; rintro e w3 ⟨rfl, hb3⟩; have HG3 := Lib.hid (HG2.out.keep hb3); clear hb3)
          go_wp2_with fail
          refine hK.out _ _ ?_ (fun hHeld => ?_)
          · exact TrC.of HG3.out.tb
          clear hK K
          try simp only [List.getElem_toArray, List.getElem_cons_succ, List.getElem_cons_zero, Act.put, List.setIfInBounds_toArray, List.set_cons_zero, List.set_cons_succ]
          refine wpAnyH_ready (rs := [7, 9]) (by kernel_rfl) (by simp) ?_
          refine AllReadyH.cons rfl (fun K hK => ?_) (AllReadyH.cons rfl (fun K hK => ?_) AllReadyH.nil)
          · go_simp
            (refine (HO2.out _ HG3.out.bel).mono ?_; rintro e w4 ⟨rfl, hb4⟩; have HG4 := Lib.hid (HG3.out.keep hb4); clear hb4)
            go_wp2_with fail
            refine hK.out _ _ ?_ (fun hHeld => ?_)
            · exact TrC.of HG4.out.tb
            clear hK K
            try simp only [List.getElem_toArray, List.getElem_cons_succ, List.getElem_cons_zero, Act.put, List.setIfInBounds_toArray, List.set_cons_zero, List.set_cons_succ]
            refine wpAnyH_ready (rs := [9]) (by kernel_rfl) (by simp) ?_
            refine AllReadyH.cons rfl (fun K hK => ?_) AllReadyH.nil
            have hl : w1.heap.size < w4.heap.size := lt_of_heap (HG4.out.z (w1.heap.size) (by simp [])).2
            go_simp
            have HG5 := Lib.hid HG4.out.alloc
            refine hK.out _ _ ?_ (fun hHeld => ?_)
            · exact TrC.of HG5.out.tb
            clear hK K hHeld
            obtain ⟨W5, hW⟩ : ∃ W, W = (w4).alloc (.cells #[.int .i64 0, .int .i64 0] 37) := ⟨_, rfl⟩
            rw [← hW] at HG5 ⊢
            clear hW
            try simp only [List.getElem_toArray, List.getElem_cons_succ, List.getElem_cons_zero, Act.put, List.setIfInBounds_toArray, List.set_cons_zero, List.set_cons_succ]
            have hne : w4.heap.size ≠ w1.heap.size := by omega
            have hne2 : w1.heap.size ≠ w4.heap.size := by omega
            have hA := HG5.out.z (w1.heap.size) (by simp [])
            have hB := HG5.out.z (w4.heap.size) (by simp [])
            obtain ⟨x0, x1, x2, x3⟩ := box2r hA.2
            obtain ⟨y0, y1, y2, y3⟩ := box2r hB.2
            have lx := lt_of_heap hA.2
            have ly := lt_of_heap hB.2
            have HO1 := Lib.hid (HG5.out.one (A := w1.heap.size) (B := w4.heap.size) (by simp []) (by simp []) hne (.int .i64 va) (.int .i64 ca))
            have HO2 := Lib.hid (HG5.out.two (A := w1.heap.size) (B := w4.heap.size) (by simp []) (by simp []) hne va ca vb cb)
            refine wpAnyH_ready (rs := [10]) (by kernel_rfl) (by simp) ?_
            refine AllReadyH.cons rfl (fun K hK => ?_) AllReadyH.nil
            go_simp
            refine hK.out _ _ ?_ (fun hHeld => ?_)
            · exact TrC.of HO1.out.1
            clear hK K
            try simp only [List.getElem_toArray, List.getElem_cons_succ, List.getElem_cons_zero, Act.put, List.setIfInBounds_toArray, List.set_cons_zero, List.set_cons_succ]
            refine wpAnyH_ready (rs := [11]) (by kernel_rfl) (by simp) ?_
            refine AllReadyH.cons rfl (fun K hK => ?_) AllReadyH.nil
            go_simp
            refine hK.out _ _ ?_ (fun hHeld => ?_)
            · exact TrC.of HO2.out.tb
            clear hK K
            try simp only [List.getElem_toArray, List.getElem_cons_succ, List.getElem_cons_zero, Act.put, List.setIfInBounds_toArray, List.set_cons_zero, List.set_cons_succ]
            refine wpAnyH_done (by kernel_rfl) ?_ _
            refine NoPanic.normal ?_
            go_wp2_with fail
            go_meet
            exact ⟨_, _, rfl, rfl, HO2.out⟩
          · have hl : w1.heap.size < w3.heap.size := lt_of_heap (HG3.out.z (w1.heap.size) (by simp [])).2
            go_simp
            have HG4 := Lib.hid HG3.out.alloc
            refine hK.out _ _ ?_ (fun hHeld => ?_)
            · exact TrC.of HG4.out.tb
            clear hK K hHeld
            obtain ⟨W4, hW⟩ : ∃ W, W = (w3).alloc (.cells #[.int .i64 0, .int .i64 0] 37) := ⟨_, rfl⟩
            rw [← hW] at HG4 ⊢
            clear hW
            try simp only [List.getElem_toArray, List.getElem_cons_succ, List.getElem_cons_zero, Act.put, List.setIfInBounds_toArray, List.set_cons_zero, List.set_cons_succ]
            refine wpAnyH_ready (rs := [7]) (by kernel_rfl) (by simp) ?_
            refine AllReadyH.cons rfl (fun K hK => ?_) AllReadyH.nil
            go_simp
            (refine (HO2.out _ HG4.out.bel).mono ?_; rintro e w5 ⟨rfl, hb5⟩; have HG5 := Lib.hid (HG4.out.keep hb5); clear hb5)
            go_wp2_with fail
            refine hK.out _ _ ?_ (fun hHeld => ?_)
            · exact TrC.of HG5.out.tb
            clear hK K
            try simp only [List.getElem_toArray, List.getElem_cons_succ, List.getElem_cons_zero, Act.put, List.setIfInBounds_toArray, List.set_cons_zero, List.set_cons_succ]
            have hne : w3.heap.size ≠ w1.heap.size := by omega
            have hne2 : w1.heap.size ≠ w3.heap.size := by omega
            have hA := HG5.out.z (w1.heap.size) (by simp [])
            have hB := HG5.out.z (w3.heap.size) (by simp [])
            obtain ⟨x0, x1, x2, x3⟩ := box2r hA.2
            obtain ⟨y0, y1, y2, y3⟩ := box2r hB.2
            have lx := lt_of_heap hA.2
            have ly := lt_of_heap hB.2
            have HO1 := Lib.hid (HG5.out.one (A := w1.heap.size) (B := w3.heap.size) (by simp []) (by simp []) hne (.int .i64 va) (.int .i64 ca))
            have HO2 := Lib.hid (HG5.out.two (A := w1.heap.size) (B := w3.heap.size) (by simp []) (by simp []) hne va ca vb cb)
            refine wpAnyH_ready (rs := [10]) (by kernel_rfl) (by simp) ?_
            refine AllReadyH.cons rfl (fun K hK => ?_) AllReadyH.nil
            go_simp
            refine hK.out _ _ ?_ (fun hHeld => ?_)
            · exact TrC.of HO1.out.1
            clear hK K
            try simp only [List.getElem_toArray, List.getElem_cons_succ, List.getElem_cons_zero, Act.put, List.setIfInBounds_toArray, List.set_cons_zero, List.set_cons_succ]
            refine wpAnyH_ready (rs := [11]) (by kernel_rfl) (by simp) ?_
            refine AllReadyH.cons rfl (fun K hK => ?_) AllReadyH.nil
            go_simp
            refine hK.out _ _ ?_ (fun hHeld => ?_)
            · exact TrC.of HO2.out.tb
            clear hK K
            try simp only [List.getElem_toArray, List.getElem_cons_succ, List.getElem_cons_zero, Act.put, List.setIfInBounds_toArray, List.set_cons_zero, List.set_cons_succ]
            refine wpAnyH_done (by kernel_rfl) ?_ _
            refine NoPanic.normal ?_
            go_wp2_with fail
            go_meet
            exact ⟨_, _, rfl, rfl, HO2.out⟩
        · have hl : w1.heap.size < W2.heap.size := lt_of_heap (HG2.out.z (w1.heap.size) (by simp [])).2
          go_simp
          have HG3 := Lib.hid HG2.out.alloc
          refine hK.out _ _ ?_ (fun hHeld => ?_)
          · exact TrC.of HG3.out.tb
          clear hK K hHeld
          obtain ⟨W3, hW⟩ : ∃ W, W = (W2).alloc (.cells #[.int .i64 0, .int .i64 0] 37) := ⟨_, rfl⟩
          rw [← hW] at HG3 ⊢
          clear hW
          try simp only [List.getElem_toArray, List.getElem_cons_succ, List.getElem_cons_zero, Act.put, List.setIfInBounds_toArray, List.set_cons_zero, List.set_cons_succ]
          refine wpAnyH_ready (rs := [5]) (by kernel_rfl) (by simp) ?_
          refine AllReadyH.cons rfl (fun K hK => ?_) AllReadyH.nil
          go_simp
          (refine (HM.out _ HG3.out.bel).mono ?_; rintro e w4 ⟨rfl, hb4⟩; have HG4 := Lib.hid (HG3.out.keep hb4); clear hb4)
          go_wp2_with fail
          refine hK.out _ _ ?_ (fun hHeld => ?_)
          · exact TrC.of HG4.out.tb
          clear hK K
          try simp only [List.getElem_toArray, List.getElem_cons_succ, List.getElem_cons_zero, Act.put, List.setIfInBounds_toArray, List.set_cons_zero, List.set_cons_succ]
          refine wpAnyH_ready (rs := [7]) (by kernel_rfl) (by simp) ?_
          refine AllReadyH.cons rfl (fun K hK => ?_) AllReadyH.nil
          go_simp
          (refine (HO2.out _ HG4.out.bel).mono ?_; rintro e w5 ⟨rfl, hb5⟩; have HG5 := Lib.hid (HG4.out.keep hb5); clear hb5)
          go_wp2_with fail
          refine hK.out _ _ ?_ (fun hHeld => ?_)
          · exact TrC.of HG5.out.tb
          clear hK K
          try simp only [List.getElem_toArray, List.getElem_cons_succ, List.getElem_cons_zero, Act.put, List.setIfInBounds_toArray, List.set_cons_zero, List.set_cons_succ]
          have hne : W2.heap.size ≠ w1.heap.size := by omega
          have hne2 : w1.heap.size ≠ W2.heap.size := by omega
          have hA := HG5.out.z (w1.heap.size) (by simp [])
          have hB := HG5.out.z (W2.heap.size) (by simp [])
          obtain ⟨x0, x1, x2, x3⟩ := box2r hA.2
          obtain ⟨y0, y1, y2, y3⟩ := box2r hB.2
          have lx := lt_of_heap hA.2
          have ly := lt_of_heap hB.2
          have HO1 := Lib.hid (HG5.out.one (A := w1.heap.size) (B := W2.heap.size) (by simp []) (by simp []) hne (.int .i64 va) (.int .i64 ca))
          have HO2 := Lib.hid (HG5.out.two (A := w1.heap.size) (B := W2.heap.size) (by simp []) (by simp []) hne va ca vb cb)
          refine wpAnyH_ready (rs := [10]) (by kernel_rfl) (by simp) ?_
          refine AllReadyH.cons rfl (fun K hK => ?_) AllReadyH.nil
          go_simp
          refine hK.out _ _ ?_ (fun hHeld => ?_)
          · exact TrC.of HO1.out.1
          clear hK K
          try simp only [List.getElem_toArray, List.getElem_cons_succ, List.getElem_cons_zero, Act.put, List.setIfInBounds_toArray, List.set_cons_zero, List.set_cons_succ]
          refine wpAnyH_ready (rs := [11]) (by kernel_rfl) (by simp) ?_
          refine AllReadyH.cons rfl (fun K hK => ?_) AllReadyH.nil
          go_simp
          refine hK.out _ _ ?_ (fun hHeld => ?_)
          · exact TrC.of HO2.out.tb
          clear hK K
          try simp only [List.getElem_toArray, List.getElem_cons_succ, List.getElem_cons_zero, Act.put, List.setIfInBounds_toArray, List.set_cons_zero, List.set_cons_succ]
          refine wpAnyH_done (by kernel_rfl) ?_ _
          refine NoPanic.normal ?_
          go_wp2_with fail
          go_meet
          exact ⟨_, _, rfl, rfl, HO2.out⟩
      · go_simp
        have HG2 := Lib.hid HG1.out.alloc
        refine hK.out _ _ ?_ (fun hHeld => ?_)
        · exact TrC.of HG2.out.tb
        clear hK K hHeld
        obtain ⟨W2, hW⟩ : ∃ W, W = (w1).alloc (.cells #[.int .i64 0, .int .i64 0] 37) := ⟨_, rfl⟩
        rw [← hW] at HG2 ⊢
        clear hW
        try simp only [List.getElem_toArray, List.getElem_cons_succ, List.getElem_cons_zero, Act.put, List.setIfInBounds_toArray, List.set_cons_zero, List.set_cons_succ]
        refine wpAnyH_ready (rs := [5, 8]) (by kernel_rfl) (by simp) ?_
        refine AllReadyH.cons rfl (fun K hK => ?_) (AllReadyH.cons rfl (fun K hK => ?_) AllReadyH.nil)
        · go_simp
          (refine (HM.out _ HG2.out.bel).mono ?_; rintro e w3 ⟨rfl, hb3⟩; have HG3 := Lib.hid (HG2.out.keep hb3); clear hb3)
          go_wp2_with fail
          refine hK.out _ _ ?_ (fun hHeld => ?_)
          · exact TrC.of HG3.out.tb
          clear hK K
          try simp only [List.getElem_toArray, List.getElem_cons_succ, List.getElem_cons_zero, Act.put, List.setIfInBounds_toArray, List.set_cons_zero, List.set_cons_succ]
          refine wpAnyH_ready (rs := [7, 8]) (by kernel_rfl) (by simp) ?_
          refine AllReadyH.cons rfl (fun K hK => ?_) (AllReadyH.cons rfl (fun K hK => ?_) AllReadyH.nil)
          · go_simp
            (refine (HO2.out _ HG3.out.bel).mono ?_; rintro e w4 ⟨rfl, hb4⟩; have HG4 := Lib.hid (HG3.out.keep hb4); clear hb4)
            go_wp2_with fail
            refine hK.out _ _ ?_ (fun hHeld => ?_)
            · exact TrC.of HG4.out.tb
            clear hK K
            try simp only [List.getElem_toArray, List.getElem_cons_succ, List.getElem_cons_zero, Act.put, List.setIfInBounds_toArray, List.set_cons_zero, List.set_cons_succ]
            refine wpAnyH_ready (rs := [8]) (by kernel_rfl) (by simp) ?_
            refine AllReadyH.cons rfl (fun K hK => ?_) AllReadyH.nil
            have hl : w1.heap.size < w4.heap.size := lt_of_heap (HG4.out.z (w1.heap.size) (by simp [])).2
            go_simp
            have HG5 := Lib.hid HG4.out.alloc
            refine hK.out _ _ ?_ (fun hHeld => ?_)
            · exact TrC.of HG5.out.tb
            clear hK K hHeld
            obtain ⟨W5, hW⟩ : ∃ W, W = (w4).alloc (.cells #[.int .i64 0, .int .i64 0] 37) := ⟨_, rfl⟩
            rw [← hW] at HG5 ⊢
            clear hW
            try simp only [List.getElem_toArray, List.getElem_cons_succ, List.getElem_cons_zero, Act.put, List.setIfInBounds_toArray, List.set_cons_zero, List.set_cons_succ]
            have hne : w1.heap.size ≠ w4.heap.size := by omega
            have hne2 : w4.heap.size ≠ w1.heap.size := by omega
            have hA := HG5.out.z (w4.heap.size) (by simp [])
            have hB := HG5.out.z (w1.heap.size) (by simp [])
            obtain ⟨x0, x1, x2, x3⟩ := box2r hA.2
            obtain ⟨y0, y1, y2, y3⟩ := box2r hB.2
            have lx := lt_of_heap hA.2
            have ly := lt_of_heap hB.2
            have HO1 := Lib.hid (HG5.out.one (A := w4.heap.size) (B := w1.heap.size) (by simp []) (by simp []) hne (.int .i64 va) (.int .i64 ca))
            have HO2 := Lib.hid (HG5.out.two (A := w4.heap.size) (B := w1.heap.size) (by simp []) (by simp []) hne va ca vb cb)
            refine wpAnyH_ready (rs := [10]) (by kernel_rfl) (by simp) ?_
            refine AllReadyH.cons rfl (fun K hK => ?_) AllReadyH.nil
            go_simp
            refine hK.out _ _ ?_ (fun hHeld => ?_)
            · exact TrC.of HO1.out.1
            clear hK K
            try simp only [List.getElem_toArray, List.getElem_cons_succ, List.getElem_cons_zero, Act.put, List.setIfInBounds_toArray, List.set_cons_zero, List.set_cons_succ]
            refine wpAnyH_ready (rs := [11]) (by kernel_rfl) (by simp) ?_
            refine AllReadyH.cons rfl (fun K hK => ?_) AllReadyH.nil
            go_simp
            refine hK.out _ _ ?_ (fun hHeld => ?_)
            · exact TrC.of HO2.out.tb
            clear hK K
            try simp only [List.getElem_toArray, List.getElem_cons_succ, List.getElem_cons_zero, Act.put, List.setIfInBounds_toArray, List.set_cons_zero, List.set_cons_succ]
            refine wpAnyH_done (by kernel_rfl) ?_ _
            refine NoPanic.normal ?_
            go_wp2_with fail
            go_meet
            exact ⟨_, _, rfl, rfl, HO2.out⟩
          · have hl : w1.heap.size < w3.heap.size := lt_of_heap (HG3.out.z (w1.heap.size) (by simp [])).2
            go_simp
            have HG4 := Lib.hid HG3.out.alloc
            refine hK.out _ _ ?_ (fun hHeld => ?_)
            · exact TrC.of HG4.out.tb
            clear hK K hHeld
            obtain ⟨W4, hW⟩ : ∃ W, W = (w3).alloc (.cells #[.int .i64 0, .int .i64 0] 37) := ⟨_, rfl⟩
            rw [← hW] at HG4 ⊢
            clear hW
            try simp only [List.getElem_toArray, List.getElem_cons_succ, List.getElem_cons_zero, Act.put, List.setIfInBounds_toArray, List.set_cons_zero, List.set_cons_succ]
            refine wpAnyH_ready (rs := [7]) (by kernel_rfl) (by simp) ?_
            refine AllReadyH.cons rfl (fun K hK => ?_) AllReadyH.nil
            go_simp
            (refine (HO2.out _ HG4.out.bel).mono ?_; rintro e w5 ⟨rfl, hb5⟩; have HG5 := Lib.hid (HG4.out.keep hb5); clear hb5)
            go_wp2_with fail
            refine hK.out _ _ ?_ (fun hHeld => ?_)
            · exact TrC.of HG5.out.tb
            clear hK K
            try simp only [List.getElem_toArray, List.getElem_cons_succ, List.getElem_cons_zero, Act.put, List.setIfInBounds_toArray, List.set_cons_zero, List.set_cons_succ]
            have hne : w1.heap.size ≠ w3.heap.size := by omega
            have hne2 : w3.heap.size ≠ w1.heap.size := by omega
            have hA := HG5.out.z (w3.heap.size) (by simp [])
            have hB := HG5.out.z (w1.heap.size) (by simp [])
            obtain ⟨x0, x1, x2, x3⟩ := box2r hA.2
            obtain ⟨y0, y1, y2, y3⟩ := box2r hB.2
            have lx := lt_of_heap hA.2
            have ly := lt_of_heap hB.2
            have HO1 := Lib.hid (HG5.out.one (A := w3.heap.size) (B := w1.heap.size) (by simp []) (by simp []) hne (.int .i64 va) (.int .i64 ca))
            have HO2 := Lib.hid (HG5.out.two (A := w3.heap.size) (B := w1.heap.size) (by simp []) (by simp []) hne va ca vb cb)
            refine wpAnyH_ready (rs := [10]) (by kernel_rfl) (by simp) ?_
            refine AllReadyH.cons rfl (fun K hK => ?_) AllReadyH.nil
            go_simp
            refine hK.out _ _ ?_ (fun hHeld => ?_)
            · exact TrC.of HO1.out.1
            clear hK K
            try simp only [List.getElem_toArray, List.getElem_cons_succ, List.getElem_cons_zero, Act.put, List.setIfInBounds_toArray, List.set_cons_zero, List.set_cons_succ]
            refine wpAnyH_ready (rs := [11]) (by kernel_rfl) (by simp) ?_
            refine AllReadyH.cons rfl (fun K hK => ?_) AllReadyH.nil
            go_simp
            refine hK.out _ _ ?_ (fun hHeld => ?_)
            · exact TrC.of HO2.out.tb
            clear hK K
            try simp only [List.getElem_toArray, List.getElem_cons_succ, List.getElem_cons_zero, Act.put, List.setIfInBounds_toArray, List.set_cons_zero, List.set_cons_succ]
            refine wpAnyH_done (by kernel_rfl) ?_ _
            refine NoPanic.normal ?_
            go_wp2_with fail
            go_meet
            exact ⟨_, _, rfl, rfl, HO2.out⟩
        · have hl : w1.heap.size < W2.heap.size := lt_of_heap (HG2.out.z (w1.heap.size) (by simp [])).2
          go_simp
          have HG3 := Lib.hid HG2.out.alloc
          refine hK.out _ _ ?_ (fun hHeld => ?_)
          · exact TrC.of HG3.out.tb
          clear hK K hHeld
          obtain ⟨W3, hW⟩ : ∃ W, W = (W2).alloc (.cells #[.int .i64 0, .int .i64 0] 37) := ⟨_, rfl⟩
          rw [← hW] at HG3 ⊢
          clear hW
          try simp only [List.getElem_toArray, List.getElem_cons_succ, List.getElem_cons_zero, Act.put, List.setIfInBounds_toArray, List.set_cons_zero, List.set_cons_succ]
          refine wpAnyH_ready (rs := [5]) (by kernel_rfl) (by simp) ?_
          refine AllReadyH.cons rfl (fun K hK => ?_) AllReadyH.nil
          go_simp
          (refine (HM.out _ HG3.out.bel).mono ?_; rintro e w4 ⟨rfl, hb4⟩; have HG4 := Lib.hid (HG3.out.keep hb4); clear hb4)
          go_wp2_with fail
          refine hK.out _ _ ?_ (fun hHeld => ?_)
          · exact TrC.of HG4.out.tb
          clear hK K
          try simp only [List.getElem_toArray, List.getElem_cons_succ, List.getElem_cons_zero, Act.put, List.setIfInBounds_toArray, List.set_cons_zero, List.set_cons_succ]
          refine wpAnyH_ready (rs := [7]) (by kernel_rfl) (by simp) ?_
          refine AllReadyH.cons rfl (fun K hK => ?_) AllReadyH.nil
          go_simp
          (refine (HO2.out _ HG4.out.bel).mono ?_; rintro e w5 ⟨rfl, hb5⟩; have HG5 := Lib.hid (HG4.out.keep hb5); clear hb5)
          go_wp2_with fail
          refine hK.out _ _ ?_ (fun hHeld => ?_)
          · exact TrC.of HG5.out.tb
          clear hK K
          try simp only [List.getElem_toArray, List.getElem_cons_succ, List.getElem_cons_zero, Act.put, List.setIfInBounds_toArray, List.set_cons_zero, List.set_cons_succ]
          have hne : w1.heap.size ≠ W2.heap.size := by omega
          have hne2 : W2.heap.size ≠ w1.heap.size := by omega
          have hA := HG5.out.z (W2.heap.size) (by simp [])
          have hB := HG5.out.z (w1.heap.size) (by simp [])
          obtain ⟨x0, x1, x2, x3⟩ := box2r hA.2
          obtain ⟨y0, y1, y2, y3⟩ := box2r hB.2
          have lx := lt_of_heap hA.2
          have ly := lt_of_heap hB.2
          have HO1 := Lib.hid (HG5.out.one (A := W2.heap.size) (B := w1.heap.size) (by simp []) (by simp []) hne (.int .i64 va) (.int .i64 ca))
          have HO2 := Lib.hid (HG5.out.two (A := W2.heap.size) (B := w1.heap.size) (by simp []) (by simp []) hne va ca vb cb)
          refine wpAnyH_ready (rs := [10]) (by kernel_rfl) (by simp) ?_
          refine AllReadyH.cons rfl (fun K hK => ?_) AllReadyH.nil
          go_simp
          refine hK.out _ _ ?_ (fun hHeld => ?_)
          · exact TrC.of HO1.out.1
          clear hK K
          try simp only [List.getElem_toArray, List.getElem_cons_succ, List.getElem_cons_zero, Act.put, List.setIfInBounds_toArray, List.set_cons_zero, List.set_cons_succ]
          refine wpAnyH_ready (rs := [11]) (by kernel_rfl) (by simp) ?_
          refine AllReadyH.cons rfl (fun K hK => ?_) AllReadyH.nil
          go_simp
          refine hK.out _ _ ?_ (fun hHeld => ?_)
          · exact TrC.of HO2.out.tb
          clear hK K
          try simp only [List.getElem_toArray, List.getElem_cons_succ, List.getElem_cons_zero, Act.put, List.setIfInBounds_toArray, List.set_cons_zero, List.set_cons_succ]
          refine wpAnyH_done (by kernel_rfl) ?_ _
          refine NoPanic.normal ?_
          go_wp2_with fail
          go_meet
          exact ⟨_, _, rfl, rfl, HO2.out⟩
    · go_simp
      have HG1 := Lib.hid HG0.out.alloc
      refine hK.out _ _ ?_ (fun hHeld => ?_)
      · exact TrC.of HG1.out.tb
      clear hK K hHeld
      obtain ⟨W1, hW⟩ : ∃ W, W = (Wd).alloc (.cells #[.int .i64 0, .int .i64 0] 37) := ⟨_, rfl⟩
      rw [← hW] at HG1 ⊢
      clear hW
      try simp only [List.getElem_toArray, List.getElem_cons_succ, List.getElem_cons_zero, Act.put, List.setIfInBounds_toArray, List.set_cons_zero, List.set_cons_succ]
      refine wpAnyH_ready (rs := [2, 9]) (by kernel_rfl) (by simp) ?_
      refine AllReadyH.cons rfl (fun K hK => ?_) (AllReadyH.cons rfl (fun K hK => ?_) AllReadyH.nil)
      · go_simp
        (refine (HO.out _ HG1.out.bel).mono ?_; rintro e w2 ⟨rfl, hb2⟩; have HG2 := Lib.hid (HG1.out.keep hb2); clear hb2)
        go_wp2_with fail
        refine hK.out _ _ ?_ (fun hHeld => ?_)
        · exact TrC.of HG2.out.tb
        clear hK K
        try simp only [List.getElem_toArray, List.getElem_cons_succ, List.getElem_cons_zero, Act.put, List.setIfInBounds_toArray, List.set_cons_zero, List.set_cons_succ]
        refine wpAnyH_ready (rs := [5, 9]) (by kernel_rfl) (by simp) ?_
        refine AllReadyH.cons rfl (fun K hK => ?_) (AllReadyH.cons rfl (fun K hK => ?_) AllReadyH.nil)
        · go_simp
          (refine (HM.out _ HG2.out.bel).mono ?_; rintro e w3 ⟨rfl, hb3⟩; have HG3 := Lib.hid (HG2.out.keep hb3); clear hb3)
          go_wp2_with fail
          refine hK.out _ _ ?_ (fun hHeld => ?_)
          · exact TrC.of HG3.out.tb
          clear hK K
          try simp only [List.getElem_toArray, List.getElem_cons_succ, List.getElem_cons_zero, Act.put, List.setIfInBounds_toArray, List.set_cons_zero, List.set_cons_succ]
          refine wpAnyH_ready (rs := [7, 9]) (by kernel_rfl) (by simp) ?_
          refine AllReadyH.cons rfl (fun K hK => ?_) (AllReadyH.cons rfl (fun K hK => ?_) AllReadyH.nil)
          · go_simp
            (refine (HO2.out _ HG3.out.bel).mono ?_; rintro e w4 ⟨rfl, hb4⟩; have HG4 := Lib.hid (HG3.out.keep hb4); clear hb4)
            go_wp2_with fail
            refine hK.out _ _ ?_ (fun hHeld => ?_)
            · exact TrC.of HG4.out.tb
            clear hK K
            try simp only [List.getElem_toArray, List.getElem_cons_succ, List.getElem_cons_zero, Act.put, List.setIfInBounds_toArray, List.set_cons_zero, List.set_cons_succ]
            refine wpAnyH_ready (rs := [9]) (by kernel_rfl) (by simp) ?_
            refine AllReadyH.cons rfl (fun K hK => ?_) AllReadyH.nil
            have hl : Wd.heap.size < w4.heap.size := lt_of_heap (HG4.out.z (Wd.heap.size) (by simp [])).2
            go_simp
            have HG5 := Lib.hid HG4.out.alloc
            refine hK.out _ _ ?_ (fun hHeld => ?_)
            · exact TrC.of HG5.out.tb
            clear hK K hHeld
            obtain ⟨W5, hW⟩ : ∃ W, W = (w4).alloc (.cells #[.int .i64 0, .int .i64 0] 37) := ⟨_, rfl⟩
            rw [← hW] at HG5 ⊢
            clear hW
            try simp only [List.getElem_toArray, List.getElem_cons_succ, List.getElem_cons_zero, Act.put, List.setIfInBounds_toArray, List.set_cons_zero, List.set_cons_succ]
            have hne : w4.heap.size ≠ Wd.heap.size := by omega
            have hne2 : Wd.heap.size ≠ w4.heap.size := by omega
            have hA := HG5.out.z (Wd.heap.size) (by simp [])
            have hB := HG5.out.z (w4.heap.size) (by simp [])
            obtain ⟨x0, x1, x2, x3⟩ := box2r hA.2
            obtain ⟨y0, y1, y2, y3⟩ := box2r hB.2
            have lx := lt_of_heap hA.2
            have ly := lt_of_heap hB.2
            have HO1 := Lib.hid (HG5.out.one (A := Wd.heap.size) (B := w4.heap.size) (by simp []) (by simp []) hne (.int .i64 va) (.int .i64 ca))
            have HO2 := Lib.hid (HG5.out.two (A := Wd.heap.size) (B := w4.heap.size) (by simp []) (by simp []) hne va ca vb cb)
            refine wpAnyH_ready (rs := [10]) (by kernel_rfl) (by simp) ?_
            refine AllReadyH.cons rfl (fun K hK => ?_) AllReadyH.nil
            go_simp
            refine hK.out _ _ ?_ (fun hHeld => ?_)
            · exact TrC.of HO1.out.1
            clear hK K
            try simp only [List.getElem_toArray, List.getElem_cons_succ, List.getElem_cons_zero, Act.put, List.setIfInBounds_toArray, List.set_cons_zero, List.set_cons_succ]
            refine wpAnyH_ready (rs := [11]) (by kernel_rfl) (by simp) ?_
            refine AllReadyH.cons rfl (fun K hK => ?_) AllReadyH.nil
            go_simp
            refine hK.out _ _ ?_ (fun hHeld => ?_)
            · exact TrC.of HO2.out.tb
            clear hK K
            try simp only [List.getElem_toArray, List.getElem_cons_succ, List.getElem_cons_zero, Act.put, List.setIfInBounds_toArray, List.set_cons_zero, List.set_cons_succ]
            refine wpAnyH_done (by kernel_rfl) ?_ _
            refine NoPanic.normal ?_
            go_wp2_with fail
            go_meet
            exact ⟨_, _, rfl, rfl, HO2.out⟩
          · have hl : Wd.heap.size < w3.heap.size := lt_of_heap (HG3.out.z (Wd.heap.size) (by simp [])).2
            go_simp
            have HG4 := Lib.hid HG3.out.alloc
            refine hK.out _ _ ?_ (fun hHeld => ?_)
            · exact TrC.of HG4.out.tb
            clear hK K hHeld
            obtain ⟨W4, hW⟩ : ∃ W, W = (w3).alloc (.cells #[.int .i64 0, .int .i64 0] 37) := ⟨_, rfl⟩
            rw [← hW] at HG4 ⊢
            clear hW
            try simp only [List.getElem_toArray, List.getElem_cons_succ, List.getElem_cons_zero, Act.put, List.setIfInBounds_toArray, List.set_cons_zero, List.set_cons_succ]
            refine wpAnyH_ready (rs := [7]) (by kernel_rfl) (by simp) ?_
            refine AllReadyH.cons rfl (fun K hK => ?_) AllReadyH.nil
            go_simp
            (refine (HO2.out _ HG4.out.bel).mono ?_; rintro e w5 ⟨rfl, hb5⟩; have HG5 := Lib.hid (HG4.out.keep hb5); clear hb5)
            go_wp2_with fail
            refine hK.out _ _ ?_ (fun hHeld => ?_)
            · exact TrC.of HG5.out.tb
            clear hK K
            try simp only [List.getElem_toArray, List.getElem_cons_succ, List.getElem_cons_zero, Act.put, List.setIfInBounds_toArray, List.set_cons_zero, List.set_cons_succ]
            have hne : w3.heap.size ≠ Wd.heap.size := by omega
            have hne2 : Wd.heap.size ≠ w3.heap.size := by omega
            have hA := HG5.out.z (Wd.heap.size) (by simp [])
            have hB := HG5.out.z (w3.heap.size) (by simp [])
            obtain ⟨x0, x1, x2, x3⟩ := box2r hA.2
            obtain ⟨y0, y1, y2, y3⟩ := box2r hB.2
            have lx := lt_of_heap hA.2
            have ly := lt_of_heap hB.2
            have HO1 := Lib.hid (HG5.out.one (A := Wd.heap.size) (B := w3.heap.size) (by simp []) (by simp []) hne (.int .i64 va) (.int .i64 ca))
            have HO2 := Lib.hid (HG5.out.two (A := Wd.heap.size) (B := w3.heap.size) (by simp []) (by simp []) hne va ca vb cb)
            refine wpAnyH_ready (rs := [10]) (by kernel_rfl) (by simp) ?_
            refine AllReadyH.cons rfl (fun K hK => ?_) AllReadyH.nil
            go_simp
            refine hK.out _ _ ?_ (fun hHeld => ?_)
            · exact TrC.of HO1.out.1
            clear hK K
            try simp only [List.getElem_toArray, List.getElem_cons_succ, List.getElem_cons_zero, Act.put, List.setIfInBounds_toArray, List.set_cons_zero, List.set_cons_succ]
            refine wpAnyH_ready (rs := [11]) (by kernel_rfl) (by simp) ?_
            refine AllReadyH.cons rfl (fun K hK => ?_) AllReadyH.nil
            go_simp
            refine hK.out _ _ ?_ (fun hHeld => ?_)
            · exact TrC.of HO2.out.tb
            clear hK K
            try simp only [List.getElem_toArray, List.getElem_cons_succ, List.getElem_cons_zero, Act.put, List.setIfInBounds_toArray, List.set_cons_zero, List.set_cons_succ]
            refine wpAnyH_done (by kernel_rfl) ?_ _
            refine NoPanic.normal ?_
            go_wp2_with fail
            go_meet
            exact ⟨_, _, rfl, rfl, HO2.out⟩
        · have hl : Wd.heap.size < w2.heap.size := lt_of_heap (HG2.out.z (Wd.heap.size) (by simp [])).2
          go_simp
          have HG3 := Lib.hid HG2.out.alloc
          refine hK.out _ _ ?_ (fun hHeld => ?_)
          · exact TrC.of HG3.out.tb
          clear hK K hHeld
          obtain ⟨W3, hW⟩ : ∃ W, W = (w2).alloc (.cells #[.int .i64 0, .int .i64 0] 37) := ⟨_, rfl⟩
          rw [← hW] at HG3 ⊢
          clear hW
          try simp only [List.getElem_toArray, List.getElem_cons_succ, List.getElem_cons_zero, Act.put, List.setIfInBounds_toArray, List.set_cons_zero, List.set_cons_succ]
          refine wpAnyH_ready (rs := [5]) (by kernel_rfl) (by simp) ?_
          refine AllReadyH.cons rfl (fun K hK => ?_) AllReadyH.nil
          go_simp
          (refine (HM.out _ HG3.out.bel).mono ?_; rintro e w4 ⟨rfl, hb4⟩; have HG4 := Lib.hid (HG3.out.keep hb4); clear hb4)
          go_wp2_with fail
          refine hK.out _ _ ?_ (fun hHeld => ?_)
          · exact TrC.of HG4.out.tb
          clear hK K
          try simp only [List.getElem_toArray, List.getElem_cons_succ, List.getElem_cons_zero, Act.put, List.setIfInBounds_toArray, List.set_cons_zero, List.set_cons_succ]
          refine wpAnyH_ready (rs := [7]) (by kernel_rfl) (by simp) ?_
          refine AllReadyH.cons rfl (fun K hK => ?_) AllReadyH.nil
          go_simp
          (refine (HO2.out _ HG4.out.bel).mono ?_; rintro e w5 ⟨rfl, hb5⟩; have HG5 := Lib.hid (HG4.out.keep hb5); clear hb5)
          go_wp2_with fail
          refine hK.out _ _ ?_ (fun hHeld => ?_)
          · exact TrC.of HG5.out.tb
          clear hK K
          try simp only [List.getElem_toArray, List.getElem_cons_succ, List.getElem_cons_zero, Act.put, List.setIfInBounds_toArray, List.set_cons_zero, List.set_cons_succ]
          have hne : w2.heap.size ≠ Wd.heap.size := by omega
          have hne2 : Wd.heap.size ≠ w2.heap.size := by omega
          have hA := HG5.out.z (Wd.heap.size) (by simp [])
          have hB := HG5.out.z (w2.heap.size) (by simp [])
          obtain ⟨x0, x1, x2, x3⟩ := box2r hA.2
          obtain ⟨y0, y1, y2, y3⟩ := box2r hB.2
          have lx := lt_of_heap hA.2
          have ly := lt_of_heap hB.2
          have HO1 := Lib.hid (HG5.out.one (A := Wd.heap.size) (B := w2.heap.size) (by simp []) (by simp []) hne (.int .i64 va) (.int .i64 ca))
          have HO2 := Lib.hid (HG5.out.two (A := Wd.heap.size) (B := w2.heap.size) (by simp []) (by simp []) hne va ca vb cb)
          refine wpAnyH_ready (rs := [10]) (by kernel_rfl) (by simp) ?_
          refine AllReadyH.cons rfl (fun K hK => ?_) AllReadyH.nil
          go_simp
          refine hK.out _ _ ?_ (fun hHeld => ?_)
          · exact TrC.of HO1.out.1
          clear hK K
          try simp only [List.getElem_toArray, List.getElem_cons_succ, List.getElem_cons_zero, Act.put, List.setIfInBounds_toArray, List.set_cons_zero, List.set_cons_succ]
          refine wpAnyH_ready (rs := [11]) (by kernel_rfl) (by simp) ?_
          refine AllReadyH.cons rfl (fun K hK => ?_) AllReadyH.nil
          go_simp
          refine hK.out _ _ ?_ (fun hHeld => ?_)
          · exact TrC.of HO2.out.tb
          clear hK K
          try simp only [List.getElem_toArray, List.getElem_cons_succ, List.getElem_cons_zero, Act.put, List.setIfInBounds_toArray, List.set_cons_zero, List.set_cons_succ]
          refine wpAnyH_done (by kernel_rfl) ?_ _
          refine NoPanic.normal ?_
          go_wp2_with fail
          go_meet
          exact ⟨_, _, rfl, rfl, HO2.out⟩
      · have hl : Wd.heap.size < W1.heap.size := lt_of_heap (HG1.out.z (Wd.heap.size) (by simp [])).2
        go_simp
        have HG2 := Lib.hid HG1.out.alloc
        refine hK.out _ _ ?_ (fun hHeld => ?_)
        · exact TrC.of HG2.out.tb
        clear hK K hHeld
        obtain ⟨W2, hW⟩ : ∃ W, W = (W1).alloc (.cells #[.int .i64 0, .int .i64 0] 37) := ⟨_, rfl⟩
        rw [← hW] at HG2 ⊢
        clear hW
        try simp only [List.getElem_toArray, List.getElem_cons_succ, List.getElem_cons_zero, Act.put, List.setIfInBounds_toArray, List.set_cons_zero, List.set_cons_succ]
        refine wpAnyH_ready (rs := [2]) (by kernel_rfl) (by simp) ?_
        refine AllReadyH.cons rfl (fun K hK => ?_) AllReadyH.nil
        go_simp
        (refine (HO.out _ HG2.out.bel).mono ?_; rintro e w3 ⟨rfl, hb3⟩; have HG3 := Lib.hid (HG2.out.keep hb3); clear hb3)
        go_wp2_with fail
        refine hK.out _ _ ?_ (fun hHeld => ?_)
        · exact TrC.of HG3.out.tb
        clear hK K
        try simp only [List.getElem_toArray, List.getElem_cons_succ, List.getElem_cons_zero, Act.put, List.setIfInBounds_toArray, List.set_cons_zero, List.set_cons_succ]
        refine wpAnyH_ready (rs := [5]) (by kernel_rfl) (by simp) ?_
        refine AllReadyH.cons rfl (fun K hK => ?_) AllReadyH.nil
        go_simp
        (refine (HM.out _ HG3.out.bel).mono ?_; rintro e w4 ⟨rfl, hb4⟩; have HG4 := Lib.hid (HG3.out.keep hb4); clear hb4)
        go_wp2_with fail
        refine hK.out _ _ ?_ (fun hHeld => ?_)
        · exact TrC.of HG4.out.tb
        clear hK K
        try simp only [List.getElem_toArray, List.getElem_cons_succ, List.getElem_cons_zero, Act.put, List.setIfInBounds_toArray, List.set_cons_zero, List.set_cons_succ]
        refine wpAnyH_ready (rs := [7]) (by kernel_rfl) (by simp) ?_
        refine AllReadyH.cons rfl (fun K hK => ?_) AllReadyH.nil
        go_simp
        (refine (HO2.out _ HG4.out.bel).mono ?_; rintro e w5 ⟨rfl, hb5⟩; have HG5 := Lib.hid (HG4.out.keep hb5); clear hb5)
        go_wp2_with fail
        refine hK.out _ _ ?_ (fun hHeld => ?_)
        · exact TrC.of HG5.out.tb
        clear hK K
        try simp only [List.getElem_toArray, List.getElem_cons_succ, List.getElem_cons_zero, Act.put, List.setIfInBounds_toArray, List.set_cons_zero, List.set_cons_succ]
        have hne : W1.heap.size ≠ Wd.heap.size := by omega
        have hne2 : Wd.heap.size ≠ W1.heap.size := by omega
        have hA := HG5.out.z (Wd.heap.size) (by simp [])
        have hB := HG5.out.z (W1.heap.size) (by simp [])
        obtain ⟨x0, x1, x2, x3⟩ := box2r hA.2
        obtain ⟨y0, y1, y2, y3⟩ := box2r hB.2
        have lx := lt_of_heap hA.2
        have ly := lt_of_heap hB.2
        have HO1 := Lib.hid (HG5.out.one (A := Wd.heap.size) (B := W1.heap.size) (by simp []) (by simp []) hne (.int .i64 va) (.int .i64 ca))
        have HO2 := Lib.hid (HG5.out.two (A := Wd.heap.size) (B := W1.heap.size) (by simp []) (by simp []) hne va ca vb cb)
        refine wpAnyH_ready (rs := [10]) (by kernel_rfl) (by simp) ?_
        refine AllReadyH.cons rfl (fun K hK => ?_) AllReadyH.nil
        go_simp
        refine hK.out _ _ ?_ (fun hHeld => ?_)
        · exact TrC.of HO1.out.1
        clear hK K
        try simp only [List.getElem_toArray, List.getElem_cons_succ, List.getElem_cons_zero, Act.put, List.setIfInBounds_toArray, List.set_cons_zero, List.set_cons_succ]
        refine wpAnyH_ready (rs := [11]) (by kernel_rfl) (by simp) ?_
        refine AllReadyH.cons rfl (fun K hK => ?_) AllReadyH.nil
        go_simp
        refine hK.out _ _ ?_ (fun hHeld => ?_)
        · exact TrC.of HO2.out.tb
        clear hK K
        try simp only [List.getElem_toArray, List.getElem_cons_succ, List.getElem_cons_zero, Act.put, List.setIfInBounds_toArray, List.set_cons_zero, List.set_cons_succ]
        refine wpAnyH_done (by kernel_rfl) ?_ _
        refine NoPanic.normal ?_
        go_wp2_with fail
        go_meet
        exact ⟨_, _, rfl, rfl, HO2.out⟩
    · go_simp
      have HG1 := Lib.hid HG0.out.alloc
      refine hK.out _ _ ?_ (fun hHeld => ?_)
      · exact TrC.of HG1.out.tb
      clear hK K hHeld
      obtain ⟨W1, hW⟩ : ∃ W, W = (Wd).alloc (.cells #[.int .i64 0, .int .i64 0] 37) := ⟨_, rfl⟩
      rw [← hW] at HG1 ⊢
      clear hW
      try simp only [List.getElem_toArray, List.getElem_cons_succ, List.getElem_cons_zero, Act.put, List.setIfInBounds_toArray, List.set_cons_zero, List.set_cons_succ]
      refine wpAnyH_ready (rs := [2, 8]) (by kernel_rfl) (by simp) ?_
      refine AllReadyH.cons rfl (fun K hK => ?_) (AllReadyH.cons rfl (fun K hK => ?_) AllReadyH.nil)
      · go_simp
        (refine (HO.out _ HG1.out.bel).mono ?_; rintro e w2 ⟨rfl, hb2⟩; have HG2 := Lib.hid (HG1.out.keep hb2); clear hb2)
        go_wp2_with fail
        refine hK.out _ _ ?_ (fun hHeld => ?_)
        · exact TrC.of HG2.out.tb
        clear hK K
        try simp only [List.getElem_toArray, List.getElem_cons_succ, List.getElem_cons_zero, Act.put, List.setIfInBounds_toArray, List.set_cons_zero, List.set_cons_succ]
        refine wpAnyH_ready (rs := [5, 8]) (by kernel_rfl) (by simp) ?_
        refine AllReadyH.cons rfl (fun K hK => ?_) (AllReadyH.cons rfl (fun K hK => ?_) AllReadyH.nil)
        · go_simp
          (refine (HM.out _ HG2.out.bel).mono ?_; rintro e w3 ⟨rfl, hb3⟩; have HG3 := Lib.hid (HG2.out.keep hb3); clear hb3)
          go_wp2_with fail
          refine hK.out _ _ ?_ (fun hHeld => ?_)
          · exact TrC.of HG3.out.tb
          clear hK K
          try simp only [List.getElem_toArray, List.getElem_cons_succ, List.getElem_cons_zero, Act.put, List.setIfInBounds_toArray, List.set_cons_zero, List.set_cons_succ]
          refine wpAnyH_ready (rs := [7, 8]) (by kernel_rfl) (by simp) ?_
          refine AllReadyH.cons rfl (fun K hK => ?_) (AllReadyH.cons rfl (fun K hK => ?_) AllReadyH.nil)
          · go_simp
            (refine (HO2.out _ HG3.out.bel).mono ?_; rintro e w4 ⟨rfl, hb4⟩; have HG4 := Lib.hid (HG3.out.keep hb4); clear hb4)
            go_wp2_with fail
            refine hK.out _ _ ?_ (fun hHeld => ?_)
            · exact TrC.of HG4.out.tb
            clear hK K
            try simp only [List.getElem_toArray, List.getElem_cons_succ, List.getElem_cons_zero, Act.put, List.setIfInBounds_toArray, List.set_cons_zero, List.set_cons_succ]
            refine wpAnyH_ready (rs := [8]) (by kernel_rfl) (by simp) ?_
            refine AllReadyH.cons rfl (fun K hK => ?_) AllReadyH.nil
            have hl : Wd.heap.size < w4.heap.size := lt_of_heap (HG4.out.z (Wd.heap.size) (by simp [])).2
            go_simp
            have HG5 := Lib.hid HG4.out.alloc
            refine hK.out _ _ ?_ (fun hHeld => ?_)
            · exact TrC.of HG5.out.tb
            clear hK K hHeld
            obtain ⟨W5, hW⟩ : ∃ W, W = (w4).alloc (.cells #[.int .i64 0, .int .i64 0] 37) := ⟨_, rfl⟩
            rw [← hW] at HG5 ⊢
            clear hW
            try simp only [List.getElem_toArray, List.getElem_cons_succ, List.getElem_cons_zero, Act.put, List.setIfInBounds_toArray, List.set_cons_zero, List.set_cons_succ]
            have hne : Wd.heap.size ≠ w4.heap.size := by omega
            have hne2 : w4.heap.size ≠ Wd.heap.size := by omega
            have hA := HG5.out.z (w4.heap.size) (by simp [])
            have hB := HG5.out.z (Wd.heap.size) (by simp [])
            obtain ⟨x0, x1, x2, x3⟩ := box2r hA.2
            obtain ⟨y0, y1, y2, y3⟩ := box2r hB.2
            have lx := lt_of_heap hA.2
            have ly := lt_of_heap hB.2
            have HO1 := Lib.hid (HG5.out.one (A := w4.heap.size) (B := Wd.heap.size) (by simp []) (by simp []) hne (.int .i64 va) (.int .i64 ca))
            have HO2 := Lib.hid (HG5.out.two (A := w4.heap.size) (B := Wd.heap.size) (by simp []) (by simp []) hne va ca vb cb)
            refine wpAnyH_ready (rs := [10]) (by kernel_rfl) (by simp) ?_
            refine AllReadyH.cons rfl (fun K hK => ?_) AllReadyH.nil
            go_simp
            refine hK.out _ _ ?_ (fun hHeld => ?_)
            · exact TrC.of HO1.out.1
            clear hK K
            try simp only [List.getElem_toArray, List.getElem_cons_succ, List.getElem_cons_zero, Act.put, List.setIfInBounds_toArray, List.set_cons_zero, List.set_cons_succ]
            refine wpAnyH_ready (rs := [11]) (by kernel_rfl) (by simp) ?_
            refine AllReadyH.cons rfl (fun K hK => ?_) AllReadyH.nil
            go_simp
            refine hK.out _ _ ?_ (fun hHeld => ?_)
            · exact TrC.of HO2.out.tb
            clear hK K
            try simp only [List.getElem_toArray, List.getElem_cons_succ, List.getElem_cons_zero, Act.put, List.setIfInBounds_toArray, List.set_cons_zero, List.set_cons_succ]
            refine wpAnyH_done (by kernel_rfl) ?_ _
            refine NoPanic.normal ?_
            go_wp2_with fail
            go_meet
            exact ⟨_, _, rfl, rfl, HO2.out⟩
          · have hl : Wd.heap.size < w3.heap.size := lt_of_heap (HG3.out.z (Wd.heap.size) (by simp [])).2
            go_simp
            have HG4 := Lib.hid HG3.out.alloc
            refine hK.out _ _ ?_ (fun hHeld => ?_)
            · exact TrC.of HG4.out.tb
            clear hK K hHeld
            obtain ⟨W4, hW⟩ : ∃ W, W = (w3).alloc (.cells #[.int .i64 0, .int .i64 0] 37) := ⟨_, rfl⟩
            rw [← hW] at HG4 ⊢
            clear hW
            try simp only [List.getElem_toArray, List.getElem_cons_succ, List.getElem_cons_zero, Act.put, List.setIfInBounds_toArray, List.set_cons_zero, List.set_cons_succ]
            refine wpAnyH_ready (rs := [7]) (by kernel_rfl) (by simp) ?_
            refine AllReadyH.cons rfl (fun K hK => ?_) AllReadyH.nil
            go_simp
            (refine (HO2.out _ HG4.out.bel).mono ?_; rintro e w5 ⟨rfl, hb5⟩; have HG5 := Lib.hid (HG4.out.keep hb5); clear hb5)
            go_wp2_with fail
            refine hK.out _ _ ?_ (fun hHeld => ?_)
            · exact TrC.of HG5.out.tb
            clear hK K
            try simp only [List.getElem_toArray, List.getElem_cons_succ, List.getElem_cons_zero, Act.put, List.setIfInBounds_toArray, List.set_cons_zero, List.set_cons_succ]
            have hne : Wd.heap.size ≠ w3.heap.size := by omega
            have hne2 : w3.heap.size ≠ Wd.heap.size := by omega
            have hA := HG5.out.z (w3.heap.size) (by simp [])
            have hB := HG5.out.z (Wd.heap.size) (by simp [])
            obtain ⟨x0, x1, x2, x3⟩ := box2r hA.2
            obtain ⟨y0, y1, y2, y3⟩ := box2r hB.2
            have lx := lt_of_heap hA.2
            have ly := lt_of_heap hB.2
            have HO1 := Lib.hid (HG5.out.one (A := w3.heap.size) (B := Wd.heap.size) (by simp []) (by simp []) hne (.int .i64 va) (.int .i64 ca))
            have HO2 := Lib.hid (HG5.out.two (A := w3.heap.size) (B := Wd.heap.size) (by simp []) (by simp []) hne va ca vb cb)
            refine wpAnyH_ready (rs := [10]) (by kernel_rfl) (by simp) ?_
            refine AllReadyH.cons rfl (fun K hK => ?_) AllReadyH.nil
            go_simp
            refine hK.out _ _ ?_ (fun hHeld => ?_)
            · exact TrC.of HO1.out.1
            clear hK K
            try simp only [List.getElem_toArray, List.getElem_cons_succ, List.getElem_cons_zero, Act.put, List.setIfInBounds_toArray, List.set_cons_zero, List.set_cons_succ]
            refine wpAnyH_ready (rs := [11]) (by kernel_rfl) (by simp) ?_
            refine AllReadyH.cons rfl (fun K hK => ?_) AllReadyH.nil
            go_simp
            refine hK.out _ _ ?_ (fun hHeld => ?_)
            · exact TrC.of HO2.out.tb
            clear hK K
            try simp only [List.getElem_toArray, List.getElem_cons_succ, List.getElem_cons_zero, Act.put, List.setIfInBounds_toArray, List.set_cons_zero, List.set_cons_succ]
            refine wpAnyH_done (by kernel_rfl) ?_ _
            refine NoPanic.normal ?_
            go_wp2_with fail
            go_meet
            exact ⟨_, _, rfl, rfl, HO2.out⟩
        · have hl : Wd.heap.size < w2.heap.size := lt_of_heap (HG2.out.z (Wd.heap.size) (by simp [])).2
          go_simp
          have HG3 := Lib.hid HG2.out.alloc
          refine hK.out _ _ ?_ (fun hHeld => ?_)
          · exact TrC.of HG3.out.tb
          clear hK K hHeld
          obtain ⟨W3, hW⟩ : ∃ W, W = (w2).alloc (.cells #[.int .i64 0, .int .i64 0] 37) := ⟨_, rfl⟩
          rw [← hW] at HG3 ⊢
          clear hW
          try simp only [List.getElem_toArray, List.getElem_cons_succ, List.getElem_cons_zero, Act.put, List.setIfInBounds_toArray, List.set_cons_zero, List.set_cons_succ]
          refine wpAnyH_ready (rs := [5]) (by kernel_rfl) (by simp) ?_
          refine AllReadyH.cons rfl (fun K hK => ?_) AllReadyH.nil
          go_simp
          (refine (HM.out _ HG3.out.bel).mono ?_; rintro e w4 ⟨rfl, hb4⟩; have HG4 := Lib.hid (HG3.out.keep hb4); clear hb4)
          go_wp2_with fail
          refine hK.out _ _ ?_ (fun hHeld => ?_)
          · exact TrC.of HG4.out.tb
          clear hK K
          try simp only [List.getElem_toArray, List.getElem_cons_succ, List.getElem_cons_zero, Act.put, List.setIfInBounds_toArray, List.set_cons_zero, List.set_cons_succ]
          refine wpAnyH_ready (rs := [7]) (by kernel_rfl) (by simp) ?_
          refine AllReadyH.cons rfl (fun K hK => ?_) AllReadyH.nil
          go_simp
          (refine (HO2.out _ HG4.out.bel).mono ?_; rintro e w5 ⟨rfl, hb5⟩; have HG5 := Lib.hid (HG4.out.keep hb5); clear hb5)
          go_wp2_with fail
          refine hK.out _ _ ?_ (fun hHeld => ?_)
          · exact TrC.of HG5.out.tb
          clear hK K
          try simp only [List.getElem_toArray, List.getElem_cons_succ, List.getElem_cons_zero, Act.put, List.setIfInBounds_toArray, List.set_cons_zero, List.set_cons_succ]
          have hne : Wd.heap.size ≠ w2.heap.size := by omega
          have hne2 : w2.heap.size ≠ Wd.heap.size := by omega
          have hA := HG5.out.z (w2.heap.size) (by simp [])
          have hB := HG5.out.z (Wd.heap.size) (by simp [])
          obtain ⟨x0, x1, x2, x3⟩ := box2r hA.2
          obtain ⟨y0, y1, y2, y3⟩ := box2r hB.2
          have lx := lt_of_heap hA.2
          have ly := lt_of_heap hB.2
          have HO1 := Lib.hid (HG5.out.one (A := w2.heap.size) (B := Wd.heap.size) (by simp []) (by simp []) hne (.int .i64 va) (.int .i64 ca))
          have HO2 := Lib.hid (HG5.out.two (A := w2.heap.size) (B := Wd.heap.size) (by simp []) (by simp []) hne va ca vb cb)
          refine wpAnyH_ready (rs := [10]) (by kernel_rfl) (by simp) ?_
          refine AllReadyH.cons rfl (fun K hK => ?_) AllReadyH.nil
          go_simp
          refine hK.out _ _ ?_ (fun hHeld => ?_)
          · exact TrC.of HO1.out.1
          clear hK K
          try simp only [List.getElem_toArray, List.getElem_cons_succ, List.getElem_cons_zero, Act.put, List.setIfInBounds_toArray, List.set_cons_zero, List.set_cons_succ]
          refine wpAnyH_ready (rs := [11]) (by kernel_rfl) (by simp) ?_
          refine AllReadyH.cons rfl (fun K hK => ?_) AllReadyH.nil
          go_simp
          refine hK.out _ _ ?_ (fun hHeld => ?_)
          · exact TrC.of HO2.out.tb
          clear hK K
          try simp only [List.getElem_toArray, List.getElem_cons_succ, List.getElem_cons_zero, Act.put, List.setIfInBounds_toArray, List.set_cons_zero, List.set_cons_succ]
          refine wpAnyH_done (by kernel_rfl) ?_ _
          refine NoPanic.normal ?_
          go_wp2_with fail
          go_meet
          exact ⟨_, _, rfl, rfl, HO2.out⟩
      · have hl : Wd.heap.size < W1.heap.size := lt_of_heap (HG1.out.z (Wd.heap.size) (by simp [])).2
        go_simp
        have HG2 := Lib.hid HG1.out.alloc
        refine hK.out _ _ ?_ (fun hHeld => ?_)
        · exact TrC.of HG2.out.tb
        clear hK K hHeld
        obtain ⟨W2, hW⟩ : ∃ W, W = (W1).alloc (.cells #[.int .i64 0, .int .i64 0] 37) := ⟨_, rfl⟩
        rw [← hW] at HG2 ⊢
        clear hW
        try simp only [List.getElem_toArray, List.getElem_cons_succ, List.getElem_cons_zero, Act.put, List.setIfInBounds_toArray, List.set_cons_zero, List.set_cons_succ]
        refine wpAnyH_ready (rs := [2]) (by kernel_rfl) (by simp) ?_
        refine AllReadyH.cons rfl (fun K hK => ?_) AllReadyH.nil
        go_simp
        (refine (HO.out _ HG2.out.bel).mono ?_; rintro e w3 ⟨rfl, hb3⟩; have HG3 := Lib.hid (HG2.out.keep hb3); clear hb3)
        go_wp2_with fail
        refine hK.out _ _ ?_ (fun hHeld => ?_)
        · exact TrC.of HG3.out.tb
        clear hK K
        try simp only [List.getElem_toArray, List.getElem_cons_succ, List.getElem_cons_zero, Act.put, List.setIfInBounds_toArray, List.set_cons_zero, List.set_cons_succ]
        refine wpAnyH_ready (rs := [5]) (by kernel_rfl) (by simp) ?_
        refine AllReadyH.cons rfl (fun K hK => ?_) AllReadyH.nil
        go_simp
        (refine (HM.out _ HG3.out.bel).mono ?_; rintro e w4 ⟨rfl, hb4⟩; have HG4 := Lib.hid (HG3.out.keep hb4); clear hb4)
        go_wp2_with fail
        refine hK.out _ _ ?_ (fun hHeld => ?_)
        · exact TrC.of HG4.out.tb
        clear hK K
        try simp only [List.getElem_toArray, List.getElem_cons_succ, List.getElem_cons_zero, Act.put, List.setIfInBounds_toArray, List.set_cons_zero, List.set_cons_succ]
        refine wpAnyH_ready (rs := [7]) (by kernel_rfl) (by simp) ?_
        refine AllReadyH.cons rfl (fun K hK => ?_) AllReadyH.nil
        go_simp
        (refine (HO2.out _ HG4.out.bel).mono ?_; rintro e w5 ⟨rfl, hb5⟩; have HG5 := Lib.hid (HG4.out.keep hb5); clear hb5)
        go_wp2_with fail
        refine hK.out _ _ ?_ (fun hHeld => ?_)
        · exact TrC.of HG5.out.tb
        clear hK K
        try simp only [List.getElem_toArray, List.getElem_cons_succ, List.getElem_cons_zero, Act.put, List.setIfInBounds_toArray, List.set_cons_zero, List.set_cons_succ]
        have hne : Wd.heap.size ≠ W1.heap.size := by omega
        have hne2 : W1.heap.size ≠ Wd.heap.size := by omega
        have hA := HG5.out.z (W1.heap.size) (by simp [])
        have hB := HG5.out.z (Wd.heap.size) (by simp [])
        obtain ⟨x0, x1, x2, x3⟩ := box2r hA.2
        obtain ⟨y0, y1, y2, y3⟩ := box2r hB.2
        have lx := lt_of_heap hA.2
        have ly := lt_of_heap hB.2
        have HO1 := Lib.hid (HG5.out.one (A := W1.heap.size) (B := Wd.heap.size) (by simp []) (by simp []) hne (.int .i64 va) (.int .i64 ca))
        have HO2 := Lib.hid (HG5.out.two (A := W1.heap.size) (B := Wd.heap.size) (by simp []) (by simp []) hne va ca vb cb)
        refine wpAnyH_ready (rs := [10]) (by kernel_rfl) (by simp) ?_
        refine AllReadyH.cons rfl (fun K hK => ?_) AllReadyH.nil
        go_simp
        refine hK.out _ _ ?_ (fun hHeld => ?_)
        · exact TrC.of HO1.out.1
        clear hK K
        try simp only [List.getElem_toArray, List.getElem_cons_succ, List.getElem_cons_zero, Act.put, List.setIfInBounds_toArray, List.set_cons_zero, List.set_cons_succ]
        refine wpAnyH_ready (rs := [11]) (by kernel_rfl) (by simp) ?_
        refine AllReadyH.cons rfl (fun K hK => ?_) AllReadyH.nil
        go_simp
        refine hK.out _ _ ?_ (fun hHeld => ?_)
        · exact TrC.of HO2.out.tb
        clear hK K
        try simp only [List.getElem_toArray, List.getElem_cons_succ, List.getElem_cons_zero, Act.put, List.setIfInBounds_toArray, List.set_cons_zero, List.set_cons_succ]
        refine wpAnyH_done (by kernel_rfl) ?_ _
        refine NoPanic.normal ?_
        go_wp2_with fail
        go_meet
        exact ⟨_, _, rfl, rfl, HO2.out⟩
  case rest =>
    obtain ⟨A, B, rfl, rfl, hg⟩ := hcut
    have HG := Lib.hid hg.out
    clear hg HG0 HO HO2 HM c0 c1 c2 c3 c4 c5 c6 c7 c8 c9 hlt
    obtain ⟨d0, d1, d2, d3, d4, d5, d6, d7, d8, d9⟩ := TrC.of HG.out.tb
    obtain ⟨a0, a1, -, -⟩ := box2r HG.out.a
    obtain ⟨e0, e1, -, -⟩ := box2r HG.out.b
    have lt := lt_of_heap HG.out.tb
    have la := lt_of_heap HG.out.a
    have lb := lt_of_heap HG.out.b
    have heq := fun w => trEq t w
    unfold trV trA at heq
    by_cases hr : r = 0 ∨ r = 1
    · have hge := HGE.out hr
      have hva := HVA.out hr
      clear HGE HVA HNO
      have HRE := Lib.hid (fun wx => reach_any va ca va ca wx)
      rw [show (decide (va ≤ va) && decide (ca ≤ ca)) = true by simp] at HRE
      unfold lvV at HRE
      rcases hr with rfl | rfl
      · have hs : t.sent 0 = ⟨t.f, va, t.b⟩ := by rw [hva]; rfl
        rw [hs] at HS
        simp only at HS
        clear hs hva
        go_wp2_with fail
        go_at_call 22
        refine (HS.out _ HG.out.bel).mono ?_
        rintro e w5 ⟨rfl, hb5⟩
        have hba := hb5.alloc hb5.size (.cells (trA ⟨t.f, va, t.b⟩) 54)
        have HGa : Hid (Gv w t A B va ca vb cb (w5.alloc (.cells #[.bool (t.f 0), .bool (t.f 1), .bool (t.f 2), .bool (t.f 3), .bool (t.f 4), .bool (t.f 5), .bool (t.f 6), .bool (t.f 7), .int .i64 va, .int .i64 t.b] 54)) ∧ (w5.alloc (.cells #[.bool (t.f 0), .bool (t.f 1), .bool (t.f 2), .bool (t.f 3), .bool (t.f 4), .bool (t.f 5), .bool (t.f 6), .bool (t.f 7), .int .i64 va, .int .i64 t.b] 54)).heap[w5.heap.size]? = some (TrO ⟨t.f, va, t.b⟩)) := Lib.hid ⟨HG.out.keep hba, heap_alloc_new w5 _⟩
        clear hb5 hba d0 d1 d2 d3 d4 d5 d6 d7 d8 d9 a0 a1 e0 e1 lt la lb
        go_wp2_with fail
        generalize hW5 : w5.alloc (.cells #[.bool (t.f 0), .bool (t.f 1), .bool (t.f 2), .bool (t.f 3), .bool (t.f 4), .bool (t.f 5), .bool (t.f 6), .bool (t.f 7), .int .i64 va, .int .i64 t.b] 54) = W5 at *
        clear hW5
        generalize w5.heap.size = M at *
        obtain ⟨d0, d1, d2, d3, d4, d5, d6, d7, d8, d9⟩ := TrC.of HGa.out.1.tb
        obtain ⟨s0, s1, s2, s3, s4, s5, s6, s7, s8, s9⟩ := TrC.of HGa.out.2
        simp only at s0 s1 s2 s3 s4 s5 s6 s7 s8 s9
        obtain ⟨a0, a1, -, -⟩ := box2r HGa.out.1.a
        obtain ⟨e0, e1, -, -⟩ := box2r HGa.out.1.b
        have lt := lt_of_heap HGa.out.1.tb
        have lm := lt_of_heap HGa.out.2
        have la := lt_of_heap HGa.out.1.a
        have lb := lt_of_heap HGa.out.1.b
        have he8 := fun w => ar8Eq t 9995 w
        unfold ar8V at he8
        have hvv : (va == va) = true := beq_self_eq_true va
        have HGd := Lib.hid (And.intro (HGa.out.1.keep (Below.refl _ _).drew) (show W5.drew.heap[M]? = _ from HGa.out.2))
        refine wp_region_noPanic ?_
        refine wp_region_held_drew (S := (fun w' => w'.cell? ⟨w.heap.size, 0, none⟩ = some (.bool (t.f 0)) ∧ w'.cell? ⟨w.heap.size, 1, none⟩ = some (.bool (t.f 1)) ∧ w'.cell? ⟨w.heap.size, 2, none⟩ = some (.bool (t.f 2)) ∧ w'.cell? ⟨w.heap.size, 3, none⟩ = some (.bool (t.f 3)) ∧ w'.cell? ⟨w.heap.size, 4, none⟩ = some (.bool (t.f 4)) ∧ w'.cell? ⟨w.heap.size, 5, none⟩ = some (.bool (t.f 5)) ∧ w'.cell? ⟨w.heap.size, 6, none⟩ = some (.bool (t.f 6)) ∧ w'.cell? ⟨w.heap.size, 7, none⟩ = some (.bool (t.f 7)) ∧ w'.cell? ⟨w.heap.size, 8, none⟩ = some (.int .i64 t.a) ∧ w'.cell? ⟨w.heap.size, 9, none⟩ = some (.int .i64 t.b) ∧ w'.cell? ⟨M, 0, none⟩ = some (.bool (t.f 0)) ∧ w'.cell? ⟨M, 1, none⟩ = some (.bool (t.f 1)) ∧ w'.cell? ⟨M, 2, none⟩ = some (.bool (t.f 2)) ∧ w'.cell? ⟨M, 3, none⟩ = some (.bool (t.f 3)) ∧ w'.cell? ⟨M, 4, none⟩ = some (.bool (t.f 4)) ∧ w'.cell? ⟨M, 5, none⟩ = some (.bool (t.f 5)) ∧ w'.cell? ⟨M, 6, none⟩ = some (.bool (t.f 6)) ∧ w'.cell? ⟨M, 7, none⟩ = some (.bool (t.f 7)) ∧ w'.cell? ⟨M, 8, none⟩ = some (.int .i64 va) ∧ w'.cell? ⟨M, 9, none⟩ = some (.int .i64 t.b) ∧ w'.cell? ⟨A, 0, none⟩ = some (.int .i64 va) ∧ w'.cell? ⟨A, 1, none⟩ = some (.int .i64 ca) ∧ w'.cell? ⟨B, 0, none⟩ = some (.int .i64 vb) ∧ w'.cell? ⟨B, 1, none⟩ = some (.int .i64 cb))) (by kernel_rfl) ?_ (fun hHeld => ?_)
        · ((try dsimp only); first | (go_simp; done) | (simp [*]; done))
        refine wpAnyH_take (i := 0) (v := ?_) rfl (by kernel_rfl) (by kernel_rfl) (by kernel_rfl) (fun _ _ _ h => h) (Or.inl ⟨by rfl, ?_⟩) (by assumption) ?_
        rotate_left
        · (intro w hSw; (try dsimp only at hSw); go_simp; try with_reducible rfl)
        try simp only [List.getElem_toArray, List.getElem_cons_zero, Act.put, List.setIfInBounds_toArray, List.set_cons_zero, List.set_cons_succ]
        refine wpAnyH_take (i := 1) (v := ?_) rfl (by kernel_rfl) (by kernel_rfl) (by kernel_rfl) (fun _ _ _ h => h) (Or.inl ⟨by rfl, ?_⟩) (by assumption) ?_
        rotate_left
        · (intro w hSw; (try dsimp only at hSw); go_simp; try with_reducible rfl)
        try simp only [List.getElem_toArray, List.getElem_cons_succ, List.getElem_cons_zero, Act.put, List.setIfInBounds_toArray, List.set_cons_zero, List.set_cons_succ]
        refine wpAnyH_take (i := 2) (v := ?_) rfl (by kernel_rfl) (by kernel_rfl) (by kernel_rfl) (fun _ _ _ h => h) (Or.inl ⟨by rfl, ?_⟩) (by assumption) ?_
        rotate_left
        · (intro w hSw; (try dsimp only at hSw); go_simp; try with_reducible rfl)
        try simp only [List.getElem_toArray, List.getElem_cons_succ, List.getElem_cons_zero, Act.put, List.setIfInBounds_toArray, List.set_cons_zero, List.set_cons_succ]
        refine wpAnyH_take (i := 3) (v := ?_) rfl (by kernel_rfl) (by kernel_rfl) (by kernel_rfl) (fun _ _ _ h => h) (Or.inl ⟨by rfl, ?_⟩) (by assumption) ?_
        rotate_left
        · (intro w hSw; (try dsimp only at hSw); go_simp; try with_reducible rfl)
        try simp only [List.getElem_toArray, List.getElem_cons_succ, List.getElem_cons_zero, Act.put, List.setIfInBounds_toArray, List.set_cons_zero, List.set_cons_succ]
        refine wpAnyH_take (i := 4) (v := ?_) rfl (by kernel_rfl) (by kernel_rfl) (by kernel_rfl) (fun _ _ _ h => h) (Or.inl ⟨by rfl, ?_⟩) (by assumption) ?_
        rotate_left
        · (intro w hSw; (try dsimp only at hSw); go_simp; try with_reducible rfl)
        try simp only [List.getElem_toArray, List.getElem_cons_succ, List.getElem_cons_zero, Act.put, List.setIfInBounds_toArray, List.set_cons_zero, List.set_cons_succ]
        refine wpAnyH_take (i := 5) (v := ?_) rfl (by kernel_rfl) (by kernel_rfl) (by kernel_rfl) (fun _ _ _ h => h) (Or.inl ⟨by rfl, ?_⟩) (by assumption) ?_
        rotate_left
        · (intro w hSw; (try dsimp only at hSw); go_simp; try with_reducible rfl)
        try simp only [List.getElem_toArray, List.getElem_cons_succ, List.getElem_cons_zero, Act.put, List.setIfInBounds_toArray, List.set_cons_zero, List.set_cons_succ]
        refine wpAnyH_take (i := 6) (v := ?_) rfl (by kernel_rfl) (by kernel_rfl) (by kernel_rfl) (fun _ _ _ h => h) (Or.inl ⟨by rfl, ?_⟩) (by assumption) ?_
        rotate_left
        · (intro w hSw; (try dsimp only at hSw); go_simp; try with_reducible rfl)
        try simp only [List.getElem_toArray, List.getElem_cons_succ, List.getElem_cons_zero, Act.put, List.setIfInBounds_toArray, List.set_cons_zero, List.set_cons_succ]
        refine wpAnyH_take (i := 7) (v := ?_) rfl (by kernel_rfl) (by kernel_rfl) (by kernel_rfl) (fun _ _ _ h => h) (Or.inl ⟨by rfl, ?_⟩) (by assumption) ?_
        rotate_left
        · (intro w hSw; (try dsimp only at hSw); go_simp; try with_reducible rfl)
        try simp only [List.getElem_toArray, List.getElem_cons_succ, List.getElem_cons_zero, Act.put, List.setIfInBounds_toArray, List.set_cons_zero, List.set_cons_succ]
        refine wpAnyH_take (i := 8) (v := ?_) rfl (by kernel_rfl) (by kernel_rfl) (by kernel_rfl) (fun _ _ _ h => h) (Or.inl ⟨by rfl, ?_⟩) (by assumption) ?_
        rotate_left
        · (intro w hSw; (try dsimp only at hSw); go_simp; try with_reducible rfl)
        try simp only [List.getElem_toArray, List.getElem_cons_succ, List.getElem_cons_zero, Act.put, List.setIfInBounds_toArray, List.set_cons_zero, List.set_cons_succ]
        refine wpAnyH_take (i := 9) (v := ?_) rfl (by kernel_rfl) (by kernel_rfl) (by kernel_rfl) (fun _ _ _ h => h) (Or.inl ⟨by rfl, ?_⟩) (by assumption) ?_
        rotate_left
        · (intro w hSw; (try dsimp only at hSw); go_simp; try with_reducible rfl)
        try simp only [List.getElem_toArray, List.getElem_cons_succ, List.getElem_cons_zero, Act.put, List.setIfInBounds_toArray, List.set_cons_zero, List.set_cons_succ]
        refine wpAnyH_take (i := 10) (v := ?_) rfl (by kernel_rfl) (by kernel_rfl) (by kernel_rfl) (fun _ _ _ h => h) (Or.inl ⟨by rfl, ?_⟩) (by assumption) ?_
        rotate_left
        · (intro w hSw; (try dsimp only at hSw); go_simp; try with_reducible rfl)
        try simp only [List.getElem_toArray, List.getElem_cons_succ, List.getElem_cons_zero, Act.put, List.setIfInBounds_toArray, List.set_cons_zero, List.set_cons_succ]
        refine wpAnyH_take (i := 11) (v := ?_) rfl (by kernel_rfl) (by kernel_rfl) (by kernel_rfl) (fun _ _ _ h => h) (Or.inl ⟨by rfl, ?_⟩) (by assumption) ?_
        rotate_left
        · (intro w hSw; (try dsimp only at hSw); go_simp; try with_reducible rfl)
        try simp only [List.getElem_toArray, List.getElem_cons_succ, List.getElem_cons_zero, Act.put, List.setIfInBounds_toArray, List.set_cons_zero, List.set_cons_succ]
        refine wpAnyH_take (i := 12) (v := ?_) rfl (by kernel_rfl) (by kernel_rfl) (by kernel_rfl) (fun _ _ _ h => h) (Or.inl ⟨by rfl, ?_⟩) (by assumption) ?_
        rotate_left
        · (intro w hSw; (try dsimp only at hSw); go_simp; try with_reducible rfl)
        try simp only [List.getElem_toArray, List.getElem_cons_succ, List.getElem_cons_zero, Act.put, List.setIfInBounds_toArray, List.set_cons_zero, List.set_cons_succ]
        refine wpAnyH_take (i := 13) (v := ?_) rfl (by kernel_rfl) (by kernel_rfl) (by kernel_rfl) (fun _ _ _ h => h) (Or.inl ⟨by rfl, ?_⟩) (by assumption) ?_
        rotate_left
        · (intro w hSw; (try dsimp only at hSw); go_simp; try with_reducible rfl)
        try simp only [List.getElem_toArray, List.getElem_cons_succ, List.getElem_cons_zero, Act.put, List.setIfInBounds_toArray, List.set_cons_zero, List.set_cons_succ]
        refine wpAnyH_take (i := 14) (v := ?_) rfl (by kernel_rfl) (by kernel_rfl) (by kernel_rfl) (fun _ _ _ h => h) (Or.inl ⟨by rfl, ?_⟩) (by assumption) ?_
        rotate_left
        · (intro w hSw; (try dsimp only at hSw); go_simp; try with_reducible rfl)
        try simp only [List.getElem_toArray, List.getElem_cons_succ, List.getElem_cons_zero, Act.put, List.setIfInBounds_toArray, List.set_cons_zero, List.set_cons_succ]
        refine wpAnyH_take (i := 15) (v := ?_) rfl (by kernel_rfl) (by kernel_rfl) (by kernel_rfl) (fun _ _ _ h => h) (Or.inl ⟨by rfl, ?_⟩) (by assumption) ?_
        rotate_left
        · (intro w hSw; (try dsimp only at hSw); go_simp; try with_reducible rfl)
        try simp only [List.getElem_toArray, List.getElem_cons_succ, List.getElem_cons_zero, Act.put, List.setIfInBounds_toArray, List.set_cons_zero, List.set_cons_succ]
        refine wpAnyH_take (i := 16) (v := .int .i64 1) rfl (by kernel_rfl) (by kernel_rfl) (by kernel_rfl) (fun _ _ _ h => h) (Or.inl ⟨by rfl, ?_⟩) (by assumption) ?_
        · (intro w hSw; (try dsimp only at hSw); go_simp; first | done | rfl)
        try simp only [List.getElem_toArray, List.getElem_cons_succ, List.getElem_cons_zero, Act.put, List.setIfInBounds_toArray, List.set_cons_zero, List.set_cons_succ]
        refine wpAnyH_take (i := 17) (v := ?_) rfl (by kernel_rfl) (by kernel_rfl) (by kernel_rfl) (fun _ _ _ h => h) (Or.inl ⟨by rfl, ?_⟩) (by assumption) ?_
        rotate_left
        · (intro w hSw; (try dsimp only at hSw); go_simp; try with_reducible rfl)
        try simp only [List.getElem_toArray, List.getElem_cons_succ, List.getElem_cons_zero, Act.put, List.setIfInBounds_toArray, List.set_cons_zero, List.set_cons_succ]
        refine wpAnyH_take (i := 18) (v := ?_) rfl (by kernel_rfl) (by kernel_rfl) (by kernel_rfl) (fun _ _ _ h => h) (Or.inl ⟨by rfl, ?_⟩) (by assumption) ?_
        rotate_left
        · (intro w hSw; (try dsimp only at hSw); go_simp; try with_reducible rfl)
        try simp only [List.getElem_toArray, List.getElem_cons_succ, List.getElem_cons_zero, Act.put, List.setIfInBounds_toArray, List.set_cons_zero, List.set_cons_succ]
        refine wpAnyH_take (i := 19) (v := ?_) rfl (by kernel_rfl) (by kernel_rfl) (by kernel_rfl) (fun _ _ _ h => h) (Or.inl ⟨by rfl, ?_⟩) (by assumption) ?_
        rotate_left
        · (intro w hSw; (try dsimp only at hSw); go_simp; try with_reducible rfl)
        try simp only [List.getElem_toArray, List.getElem_cons_succ, List.getElem_cons_zero, Act.put, List.setIfInBounds_toArray, List.set_cons_zero, List.set_cons_succ]
        refine wpAnyH_take (i := 20) (v := ?_) rfl (by kernel_rfl) (by kernel_rfl) (by kernel_rfl) (fun _ _ _ h => h) (Or.inl ⟨by rfl, ?_⟩) (by assumption) ?_
        rotate_left
        · (intro w hSw; (try dsimp only at hSw); go_simp; try with_reducible rfl)
        try simp only [List.getElem_toArray, List.getElem_cons_succ, List.getElem_cons_zero, Act.put, List.setIfInBounds_toArray, List.set_cons_zero, List.set_cons_succ]
        refine wpAnyH_take (i := 21) (v := .int .i64 1) rfl (by kernel_rfl) (by kernel_rfl) (by kernel_rfl) (fun _ _ _ h => h) (Or.inl ⟨by rfl, ?_⟩) (by assumption) ?_
        · (intro w hSw; (try dsimp only at hSw); go_simp; first | done | rfl)
        try simp only [List.getElem_toArray, List.getElem_cons_succ, List.getElem_cons_zero, Act.put, List.setIfInBounds_toArray, List.set_cons_zero, List.set_cons_succ]
        refine wpAnyH_take (i := 22) (v := ?_) rfl (by kernel_rfl) (by kernel_rfl) (by kernel_rfl) (fun _ _ _ h => h) (Or.inl ⟨by rfl, ?_⟩) (by assumption) ?_
        rotate_left
        · (intro w hSw; (try dsimp only at hSw); go_simp; try with_reducible rfl)
        try simp only [List.getElem_toArray, List.getElem_cons_succ, List.getElem_cons_zero, Act.put, List.setIfInBounds_toArray, List.set_cons_zero, List.set_cons_succ]
        refine wpAnyH_take (i := 23) (v := ?_) rfl (by kernel_rfl) (by kernel_rfl) (by kernel_rfl) (fun _ _ _ h => h) (Or.inl ⟨by rfl, ?_⟩) (by assumption) ?_
        rotate_left
        · (intro w hSw; (try dsimp only at hSw); go_simp; try with_reducible rfl)
        try simp only [List.getElem_toArray, List.getElem_cons_succ, List.getElem_cons_zero, Act.put, List.setIfInBounds_toArray, List.set_cons_zero, List.set_cons_succ]
        refine wpAnyH_take (i := 24) (v := ?_) rfl (by kernel_rfl) (by kernel_rfl) (by kernel_rfl) (fun _ _ _ h => h) (Or.inl ⟨by rfl, ?_⟩) (by assumption) ?_
        rotate_left
        · (intro w hSw; (try dsimp only at hSw); go_simp; try with_reducible rfl)
        try simp only [List.getElem_toArray, List.getElem_cons_succ, List.getElem_cons_zero, Act.put, List.setIfInBounds_toArray, List.set_cons_zero, List.set_cons_succ]
        refine wpAnyH_take (i := 25) (v := ?_) rfl (by kernel_rfl) (by kernel_rfl) (by kernel_rfl) (fun _ _ _ h => h) (Or.inl ⟨by rfl, ?_⟩) (by assumption) ?_
        rotate_left
        · (intro w hSw; (try dsimp only at hSw); go_simp; try with_reducible rfl)
        try simp only [List.getElem_toArray, List.getElem_cons_succ, List.getElem_cons_zero, Act.put, List.setIfInBounds_toArray, List.set_cons_zero, List.set_cons_succ]
        refine wpAnyH_take (i := 26) (v := ?_) rfl (by kernel_rfl) (by kernel_rfl) (by kernel_rfl) (fun _ _ _ h => h) (Or.inl ⟨by rfl, ?_⟩) (by assumption) ?_
        rotate_left
        · (intro w hSw; (try dsimp only at hSw); go_simp; try with_reducible rfl)
        try simp only [List.getElem_toArray, List.getElem_cons_succ, List.getElem_cons_zero, Act.put, List.setIfInBounds_toArray, List.set_cons_zero, List.set_cons_succ]
        refine wpAnyH_take (i := 27) (v := ?_) rfl (by kernel_rfl) (by kernel_rfl) (by kernel_rfl) (fun _ _ _ h => h) (Or.inl ⟨by rfl, ?_⟩) (by assumption) ?_
        rotate_left
        · (intro w hSw; (try dsimp only at hSw); go_simp; try with_reducible rfl)
        try simp only [List.getElem_toArray, List.getElem_cons_succ, List.getElem_cons_zero, Act.put, List.setIfInBounds_toArray, List.set_cons_zero, List.set_cons_succ]
        refine wpAnyH_take (i := 28) (v := ?_) rfl (by kernel_rfl) (by kernel_rfl) (by kernel_rfl) (fun _ _ _ h => h) (Or.inl ⟨by rfl, ?_⟩) (by assumption) ?_
        rotate_left
        · (intro w hSw; (try dsimp only at hSw); go_simp; try with_reducible rfl)
        try simp only [List.getElem_toArray, List.getElem_cons_succ, List.getElem_cons_zero, Act.put, List.setIfInBounds_toArray, List.set_cons_zero, List.set_cons_succ]
        refine wpAnyH_take (i := 29) (v := ?_) rfl (by kernel_rfl) (by kernel_rfl) (by kernel_rfl) (fun _ _ _ h => h) (Or.inl ⟨by rfl, ?_⟩) (by assumption) ?_
        rotate_left
        · (intro w hSw; (try dsimp only at hSw); go_simp; try with_reducible rfl)
        try simp only [List.getElem_toArray, List.getElem_cons_succ, List.getElem_cons_zero, Act.put, List.setIfInBounds_toArray, List.set_cons_zero, List.set_cons_succ]
        refine wpAnyH_take (i := 30) (v := ?_) rfl (by kernel_rfl) (by kernel_rfl) (by kernel_rfl) (fun _ _ _ h => h) (Or.inl ⟨by rfl, ?_⟩) (by assumption) ?_
        rotate_left
        · (intro w hSw; (try dsimp only at hSw); go_simp; try with_reducible rfl)
        try simp only [List.getElem_toArray, List.getElem_cons_succ, List.getElem_cons_zero, Act.put, List.setIfInBounds_toArray, List.set_cons_zero, List.set_cons_succ]
        refine wpAnyH_take (i := 31) (v := ?_) rfl (by kernel_rfl) (by kernel_rfl) (by kernel_rfl) (fun _ _ _ h => h) (Or.inl ⟨by rfl, ?_⟩) (by assumption) ?_
        rotate_left
        · (intro w hSw; (try dsimp only at hSw); go_simp; try with_reducible rfl)
        try simp only [List.getElem_toArray, List.getElem_cons_succ, List.getElem_cons_zero, Act.put, List.setIfInBounds_toArray, List.set_cons_zero, List.set_cons_succ]
        refine wpAnyH_take (i := 32) (v := ?_) rfl (by kernel_rfl) (by kernel_rfl) (by kernel_rfl) (fun _ _ _ h => h) (Or.inl ⟨by rfl, ?_⟩) (by assumption) ?_
        rotate_left
        · (intro w hSw; (try dsimp only at hSw); go_simp; try with_reducible rfl)
        try simp only [List.getElem_toArray, List.getElem_cons_succ, List.getElem_cons_zero, Act.put, List.setIfInBounds_toArray, List.set_cons_zero, List.set_cons_succ]
        refine wpAnyH_take (i := 33) (v := ?_) rfl (by kernel_rfl) (by kernel_rfl) (by kernel_rfl) (fun _ _ _ h => h) (Or.inl ⟨by rfl, ?_⟩) (by assumption) ?_
        rotate_left
        · (intro w hSw; (try dsimp only at hSw); go_simp; try with_reducible rfl)
        try simp only [List.getElem_toArray, List.getElem_cons_succ, List.getElem_cons_zero, Act.put, List.setIfInBounds_toArray, List.set_cons_zero, List.set_cons_succ]
        refine wpAnyH_take (i := 34) (v := ?_) rfl (by kernel_rfl) (by kernel_rfl) (by kernel_rfl) (fun _ _ _ h => h) (Or.inl ⟨by rfl, ?_⟩) (by assumption) ?_
        rotate_left
        · (intro w hSw; (try dsimp only at hSw); go_simp; try with_reducible rfl)
        try simp only [List.getElem_toArray, List.getElem_cons_succ, List.getElem_cons_zero, Act.put, List.setIfInBounds_toArray, List.set_cons_zero, List.set_cons_succ]
        refine wpAnyH_take (i := 35) (v := ?_) rfl (by kernel_rfl) (by kernel_rfl) (by kernel_rfl) (fun _ _ _ h => h) (Or.inl ⟨by rfl, ?_⟩) (by assumption) ?_
        rotate_left
        · (intro w hSw; (try dsimp only at hSw); go_simp; try with_reducible rfl)
        try simp only [List.getElem_toArray, List.getElem_cons_succ, List.getElem_cons_zero, Act.put, List.setIfInBounds_toArray, List.set_cons_zero, List.set_cons_succ]
        refine wpAnyH_take (i := 36) (v := ?_) rfl (by kernel_rfl) (by kernel_rfl) (by kernel_rfl) (fun _ _ _ h => h) (Or.inl ⟨by rfl, ?_⟩) (by assumption) ?_
        rotate_left
        · (intro w hSw; (try dsimp only at hSw); go_simp; try with_reducible rfl)
        try simp only [List.getElem_toArray, List.getElem_cons_succ, List.getElem_cons_zero, Act.put, List.setIfInBounds_toArray, List.set_cons_zero, List.set_cons_succ]
        refine wpAnyH_ready (rs := [37]) (by kernel_rfl) (by simp) ?_
        refine AllReadyH.cons rfl (fun K hK => ?_) AllReadyH.nil
        go_simp
        (refine (HRE.out _).mono ?_; rintro e wa ⟨rfl, hba⟩; have HGb := Lib.hid (And.intro (HGd.out.1.keep hba) ((hba.block _ lm).trans HGd.out.2)); clear hba; obtain ⟨f0, f1, f2, f3, f4, f5, f6, f7, f8, f9⟩ := TrC.of HGb.out.1.tb; obtain ⟨g0, g1, g2, g3, g4, g5, g6, g7, g8, g9⟩ := TrC.of HGb.out.2; simp only at g0 g1 g2 g3 g4 g5 g6 g7 g8 g9; obtain ⟨h0, h1, -, -⟩ := box2r HGb.out.1.a; obtain ⟨i0, i1, -, -⟩ := box2r HGb.out.1.b; have fl := lt_of_heap HGb.out.1.tb; have gl := lt_of_heap HGb.out.2; have hl := lt_of_heap HGb.out.1.a; have il := lt_of_heap HGb.out.1.b)
        go_wp2_with fail
        refine hK.out _ _ ?_ (fun hHeld => ?_)
        · ((try dsimp only); first | (go_simp; done) | (simp [*]; done))
        clear hK K
        try simp only [List.getElem_toArray, List.getElem_cons_succ, List.getElem_cons_zero, Act.put, List.setIfInBounds_toArray, List.set_cons_zero, List.set_cons_succ]
        refine wpAnyH_take (i := 38) (v := ?_) rfl (by kernel_rfl) (by kernel_rfl) (by kernel_rfl) (fun _ _ _ h => h) (Or.inl ⟨by rfl, ?_⟩) (by assumption) ?_
        rotate_left
        · (intro w hSw; (try dsimp only at hSw); go_simp; try with_reducible rfl)
        try simp only [List.getElem_toArray, List.getElem_cons_succ, List.getElem_cons_zero, Act.put, List.setIfInBounds_toArray, List.set_cons_zero, List.set_cons_succ]
        refine wpAnyH_take (i := 39) (v := ?_) rfl (by kernel_rfl) (by kernel_rfl) (by kernel_rfl) (fun _ _ _ h => h) (Or.inl ⟨by rfl, ?_⟩) (by assumption) ?_
        rotate_left
        · (intro w hSw; (try dsimp only at hSw); go_simp; try with_reducible rfl)
        try simp only [List.getElem_toArray, List.getElem_cons_succ, List.getElem_cons_zero, Act.put, List.setIfInBounds_toArray, List.set_cons_zero, List.set_cons_succ]
        refine wpAnyH_ready (rs := [40]) (by kernel_rfl) (by simp) ?_
        refine AllReadyH.cons rfl (fun K hK => ?_) AllReadyH.nil
        go_simp
        (refine (HA.out _ HGb.out.1.bel).mono ?_; rintro e wb ⟨rfl, hbb⟩; have HGc := Lib.hid (And.intro (HGb.out.1.keep hbb) ((hbb.block _ gl).trans HGb.out.2)); clear hbb; obtain ⟨p0, p1, p2, p3, p4, p5, p6, p7, p8, p9⟩ := TrC.of HGc.out.1.tb; obtain ⟨q0, q1, q2, q3, q4, q5, q6, q7, q8, q9⟩ := TrC.of HGc.out.2; simp only at q0 q1 q2 q3 q4 q5 q6 q7 q8 q9; obtain ⟨u0, u1, -, -⟩ := box2r HGc.out.1.a; obtain ⟨v0, v1, -, -⟩ := box2r HGc.out.1.b; have pl := lt_of_heap HGc.out.1.tb; have ql := lt_of_heap HGc.out.2; have ul := lt_of_heap HGc.out.1.a; have vl := lt_of_heap HGc.out.1.b)
        go_wp2_with fail
        refine hK.out _ _ ?_ (fun hHeld => ?_)
        · ((try dsimp only); first | (go_simp; done) | (simp [*]; done))
        clear hK K
        try simp only [List.getElem_toArray, List.getElem_cons_succ, List.getElem_cons_zero, Act.put, List.setIfInBounds_toArray, List.set_cons_zero, List.set_cons_succ]
        refine wpAnyH_take (i := 41) (v := ?_) rfl (by kernel_rfl) (by kernel_rfl) (by kernel_rfl) (fun _ _ _ h => h) (Or.inl ⟨by rfl, ?_⟩) (by assumption) ?_
        rotate_left
        · (intro w hSw; (try dsimp only at hSw); go_simp; try with_reducible rfl)
        try simp only [List.getElem_toArray, List.getElem_cons_succ, List.getElem_cons_zero, Act.put, List.setIfInBounds_toArray, List.set_cons_zero, List.set_cons_succ]
        refine wpAnyH_take (i := 42) (v := ?_) rfl (by kernel_rfl) (by kernel_rfl) (by kernel_rfl) (fun _ _ _ h => h) (Or.inl ⟨by rfl, ?_⟩) (by assumption) ?_
        rotate_left
        · (intro w hSw; (try dsimp only at hSw); go_simp; try with_reducible rfl)
        try simp only [List.getElem_toArray, List.getElem_cons_succ, List.getElem_cons_zero, Act.put, List.setIfInBounds_toArray, List.set_cons_zero, List.set_cons_succ]
        refine wpAnyH_done (by kernel_rfl) ?_ _
        refine NoPanic.normal ?_
        go_wp2_with fail
        go_ret
        exact ⟨rfl, HGc.out.1.bel⟩
      · have hs : t.sent 1 = ⟨t.f, t.a, va⟩ := by rw [hva]; rfl
        rw [hs] at HS
        simp only at HS
        clear hs hva
        go_wp2_with fail
        go_at_call 22
        refine (HS.out _ HG.out.bel).mono ?_
        rintro e w5 ⟨rfl, hb5⟩
        have hba := hb5.alloc hb5.size (.cells (trA ⟨t.f, t.a, va⟩) 54)
        have HGa : Hid (Gv w t A B va ca vb cb (w5.alloc (.cells #[.bool (t.f 0), .bool (t.f 1), .bool (t.f 2), .bool (t.f 3), .bool (t.f 4), .bool (t.f 5), .bool (t.f 6), .bool (t.f 7), .int .i64 t.a, .int .i64 va] 54)) ∧ (w5.alloc (.cells #[.bool (t.f 0), .bool (t.f 1), .bool (t.f 2), .bool (t.f 3), .bool (t.f 4), .bool (t.f 5), .bool (t.f 6), .bool (t.f 7), .int .i64 t.a, .int .i64 va] 54)).heap[w5.heap.size]? = some (TrO ⟨t.f, t.a, va⟩)) := Lib.hid ⟨HG.out.keep hba, heap_alloc_new w5 _⟩
        clear hb5 hba d0 d1 d2 d3 d4 d5 d6 d7 d8 d9 a0 a1 e0 e1 lt la lb
        go_wp2_with fail
        generalize hW5 : w5.alloc (.cells #[.bool (t.f 0), .bool (t.f 1), .bool (t.f 2), .bool (t.f 3), .bool (t.f 4), .bool (t.f 5), .bool (t.f 6), .bool (t.f 7), .int .i64 t.a, .int .i64 va] 54) = W5 at *
        clear hW5
        generalize w5.heap.size = M at *
        obtain ⟨d0, d1, d2, d3, d4, d5, d6, d7, d8, d9⟩ := TrC.of HGa.out.1.tb
        obtain ⟨s0, s1, s2, s3, s4, s5, s6, s7, s8, s9⟩ := TrC.of HGa.out.2
        simp only at s0 s1 s2 s3 s4 s5 s6 s7 s8 s9
        obtain ⟨a0, a1, -, -⟩ := box2r HGa.out.1.a
        obtain ⟨e0, e1, -, -⟩ := box2r HGa.out.1.b
        have lt := lt_of_heap HGa.out.1.tb
        have lm := lt_of_heap HGa.out.2
        have la := lt_of_heap HGa.out.1.a
        have lb := lt_of_heap HGa.out.1.b
        have he8 := fun w => ar8Eq t 9995 w
        unfold ar8V at he8
        have hvv : (va == va) = true := beq_self_eq_true va
        have HGd := Lib.hid (And.intro (HGa.out.1.keep (Below.refl _ _).drew) (show W5.drew.heap[M]? = _ from HGa.out.2))
        refine wp_region_noPanic ?_
        refine wp_region_held_drew (S := (fun w' => w'.cell? ⟨w.heap.size, 0, none⟩ = some (.bool (t.f 0)) ∧ w'.cell? ⟨w.heap.size, 1, none⟩ = some (.bool (t.f 1)) ∧ w'.cell? ⟨w.heap.size, 2, none⟩ = some (.bool (t.f 2)) ∧ w'.cell? ⟨w.heap.size, 3, none⟩ = some (.bool (t.f 3)) ∧ w'.cell? ⟨w.heap.size, 4, none⟩ = some (.bool (t.f 4)) ∧ w'.cell? ⟨w.heap.size, 5, none⟩ = some (.bool (t.f 5)) ∧ w'.cell? ⟨w.heap.size, 6, none⟩ = some (.bool (t.f 6)) ∧ w'.cell? ⟨w.heap.size, 7, none⟩ = some (.bool (t.f 7)) ∧ w'.cell? ⟨w.heap.size, 8, none⟩ = some (.int .i64 t.a) ∧ w'.cell? ⟨w.heap.size, 9, none⟩ = some (.int .i64 t.b) ∧ w'.cell? ⟨M, 0, none⟩ = some (.bool (t.f 0)) ∧ w'.cell? ⟨M, 1, none⟩ = some (.bool (t.f 1)) ∧ w'.cell? ⟨M, 2, none⟩ = some (.bool (t.f 2)) ∧ w'.cell? ⟨M, 3, none⟩ = some (.bool (t.f 3)) ∧ w'.cell? ⟨M, 4, none⟩ = some (.bool (t.f 4)) ∧ w'.cell? ⟨M, 5, none⟩ = some (.bool (t.f 5)) ∧ w'.cell? ⟨M, 6, none⟩ = some (.bool (t.f 6)) ∧ w'.cell? ⟨M, 7, none⟩ = some (.bool (t.f 7)) ∧ w'.cell? ⟨M, 8, none⟩ = some (.int .i64 t.a) ∧ w'.cell? ⟨M, 9, none⟩ = some (.int .i64 va) ∧ w'.cell? ⟨A, 0, none⟩ = some (.int .i64 va) ∧ w'.cell? ⟨A, 1, none⟩ = some (.int .i64 ca) ∧ w'.cell? ⟨B, 0, none⟩ = some (.int .i64 vb) ∧ w'.cell? ⟨B, 1, none⟩ = some (.int .i64 cb))) (by kernel_rfl) ?_ (fun hHeld => ?_)
        · ((try dsimp only); first | (go_simp; done) | (simp [*]; done))
        refine wpAnyH_take (i := 0) (v := ?_) rfl (by kernel_rfl) (by kernel_rfl) (by kernel_rfl) (fun _ _ _ h => h) (Or.inl ⟨by rfl, ?_⟩) (by assumption) ?_
        rotate_left
        · (intro w hSw; (try dsimp only at hSw); go_simp; try with_reducible rfl)
        try simp only [List.getElem_toArray, List.getElem_cons_zero, Act.put, List.setIfInBounds_toArray, List.set_cons_zero, List.set_cons_succ]
        refine wpAnyH_take (i := 1) (v := ?_) rfl (by kernel_rfl) (by kernel_rfl) (by kernel_rfl) (fun _ _ _ h => h) (Or.inl ⟨by rfl, ?_⟩) (by assumption) ?_
        rotate_left
        · (intro w hSw; (try dsimp only at hSw); go_simp; try with_reducible rfl)
        try simp only [List.getElem_toArray, List.getElem_cons_succ, List.getElem_cons_zero, Act.put, List.setIfInBounds_toArray, List.set_cons_zero, List.set_cons_succ]
        refine wpAnyH_take (i := 2) (v := ?_) rfl (by kernel_rfl) (by kernel_rfl) (by kernel_rfl) (fun _ _ _ h => h) (Or.inl ⟨by rfl, ?_⟩) (by assumption) ?_
        rotate_left
        · (intro w hSw; (try dsimp only at hSw); go_simp; try with_reducible rfl)
        try simp only [List.getElem_toArray, List.getElem_cons_succ, List.getElem_cons_zero, Act.put, List.setIfInBounds_toArray, List.set_cons_zero, List.set_cons_succ]
        refine wpAnyH_take (i := 3) (v := ?_) rfl (by kernel_rfl) (by kernel_rfl) (by kernel_rfl) (fun _ _ _ h => h) (Or.inl ⟨by rfl, ?_⟩) (by assumption) ?_
        rotate_left
        · (intro w hSw; (try dsimp only at hSw); go_simp; try with_reducible rfl)
        try simp only [List.getElem_toArray, List.getElem_cons_succ, List.getElem_cons_zero, Act.put, List.setIfInBounds_toArray, List.set_cons_zero, List.set_cons_succ]
        refine wpAnyH_take (i := 4) (v := ?_) rfl (by kernel_rfl) (by kernel_rfl) (by kernel_rfl) (fun _ _ _ h => h) (Or.inl ⟨by rfl, ?_⟩) (by assumption) ?_
        rotate_left
        · (intro w hSw; (try dsimp only at hSw); go_simp; try with_reducible rfl)
        try simp only [List.getElem_toArray, List.getElem_cons_succ, List.getElem_cons_zero, Act.put, List.setIfInBounds_toArray, List.set_cons_zero, List.set_cons_succ]
        refine wpAnyH_take (i := 5) (v := ?_) rfl (by kernel_rfl) (by kernel_rfl) (by kernel_rfl) (fun _ _ _ h => h) (Or.inl ⟨by rfl, ?_⟩) (by assumption) ?_
        rotate_left
        · (intro w hSw; (try dsimp only at hSw); go_simp; try with_reducible rfl)
        try simp only [List.getElem_toArray, List.getElem_cons_succ, List.getElem_cons_zero, Act.put, List.setIfInBounds_toArray, List.set_cons_zero, List.set_cons_succ]
        refine wpAnyH_take (i := 6) (v := ?_) rfl (by kernel_rfl) (by kernel_rfl) (by kernel_rfl) (fun _ _ _ h => h) (Or.inl ⟨by rfl, ?_⟩) (by assumption) ?_
        rotate_left
        · (intro w hSw; (try dsimp only at hSw); go_simp; try with_reducible rfl)
        try simp only [List.getElem_toArray, List.getElem_cons_succ, List.getElem_cons_zero, Act.put, List.setIfInBounds_toArray, List.set_cons_zero, List.set_cons_succ]
        refine wpAnyH_take (i := 7) (v := ?_) rfl (by kernel_rfl) (by kernel_rfl) (by kernel_rfl) (fun _ _ _ h => h) (Or.inl ⟨by rfl, ?_⟩) (by assumption) ?_
        rotate_left
        · (intro w hSw; (try dsimp only at hSw); go_simp; try with_reducible rfl)
        try simp only [List.getElem_toArray, List.getElem_cons_succ, List.getElem_cons_zero, Act.put, List.setIfInBounds_toArray, List.set_cons_zero, List.set_cons_succ]
        refine wpAnyH_take (i := 8) (v := ?_) rfl (by kernel_rfl) (by kernel_rfl) (by kernel_rfl) (fun _ _ _ h => h) (Or.inl ⟨by rfl, ?_⟩) (by assumption) ?_
        rotate_left
        · (intro w hSw; (try dsimp only at hSw); go_simp; try with_reducible rfl)
        try simp only [List.getElem_toArray, List.getElem_cons_succ, List.getElem_cons_zero, Act.put, List.setIfInBounds_toArray, List.set_cons_zero, List.set_cons_succ]
        refine wpAnyH_take (i := 9) (v := ?_) rfl (by kernel_rfl) (by kernel_rfl) (by kernel_rfl) (fun _ _ _ h => h) (Or.inl ⟨by rfl, ?_⟩) (by assumption) ?_
        rotate_left
        · (intro w hSw; (try dsimp only at hSw); go_simp; try with_reducible rfl)
        try simp only [List.getElem_toArray, List.getElem_cons_succ, List.getElem_cons_zero, Act.put, List.setIfInBounds_toArray, List.set_cons_zero, List.set_cons_succ]
        refine wpAnyH_take (i := 10) (v := ?_) rfl (by kernel_rfl) (by kernel_rfl) (by kernel_rfl) (fun _ _ _ h => h) (Or.inl ⟨by rfl, ?_⟩) (by assumption) ?_
        rotate_left
        · (intro w hSw; (try dsimp only at hSw); go_simp; try with_reducible rfl)
        try simp only [List.getElem_toArray, List.getElem_cons_succ, List.getElem_cons_zero, Act.put, List.setIfInBounds_toArray, List.set_cons_zero, List.set_cons_succ]
        refine wpAnyH_take (i := 11) (v := ?_) rfl (by kernel_rfl) (by kernel_rfl) (by kernel_rfl) (fun _ _ _ h => h) (Or.inl ⟨by rfl, ?_⟩) (by assumption) ?_
        rotate_left
        · (intro w hSw; (try dsimp only at hSw); go_simp; try with_reducible rfl)
        try simp only [List.getElem_toArray, List.getElem_cons_succ, List.getElem_cons_zero, Act.put, List.setIfInBounds_toArray, List.set_cons_zero, List.set_cons_succ]
        refine wpAnyH_take (i := 12) (v := ?_) rfl (by kernel_rfl) (by kernel_rfl) (by kernel_rfl) (fun _ _ _ h => h) (Or.inl ⟨by rfl, ?_⟩) (by assumption) ?_
        rotate_left
        · (intro w hSw; (try dsimp only at hSw); go_simp; try with_reducible rfl)
        try simp only [List.getElem_toArray, List.getElem_cons_succ, List.getElem_cons_zero, Act.put, List.setIfInBounds_toArray, List.set_cons_zero, List.set_cons_succ]
        refine wpAnyH_take (i := 13) (v := ?_) rfl (by kernel_rfl) (by kernel_rfl) (by kernel_rfl) (fun _ _ _ h => h) (Or.inl ⟨by rfl, ?_⟩) (by assumption) ?_
        rotate_left
        · (intro w hSw; (try dsimp only at hSw); go_simp; try with_reducible rfl)
        try simp only [List.getElem_toArray, List.getElem_cons_succ, List.getElem_cons_zero, Act.put, List.setIfInBounds_toArray, List.set_cons_zero, List.set_cons_succ]
        refine wpAnyH_take (i := 14) (v := ?_) rfl (by kernel_rfl) (by kernel_rfl) (by kernel_rfl) (fun _ _ _ h => h) (Or.inl ⟨by rfl, ?_⟩) (by assumption) ?_
        rotate_left
        · (intro w hSw; (try dsimp only at hSw); go_simp; try with_reducible rfl)
        try simp only [List.getElem_toArray, List.getElem_cons_succ, List.getElem_cons_zero, Act.put, List.setIfInBounds_toArray, List.set_cons_zero, List.set_cons_succ]
        refine wpAnyH_take (i := 15) (v := ?_) rfl (by kernel_rfl) (by kernel_rfl) (by kernel_rfl) (fun _ _ _ h => h) (Or.inl ⟨by rfl, ?_⟩) (by assumption) ?_
        rotate_left
        · (intro w hSw; (try dsimp only at hSw); go_simp; try with_reducible rfl)
        try simp only [List.getElem_toArray, List.getElem_cons_succ, List.getElem_cons_zero, Act.put, List.setIfInBounds_toArray, List.set_cons_zero, List.set_cons_succ]
        refine wpAnyH_take (i := 16) (v := .int .i64 0) rfl (by kernel_rfl) (by kernel_rfl) (by kernel_rfl) (fun _ _ _ h => h) (Or.inl ⟨by rfl, ?_⟩) (by assumption) ?_
        · (intro w hSw; (try dsimp only at hSw); go_simp; first | done | rfl)
        try simp only [List.getElem_toArray, List.getElem_cons_succ, List.getElem_cons_zero, Act.put, List.setIfInBounds_toArray, List.set_cons_zero, List.set_cons_succ]
        refine wpAnyH_take (i := 17) (v := ?_) rfl (by kernel_rfl) (by kernel_rfl) (by kernel_rfl) (fun _ _ _ h => h) (Or.inl ⟨by rfl, ?_⟩) (by assumption) ?_
        rotate_left
        · (intro w hSw; (try dsimp only at hSw); go_simp; try with_reducible rfl)
        try simp only [List.getElem_toArray, List.getElem_cons_succ, List.getElem_cons_zero, Act.put, List.setIfInBounds_toArray, List.set_cons_zero, List.set_cons_succ]
        refine wpAnyH_take (i := 18) (v := ?_) rfl (by kernel_rfl) (by kernel_rfl) (by kernel_rfl) (fun _ _ _ h => h) (Or.inl ⟨by rfl, ?_⟩) (by assumption) ?_
        rotate_left
        · (intro w hSw; (try dsimp only at hSw); go_simp; try with_reducible rfl)
        try simp only [List.getElem_toArray, List.getElem_cons_succ, List.getElem_cons_zero, Act.put, List.setIfInBounds_toArray, List.set_cons_zero, List.set_cons_succ]
        refine wpAnyH_take (i := 19) (v := ?_) rfl (by kernel_rfl) (by kernel_rfl) (by kernel_rfl) (fun _ _ _ h => h) (Or.inl ⟨by rfl, ?_⟩) (by assumption) ?_
        rotate_left
        · (intro w hSw; (try dsimp only at hSw); go_simp; try with_reducible rfl)
        try simp only [List.getElem_toArray, List.getElem_cons_succ, List.getElem_cons_zero, Act.put, List.setIfInBounds_toArray, List.set_cons_zero, List.set_cons_succ]
        refine wpAnyH_take (i := 20) (v := ?_) rfl (by kernel_rfl) (by kernel_rfl) (by kernel_rfl) (fun _ _ _ h => h) (Or.inl ⟨by rfl, ?_⟩) (by assumption) ?_
        rotate_left
        · (intro w hSw; (try dsimp only at hSw); go_simp; try with_reducible rfl)
        try simp only [List.getElem_toArray, List.getElem_cons_succ, List.getElem_cons_zero, Act.put, List.setIfInBounds_toArray, List.set_cons_zero, List.set_cons_succ]
        refine wpAnyH_take (i := 21) (v := .int .i64 0) rfl (by kernel_rfl) (by kernel_rfl) (by kernel_rfl) (fun _ _ _ h => h) (Or.inl ⟨by rfl, ?_⟩) (by assumption) ?_
        · (intro w hSw; (try dsimp only at hSw); go_simp; first | done | rfl)
        try simp only [List.getElem_toArray, List.getElem_cons_succ, List.getElem_cons_zero, Act.put, List.setIfInBounds_toArray, List.set_cons_zero, List.set_cons_succ]
        refine wpAnyH_take (i := 22) (v := ?_) rfl (by kernel_rfl) (by kernel_rfl) (by kernel_rfl) (fun _ _ _ h => h) (Or.inl ⟨by rfl, ?_⟩) (by assumption) ?_
        rotate_left
        · (intro w hSw; (try dsimp only at hSw); go_simp; try with_reducible rfl)
        try simp only [List.getElem_toArray, List.getElem_cons_succ, List.getElem_cons_zero, Act.put, List.setIfInBounds_toArray, List.set_cons_zero, List.set_cons_succ]
        refine wpAnyH_take (i := 23) (v := ?_) rfl (by kernel_rfl) (by kernel_rfl) (by kernel_rfl) (fun _ _ _ h => h) (Or.inl ⟨by rfl, ?_⟩) (by assumption) ?_
        rotate_left
        · (intro w hSw; (try dsimp only at hSw); go_simp; try with_reducible rfl)
        try simp only [List.getElem_toArray, List.getElem_cons_succ, List.getElem_cons_zero, Act.put, List.setIfInBounds_toArray, List.set_cons_zero, List.set_cons_succ]
        refine wpAnyH_take (i := 24) (v := ?_) rfl (by kernel_rfl) (by kernel_rfl) (by kernel_rfl) (fun _ _ _ h => h) (Or.inl ⟨by rfl, ?_⟩) (by assumption) ?_
        rotate_left
        · (intro w hSw; (try dsimp only at hSw); go_simp; try with_reducible rfl)
        try simp only [List.getElem_toArray, List.getElem_cons_succ, List.getElem_cons_zero, Act.put, List.setIfInBounds_toArray, List.set_cons_zero, List.set_cons_succ]
        refine wpAnyH_take (i := 25) (v := ?_) rfl (by kernel_rfl) (by kernel_rfl) (by kernel_rfl) (fun _ _ _ h => h) (Or.inl ⟨by rfl, ?_⟩) (by assumption) ?_
        rotate_left
        · (intro w hSw; (try dsimp only at hSw); go_simp; try with_reducible rfl)
        try simp only [List.getElem_toArray, List.getElem_cons_succ, List.getElem_cons_zero, Act.put, List.setIfInBounds_toArray, List.set_cons_zero, List.set_cons_succ]
        refine wpAnyH_take (i := 26) (v := ?_) rfl (by kernel_rfl) (by kernel_rfl) (by kernel_rfl) (fun _ _ _ h => h) (Or.inl ⟨by rfl, ?_⟩) (by assumption) ?_
        rotate_left
        · (intro w hSw; (try dsimp only at hSw); go_simp; try with_reducible rfl)
        try simp only [List.getElem_toArray, List.getElem_cons_succ, List.getElem_cons_zero, Act.put, List.setIfInBounds_toArray, List.set_cons_zero, List.set_cons_succ]
        refine wpAnyH_take (i := 27) (v := ?_) rfl (by kernel_rfl) (by kernel_rfl) (by kernel_rfl) (fun _ _ _ h => h) (Or.inl ⟨by rfl, ?_⟩) (by assumption) ?_
        rotate_left
        · (intro w hSw; (try dsimp only at hSw); go_simp; try with_reducible rfl)
        try simp only [List.getElem_toArray, List.getElem_cons_succ, List.getElem_cons_zero, Act.put, List.setIfInBounds_toArray, List.set_cons_zero, List.set_cons_succ]
        refine wpAnyH_take (i := 28) (v := ?_) rfl (by kernel_rfl) (by kernel_rfl) (by kernel_rfl) (fun _ _ _ h => h) (Or.inl ⟨by rfl, ?_⟩) (by assumption) ?_
        rotate_left
        · (intro w hSw; (try dsimp only at hSw); go_simp; try with_reducible rfl)
        try simp only [List.getElem_toArray, List.getElem_cons_succ, List.getElem_cons_zero, Act.put, List.setIfInBounds_toArray, List.set_cons_zero, List.set_cons_succ]
        refine wpAnyH_take (i := 29) (v := ?_) rfl (by kernel_rfl) (by kernel_rfl) (by kernel_rfl) (fun _ _ _ h => h) (Or.inl ⟨by rfl, ?_⟩) (by assumption) ?_
        rotate_left
        · (intro w hSw; (try dsimp only at hSw); go_simp; try with_reducible rfl)
        try simp only [List.getElem_toArray, List.getElem_cons_succ, List.getElem_cons_zero, Act.put, List.setIfInBounds_toArray, List.set_cons_zero, List.set_cons_succ]
        refine wpAnyH_take (i := 30) (v := ?_) rfl (by kernel_rfl) (by kernel_rfl) (by kernel_rfl) (fun _ _ _ h => h) (Or.inl ⟨by rfl, ?_⟩) (by assumption) ?_
        rotate_left
        · (intro w hSw; (try dsimp only at hSw); go_simp; try with_reducible rfl)
        try simp only [List.getElem_toArray, List.getElem_cons_succ, List.getElem_cons_zero, Act.put, List.setIfInBounds_toArray, List.set_cons_zero, List.set_cons_succ]
        refine wpAnyH_take (i := 31) (v := ?_) rfl (by kernel_rfl) (by kernel_rfl) (by kernel_rfl) (fun _ _ _ h => h) (Or.inl ⟨by rfl, ?_⟩) (by assumption) ?_
        rotate_left
        · (intro w hSw; (try dsimp only at hSw); go_simp; try with_reducible rfl)
        try simp only [List.getElem_toArray, List.getElem_cons_succ, List.getElem_cons_zero, Act.put, List.setIfInBounds_toArray, List.set_cons_zero, List.set_cons_succ]
        refine wpAnyH_take (i := 32) (v := ?_) rfl (by kernel_rfl) (by kernel_rfl) (by kernel_rfl) (fun _ _ _ h => h) (Or.inl ⟨by rfl, ?_⟩) (by assumption) ?_
        rotate_left
        · (intro w hSw; (try dsimp only at hSw); go_simp; try with_reducible rfl)
        try simp only [List.getElem_toArray, List.getElem_cons_succ, List.getElem_cons_zero, Act.put, List.setIfInBounds_toArray, List.set_cons_zero, List.set_cons_succ]
        refine wpAnyH_take (i := 33) (v := ?_) rfl (by kernel_rfl) (by kernel_rfl) (by kernel_rfl) (fun _ _ _ h => h) (Or.inl ⟨by rfl, ?_⟩) (by assumption) ?_
        rotate_left
        · (intro w hSw; (try dsimp only at hSw); go_simp; try with_reducible rfl)
        try simp only [List.getElem_toArray, List.getElem_cons_succ, List.getElem_cons_zero, Act.put, List.setIfInBounds_toArray, List.set_cons_zero, List.set_cons_succ]
        refine wpAnyH_take (i := 34) (v := ?_) rfl (by kernel_rfl) (by kernel_rfl) (by kernel_rfl) (fun _ _ _ h => h) (Or.inl ⟨by rfl, ?_⟩) (by assumption) ?_
        rotate_left
        · (intro w hSw; (try dsimp only at hSw); go_simp; try with_reducible rfl)
        try simp only [List.getElem_toArray, List.getElem_cons_succ, List.getElem_cons_zero, Act.put, List.setIfInBounds_toArray, List.set_cons_zero, List.set_cons_succ]
        refine wpAnyH_take (i := 35) (v := ?_) rfl (by kernel_rfl) (by kernel_rfl) (by kernel_rfl) (fun _ _ _ h => h) (Or.inl ⟨by rfl, ?_⟩) (by assumption) ?_
        rotate_left
        · (intro w hSw; (try dsimp only at hSw); go_simp; try with_reducible rfl)
        try simp only [List.getElem_toArray, List.getElem_cons_succ, List.getElem_cons_zero, Act.put, List.setIfInBounds_toArray, List.set_cons_zero, List.set_cons_succ]
        refine wpAnyH_take (i := 36) (v := ?_) rfl (by kernel_rfl) (by kernel_rfl) (by kernel_rfl) (fun _ _ _ h => h) (Or.inl ⟨by rfl, ?_⟩) (by assumption) ?_
        rotate_left
        · (intro w hSw; (try dsimp only at hSw); go_simp; try with_reducible rfl)
        try simp only [List.getElem_toArray, List.getElem_cons_succ, List.getElem_cons_zero, Act.put, List.setIfInBounds_toArray, List.set_cons_zero, List.set_cons_succ]
        refine wpAnyH_ready (rs := [37]) (by kernel_rfl) (by simp) ?_
        refine AllReadyH.cons rfl (fun K hK => ?_) AllReadyH.nil
        go_simp
        (refine (HRE.out _).mono ?_; rintro e wa ⟨rfl, hba⟩; have HGb := Lib.hid (And.intro (HGd.out.1.keep hba) ((hba.block _ lm).trans HGd.out.2)); clear hba; obtain ⟨f0, f1, f2, f3, f4, f5, f6, f7, f8, f9⟩ := TrC.of HGb.out.1.tb; obtain ⟨g0, g1, g2, g3, g4, g5, g6, g7, g8, g9⟩ := TrC.of HGb.out.2; simp only at g0 g1 g2 g3 g4 g5 g6 g7 g8 g9; obtain ⟨h0, h1, -, -⟩ := box2r HGb.out.1.a; obtain ⟨i0, i1, -, -⟩ := box2r HGb.out.1.b; have fl := lt_of_heap HGb.out.1.tb; have gl := lt_of_heap HGb.out.2; have hl := lt_of_heap HGb.out.1.a; have il := lt_of_heap HGb.out.1.b)
        go_wp2_with fail
        refine hK.out _ _ ?_ (fun hHeld => ?_)
        · ((try dsimp only); first | (go_simp; done) | (simp [*]; done))
        clear hK K
        try simp only [List.getElem_toArray, List.getElem_cons_succ, List.getElem_cons_zero, Act.put, List.setIfInBounds_toArray, List.set_cons_zero, List.set_cons_succ]
        refine wpAnyH_take (i := 38) (v := ?_) rfl (by kernel_rfl) (by kernel_rfl) (by kernel_rfl) (fun _ _ _ h => h) (Or.inl ⟨by rfl, ?_⟩) (by assumption) ?_
        rotate_left
        · (intro w hSw; (try dsimp only at hSw); go_simp; try with_reducible rfl)
        try simp only [List.getElem_toArray, List.getElem_cons_succ, List.getElem_cons_zero, Act.put, List.setIfInBounds_toArray, List.set_cons_zero, List.set_cons_succ]
        refine wpAnyH_take (i := 39) (v := ?_) rfl (by kernel_rfl) (by kernel_rfl) (by kernel_rfl) (fun _ _ _ h => h) (Or.inl ⟨by rfl, ?_⟩) (by assumption) ?_
        rotate_left
        · (intro w hSw; (try dsimp only at hSw); go_simp; try with_reducible rfl)
        try simp only [List.getElem_toArray, List.getElem_cons_succ, List.getElem_cons_zero, Act.put, List.setIfInBounds_toArray, List.set_cons_zero, List.set_cons_succ]
        refine wpAnyH_ready (rs := [40]) (by kernel_rfl) (by simp) ?_
        refine AllReadyH.cons rfl (fun K hK => ?_) AllReadyH.nil
        go_simp
        (refine (HA.out _ HGb.out.1.bel).mono ?_; rintro e wb ⟨rfl, hbb⟩; have HGc := Lib.hid (And.intro (HGb.out.1.keep hbb) ((hbb.block _ gl).trans HGb.out.2)); clear hbb; obtain ⟨p0, p1, p2, p3, p4, p5, p6, p7, p8, p9⟩ := TrC.of HGc.out.1.tb; obtain ⟨q0, q1, q2, q3, q4, q5, q6, q7, q8, q9⟩ := TrC.of HGc.out.2; simp only at q0 q1 q2 q3 q4 q5 q6 q7 q8 q9; obtain ⟨u0, u1, -, -⟩ := box2r HGc.out.1.a; obtain ⟨v0, v1, -, -⟩ := box2r HGc.out.1.b; have pl := lt_of_heap HGc.out.1.tb; have ql := lt_of_heap HGc.out.2; have ul := lt_of_heap HGc.out.1.a; have vl := lt_of_heap HGc.out.1.b)
        go_wp2_with fail
        refine hK.out _ _ ?_ (fun hHeld => ?_)
        · ((try dsimp only); first | (go_simp; done) | (simp [*]; done))
        clear hK K
        try simp only [List.getElem_toArray, List.getElem_cons_succ, List.getElem_cons_zero, Act.put, List.setIfInBounds_toArray, List.set_cons_zero, List.set_cons_succ]
        refine wpAnyH_take (i := 41) (v := ?_) rfl (by kernel_rfl) (by kernel_rfl) (by kernel_rfl) (fun _ _ _ h => h) (Or.inl ⟨by rfl, ?_⟩) (by assumption) ?_
        rotate_left
        · (intro w hSw; (try dsimp only at hSw); go_simp; try with_reducible rfl)
        try simp only [List.getElem_toArray, List.getElem_cons_succ, List.getElem_cons_zero, Act.put, List.setIfInBounds_toArray, List.set_cons_zero, List.set_cons_succ]
        refine wpAnyH_take (i := 42) (v := ?_) rfl (by kernel_rfl) (by kernel_rfl) (by kernel_rfl) (fun _ _ _ h => h) (Or.inl ⟨by rfl, ?_⟩) (by assumption) ?_
        rotate_left
        · (intro w hSw; (try dsimp only at hSw); go_simp; try with_reducible rfl)
        try simp only [List.getElem_toArray, List.getElem_cons_succ, List.getElem_cons_zero, Act.put, List.setIfInBounds_toArray, List.set_cons_zero, List.set_cons_succ]
        refine wpAnyH_done (by kernel_rfl) ?_ _
        refine NoPanic.normal ?_
        go_wp2_with fail
        go_ret
        exact ⟨rfl, HGc.out.1.bel⟩
    · obtain ⟨z1, z2, z3⟩ := HNO.out hr
      subst z1
      subst z2
      rw [z3] at HS
      have h0b : (r != 0) = true := by simp; exact fun e => hr (Or.inl e)
      have h1b : (r != 1) = true := by simp; exact fun e => hr (Or.inr e)
      clear hr z3 HGE HVA HNO
      go_wp2_with fail
      go_region_held3 (fun w' => w'.cell? ⟨w.heap.size, 0, none⟩ = some (.bool (t.f 0)) ∧ w'.cell? ⟨w.heap.size, 1, none⟩ = some (.bool (t.f 1)) ∧ w'.cell? ⟨w.heap.size, 2, none⟩ = some (.bool (t.f 2)) ∧ w'.cell? ⟨w.heap.size, 3, none⟩ = some (.bool (t.f 3)) ∧ w'.cell? ⟨w.heap.size, 4, none⟩ = some (.bool (t.f 4)) ∧ w'.cell? ⟨w.heap.size, 5, none⟩ = some (.bool (t.f 5)) ∧ w'.cell? ⟨w.heap.size, 6, none⟩ = some (.bool (t.f 6)) ∧ w'.cell? ⟨w.heap.size, 7, none⟩ = some (.bool (t.f 7)) ∧ w'.cell? ⟨w.heap.size, 8, none⟩ = some (.int .i64 t.a) ∧ w'.cell? ⟨w.heap.size, 9, none⟩ = some (.int .i64 t.b) ∧ w'.cell? ⟨A, 0, none⟩ = some (.int .i64 0) ∧ w'.cell? ⟨A, 1, none⟩ = some (.int .i64 0)) (go_keep)
        ((first
          | (go_at_call 22; refine (HS.out _ HG.out.bel.drew).mono ?_; rintro e wa ⟨rfl, hba⟩; have HGa := Lib.hid (HG.out.keep ((Below.refl _ _).drew.trans hba)); clear hba; obtain ⟨f0, f1, f2, f3, f4, f5, f6, f7, f8, f9⟩ := TrC.of HGa.out.tb; obtain ⟨g0, g1, -, -⟩ := box2r HGa.out.a; have lf := lt_of_heap HGa.out.tb; have lg := lt_of_heap HGa.out.a)
          | (go_at_call 14; refine (HA.out _ HGa.out.bel).mono ?_; rintro e wb ⟨rfl, hbb⟩; have HGb := Lib.hid (HGa.out.keep hbb); clear hbb; obtain ⟨p0, p1, p2, p3, p4, p5, p6, p7, p8, p9⟩ := TrC.of HGb.out.tb; obtain ⟨q0, q1, -, -⟩ := box2r HGb.out.a; have lp := lt_of_heap HGb.out.tb; have lq := lt_of_heap HGb.out.a)))
      go_wp2_with fail
      go_ret
      exact ⟨rfl, HGb.out.bel⟩
theorem grows_good (t : Tr) (s : Option Addr) (c : Nat) (l : List Int) (r : Int) (w : World) (hE : Ew w) (hl : IntsV w s l) : Calls Tryd.prog 5 #[trV t, .slice s l.length c, .int .i64 r] w fun e w' => e = .returned (.bool true) ∧ Below w.heap.size w w' := by
  by_cases h : 30 < l.length
  · exact grows_long t s c l r h w hE
  · exact grows_few t s c l r h w hE hl
end Go.Proofs.YtahbbojhdkillaaDoor
