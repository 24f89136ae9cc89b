/- Layer 9: walks of auth, conf, Of, Sent. -/
import Derived.Test.YtahbbojhdkillaaDoorGb
namespace Go.Proofs.YtahbbojhdkillaaDoor
open Go.RowKit Go.Shelf


theorem ps_wrap (x : Int) : wrap64 (3 + psV x) = 3 + psV x := by
  have : 0 ≤ psV x ∧ psV x ≤ 2 := by unfold psV; omega
  unfold wrap64
  omega
/-- A track in a box. -/
def TrO (t : Tr) : Obj := .cells (trA t) 54 (0, 0)
def TrC (w : World) (b : Nat) (t : Tr) : Prop := w.cell? ⟨b, 0, none⟩ = some (.bool (t.f 0)) ∧ w.cell? ⟨b, 1, none⟩ = some (.bool (t.f 1)) ∧ w.cell? ⟨b, 2, none⟩ = some (.bool (t.f 2)) ∧ w.cell? ⟨b, 3, none⟩ = some (.bool (t.f 3)) ∧ w.cell? ⟨b, 4, none⟩ = some (.bool (t.f 4)) ∧ w.cell? ⟨b, 5, none⟩ = some (.bool (t.f 5)) ∧ w.cell? ⟨b, 6, none⟩ = some (.bool (t.f 6)) ∧ w.cell? ⟨b, 7, none⟩ = some (.bool (t.f 7)) ∧ w.cell? ⟨b, 8, none⟩ = some (.int .i64 t.a) ∧ w.cell? ⟨b, 9, none⟩ = some (.int .i64 t.b)
theorem TrC.of {w : World} {b : Nat} {t : Tr} (h : w.heap[b]? = some (TrO t)) : TrC w b t := by
  unfold TrO at h
  have k : ∀ i v, (trA t)[i]? = some v → w.cell? ⟨b, i, none⟩ = some v := fun i v hv => (cell_of_row w b i _ _ _ h).trans hv
  exact ⟨k _ _ rfl, k _ _ rfl, k _ _ rfl, k _ _ rfl, k _ _ rfl, k _ _ rfl, k _ _ rfl, k _ _ rfl, k _ _ rfl, k _ _ rfl⟩
theorem TrC.keep {w w' : World} {b : Nat} {t : Tr} (h : TrC w b t) (hb : Below w.heap.size w w') : TrC w' b t := by
  have k : ∀ (a : Addr) v, w.cell? a = some v → w'.cell? a = some v := fun a v hv => by
    rw [hb.cell (p := a) (World.block_lt_of_cell? _ _ hv)]; exact hv
  obtain ⟨h0, h1, h2, h3, h4, h5, h6, h7, h8, h9⟩ := h
  exact ⟨k _ _ h0, k _ _ h1, k _ _ h2, k _ _ h3, k _ _ h4, k _ _ h5, k _ _ h6, k _ _ h7, k _ _ h8, k _ _ h9⟩

set_option maxRecDepth 100000 in
set_option maxHeartbeats 1000000 in
theorem auth_any (t : Tr) (r : Int) (hr : r = 0 ∨ r = 1) (w : World) (hp : Pf w) : Calls Tryd.prog 35 #[trV t, .int .i64 r] w fun e w' => e = .returned (.int .i64 (auV t.f r)) ∧ Below w.heap.size w w' := by
  obtain ⟨p0, p1⟩ := hp
  have lp := World.block_lt_of_cell? _ _ p0
  simp only at lp
  unfold trV trA auV
  rcases hr with rfl | rfl
  · rw [show stA 0 = 5 from rfl]
    go_enter Tryd.func35, Tryd.ntmps35
    go_wp2_with fail
    all_goals go_ret
    all_goals exact ⟨rfl, (Below.refl _ _).alloc (Nat.le_refl _) _⟩
  · rw [show stA 1 = 4 from rfl]
    go_enter Tryd.func35, Tryd.ntmps35
    go_wp2_with fail
    all_goals go_ret
    all_goals exact ⟨rfl, (Below.refl _ _).alloc (Nat.le_refl _) _⟩
set_option maxRecDepth 100000 in
set_option maxHeartbeats 1000000 in
theorem conf_any (t : Tr) (r : Int) (hr : r = 0 ∨ r = 1) (w : World) (hp : Pf w) : Calls Tryd.prog 36 #[trV t, .int .i64 r] w fun e w' => e = .returned (.int .i64 (cfV t.f r (t.lst (1 - r)))) ∧ Below w.heap.size w w' := by
  obtain ⟨p0, p1⟩ := hp
  have lp := World.block_lt_of_cell? _ _ p0
  simp only at lp
  have HPS := Lib.hid (fun x wx => possible_any x wx)
  unfold trV trA cfV
  rcases hr with rfl | rfl
  · rw [show stC 0 = 4 from rfl, show t.lst (1 - 0) = t.b from rfl]
    go_enter Tryd.func36, Tryd.ntmps36
    go_wp2_with fail
    go_quiet (fail)
    go_wp2_with (go_at_call 47; refine (HPS.out _ _).mono ?_; rintro e w1 ⟨rfl, rfl⟩)
    all_goals go_ret
    all_goals exact ⟨by first | rfl | (show Ending.returned (.int .i64 (wrap64 _)) = _; rw [ps_wrap]), belowN ((Below.refl _ _).alloc (Nat.le_refl _) _)⟩
  · rw [show stC 1 = 5 from rfl, show t.lst (1 - 1) = t.a from rfl]
    go_enter Tryd.func36, Tryd.ntmps36
    go_wp2_with fail
    go_quiet (fail)
    go_wp2_with (go_at_call 47; refine (HPS.out _ _).mono ?_; rintro e w1 ⟨rfl, rfl⟩)
    all_goals go_ret
    all_goals exact ⟨by first | rfl | (show Ending.returned (.int .i64 (wrap64 _)) = _; rw [ps_wrap]), belowN ((Below.refl _ _).alloc (Nat.le_refl _) _)⟩

/-- A track in its box, and the answer's box behind it. -/
structure To (w : World) (t : Tr) (v : Obj) (wr : World) : Prop where
  tb : wr.heap[w.heap.size]? = some (TrO t)
  res : wr.heap[w.heap.size + 1]? = some v
  bel : Below w.heap.size w wr
theorem To.keep {w : World} {t : Tr} {v : Obj} {wr wx : World} (h : To w t v wr) (hb : Below wr.heap.size wr wx) : To w t v wx :=
  ⟨(hb.block _ (lt_of_heap h.tb)).trans h.tb, (hb.block _ (lt_of_heap h.res)).trans h.res, h.bel.trans (hb.mono h.bel.size)⟩
theorem to_new (w : World) (t : Tr) (vs : Array Value) (T : TypeId) : To w t (.cells vs T (0, 0)) ((w.alloc (.cells (trA t) 54)).alloc (.cells vs T)) := by
  refine ⟨?_, ?_, ((Below.refl _ _).alloc (Nat.le_refl _) _).alloc (by simp) _⟩
  · rw [Below.heap_alloc _ _ _ (by simp)]; exact heap_alloc_new w _
  · have := heap_alloc_new (w.alloc (.cells (trA t) 54)) (.cells vs T)
    rwa [World.size_alloc] at this
theorem box2r {w : World} {b : Nat} {v0 v1 : Value} {T : TypeId} (h : w.heap[b]? = some (.cells #[v0, v1] T (0, 0))) : w.cell? ⟨b, 0, none⟩ = some v0 ∧ w.cell? ⟨b, 1, none⟩ = some v1 ∧ w.frozen? ⟨b, 0, none⟩ = false ∧ w.frozen? ⟨b, 1, none⟩ = false :=
  ⟨(cell_of_row w b 0 _ _ _ h).trans rfl, (cell_of_row w b 1 _ _ _ h).trans rfl, frozen_of_row _ _ _ _ _ h, frozen_of_row _ _ _ _ _ h⟩

set_option maxRecDepth 100000 in
set_option maxHeartbeats 1000000 in
theorem of9_any (t : Tr) (r : Int) (w : World) (hp : Pf w) : Calls Tryd.prog 20 #[trV t, .int .i64 r] w fun e w' => e = .returned (lvV (t.lv r)) ∧ Below w.heap.size w w' := by
  have HR := Lib.hid (fun wx => isRole9_any r wx)
  have HP := Lib.hid hp; clear hp
  unfold Tr.lv lvV
  by_cases hr : r = 0 ∨ r = 1
  · have hb : (decide (r = 0) || decide (r = 1)) = true := by simpa using hr
    rw [hb] at HR
    rw [if_pos hr]
    have HA := Lib.hid (fun wx (h : Pf wx) => auth_any t r hr wx h)
    have HC := Lib.hid (fun wx (h : Pf wx) => conf_any t r hr wx h)
    have HT := Lib.hid (to_new w t #[.int .i64 0, .int .i64 0] 37)
    obtain ⟨c0, c1, c2, c3, c4, c5, c6, c7, c8, c9⟩ := TrC.of HT.out.tb
    obtain ⟨y0, y1, y2, y3⟩ := box2r HT.out.res
    have lt := lt_of_heap HT.out.res
    generalize auV t.f r = va at HA ⊢
    generalize cfV t.f r (t.lst (1 - r)) = vc at HC ⊢
    unfold trV trA at *
    clear hb hr
    go_enter Tryd.func20, Tryd.ntmps20
    go_wp2_with (go_at_call 34; refine (HR.out _).mono ?_; rintro e w1 ⟨rfl, rfl⟩)
    go_region_held3 (fun w' => w'.cell? ⟨w.heap.size, 0, none⟩ = some (.bool (t.f 0)) ∧ w'.cell? ⟨w.heap.size, 1, none⟩ = some (.bool (t.f 1)) ∧ w'.cell? ⟨w.heap.size, 2, none⟩ = some (.bool (t.f 2)) ∧ w'.cell? ⟨w.heap.size, 3, none⟩ = some (.bool (t.f 3)) ∧ w'.cell? ⟨w.heap.size, 4, none⟩ = some (.bool (t.f 4)) ∧ w'.cell? ⟨w.heap.size, 5, none⟩ = some (.bool (t.f 5)) ∧ w'.cell? ⟨w.heap.size, 6, none⟩ = some (.bool (t.f 6)) ∧ w'.cell? ⟨w.heap.size, 7, none⟩ = some (.bool (t.f 7)) ∧ w'.cell? ⟨w.heap.size, 8, none⟩ = some (.int .i64 t.a) ∧ w'.cell? ⟨w.heap.size, 9, none⟩ = some (.int .i64 t.b)) (go_keep)
      ((first
        | (go_at_call 35; refine (HA.out _ (HP.out.keep HT.out.bel.drew)).mono ?_; rintro e w2 ⟨rfl, hb2⟩; have HT2 := Lib.hid (HT.out.keep ((Below.refl _ _).drew.trans hb2)); clear hb2; obtain ⟨d0, d1, d2, d3, d4, d5, d6, d7, d8, d9⟩ := TrC.of HT2.out.tb)
        | (go_at_call 36; refine (HC.out _ (HP.out.keep HT2.out.bel)).mono ?_; rintro e w3 ⟨rfl, hb3⟩; have HT3 := Lib.hid (HT2.out.keep hb3); clear hb3; obtain ⟨f0, f1, f2, f3, f4, f5, f6, f7, f8, f9⟩ := TrC.of HT3.out.tb; obtain ⟨z0, z1, z2, z3⟩ := box2r HT3.out.res; have lz := lt_of_heap HT3.out.res)))
    go_wp2_with fail
    refine bodyPost_ret (v := .agg #[.int .i64 va, .int .i64 vc]) (by simp [results, Tryd.results20, go_sem, z0, z1]) rfl ?_
    exact ⟨rfl, (HT3.out.bel.setCell (Nat.le_succ _) _).setCell (Nat.le_succ _) _⟩
  · have hb : (decide (r = 0) || decide (r = 1)) = false := by simpa using hr
    rw [hb] at HR
    rw [if_neg hr]
    clear hb hr
    unfold trV trA
    go_enter Tryd.func20, Tryd.ntmps20
    go_wp2_with (go_at_call 34; refine (HR.out _).mono ?_; rintro e w1 ⟨rfl, rfl⟩)
    refine bodyPost_ret (v := .agg #[.int .i64 0, .int .i64 0]) (by simp [results, Tryd.results20, go_sem]) rfl ?_
    exact ⟨rfl, by first | exact ((Below.refl _ _).alloc (Nat.le_refl _) _).alloc (by simp) _ | exact (((((Below.refl _ _).alloc (Nat.le_refl _) _).alloc (by simp) _).setCell (by omega) _).setCell (by omega) _)⟩
end Go.Proofs.YtahbbojhdkillaaDoor
