/- Layer 11: the walks of Split, spell, Begin. -/
import Derived.Test.YtgjhhipkfglpgaaDoorKg
namespace Go.Proofs.YtgjhhipkfglpgaaDoor
open Go.RowKit

set_option maxRecDepth 100000 in
set_option maxHeartbeats 4000000 in
theorem split_any (w0 : World) (b g bm cap lim : Nat) (L : List Nd) (s : Sf) (w : World) (hA : St w0 w b g bm cap lim L) (hsh : Shp w0) (hs : i64ok s.ck) :
    Calls Tryd.prog 16 #[syV s, .pointer (some ⟨b, 0, none⟩)] w (StPost w0 b g bm lim (yL lim L s.ck 0 2) (.tuple #[cfV (spA lim L s.ck), cfV (spB lim L s.ck), .int .i64 (yE lim L s.ck 0 2)]) w) := by
  have HF0 : Hid (Fs w0 w w b g g bm cap lim L) := Lib.hid ⟨hA, .inl rfl, Kept.of (Below.refl _ _), hA.bel.size⟩
  have HA : Hid (spA lim L s.ck = if yE lim L s.ck 0 2 = 0 then ⟨yR lim L s.ck 0 0, true, 0⟩ else cZ) := Lib.hid rfl
  have HB : Hid (spB lim L s.ck = if yE lim L s.ck 0 2 = 0 then ⟨yR lim L s.ck 0 1, true, 0⟩ else cZ) := Lib.hid rfl
  have HKY := Lib.hid (fun (wi : World) (g2 cap2 : Nat) (h : St w0 wi b g2 bm cap2 lim L) => keys_any w0 b g2 bm cap2 lim L s 0 2 wi h hsh hs (by simp [i64ok]) (by omega))
  unfold syV KyPost at HKY
  clear hA hsh hs
  have HR0 : Hid (∀ q : Nat, ∀ wx : World, wx.heap[q]? = some (.cells (kyRow lim L s.ck 0 2 2) 3 (0, 0)) → wx.cell? ⟨q, 0, none⟩ = some (.int .i64 (yR lim L s.ck 0 0)) ∧ wx.cell? ⟨q, 1, none⟩ = some (.int .i64 (yR lim L s.ck 0 1))) := Lib.hid (fun q wx h => ⟨(cell_of_row wx q 0 _ _ _ h).trans (kyRow_at (by omega)), (cell_of_row wx q 1 _ _ _ h).trans (kyRow_at (by omega))⟩)
  generalize yL lim L s.ck 0 2 = M at *
  generalize yE lim L s.ck 0 2 = er at *
  generalize yR lim L s.ck 0 0 = r0 at *
  generalize yR lim L s.ck 0 1 = r1 at *
  generalize kyRow lim L s.ck 0 2 2 = KR at *
  generalize spA lim L s.ck = cA at *
  generalize spB lim L s.ck = cB at *
  unfold syV cfV
  go_enter Tryd.func16, Tryd.ntmps16
  have HB1 : Hid (Below w.heap.size w (((w.alloc (.cells #[.int .i64 s.ck, .int .i64 s.h, .int .i64 s.c.k, .bool s.c.h, .int .u64 s.c.n] 35)).alloc (.cells #[.int .i64 0, .bool false, .int .u64 0] 33)).alloc (.cells #[.int .i64 0, .bool false, .int .u64 0] 33))) := Lib.hid ((((Below.refl _ _).alloc (Nat.le_refl _) _).alloc (by simp) _).alloc (by simp <;> omega) _)
  have HX2 : Hid ((((w.alloc (.cells #[.int .i64 s.ck, .int .i64 s.h, .int .i64 s.c.k, .bool s.c.h, .int .u64 s.c.n] 35)).alloc (.cells #[.int .i64 0, .bool false, .int .u64 0] 33)).alloc (.cells #[.int .i64 0, .bool false, .int .u64 0] 33)).heap[w.heap.size]? = some (.cells #[.int .i64 s.ck, .int .i64 s.h, .int .i64 s.c.k, .bool s.c.h, .int .u64 s.c.n] 35 (0, 0))) := Lib.hid (by rw [Below.heap_alloc _ _ _ (by simp <;> omega)]; rw [Below.heap_alloc _ _ _ (by simp <;> omega)]; have q := heap_alloc_new w (.cells #[.int .i64 s.ck, .int .i64 s.h, .int .i64 s.c.k, .bool s.c.h, .int .u64 s.c.n] 35); exact q)
  have HX3 : Hid ((((w.alloc (.cells #[.int .i64 s.ck, .int .i64 s.h, .int .i64 s.c.k, .bool s.c.h, .int .u64 s.c.n] 35)).alloc (.cells #[.int .i64 0, .bool false, .int .u64 0] 33)).alloc (.cells #[.int .i64 0, .bool false, .int .u64 0] 33)).heap[w.heap.size + 1]? = some (.cells #[.int .i64 0, .bool false, .int .u64 0] 33 (0, 0))) := Lib.hid (by rw [Below.heap_alloc _ _ _ (by simp <;> omega)]; have q := heap_alloc_new (w.alloc (.cells #[.int .i64 s.ck, .int .i64 s.h, .int .i64 s.c.k, .bool s.c.h, .int .u64 s.c.n] 35)) (.cells #[.int .i64 0, .bool false, .int .u64 0] 33); rwa [World.size_alloc] at q)
  have HX4 : Hid ((((w.alloc (.cells #[.int .i64 s.ck, .int .i64 s.h, .int .i64 s.c.k, .bool s.c.h, .int .u64 s.c.n] 35)).alloc (.cells #[.int .i64 0, .bool false, .int .u64 0] 33)).alloc (.cells #[.int .i64 0, .bool false, .int .u64 0] 33)).heap[w.heap.size + 1 + 1]? = some (.cells #[.int .i64 0, .bool false, .int .u64 0] 33 (0, 0))) := Lib.hid (by have q := heap_alloc_new ((w.alloc (.cells #[.int .i64 s.ck, .int .i64 s.h, .int .i64 s.c.k, .bool s.c.h, .int .u64 s.c.n] 35)).alloc (.cells #[.int .i64 0, .bool false, .int .u64 0] 33)) (.cells #[.int .i64 0, .bool false, .int .u64 0] 33); rwa [World.size_alloc, World.size_alloc] at q)
  have HF5 := Lib.hid (HF0.out.keep HB1.out)
  have HL6 : Hid (w.heap.size ≤ w.heap.size) := Lib.hid HF0.out.kp.size
  clear HF0 HB1
  go_wp2_with fail
  generalize (((w.alloc (.cells #[.int .i64 s.ck, .int .i64 s.h, .int .i64 s.c.k, .bool s.c.h, .int .u64 s.c.n] 35)).alloc (.cells #[.int .i64 0, .bool false, .int .u64 0] 33)).alloc (.cells #[.int .i64 0, .bool false, .int .u64 0] 33)) = W7 at *
  go_at_call 25
  refine (HKY.out _ _ _ HF5.out.st).mono ?_
  rintro e w3 ⟨g3, cap3, v, rfl, hA, hg, hk, hv1, hv2⟩
  have HX9 := Lib.hid (HF5.out.st.ar.boxKept hk HX2.out (by decide) (by decide))
  have HX10 := Lib.hid (HF5.out.st.ar.boxKept hk HX3.out (by decide) (by decide))
  have HX11 := Lib.hid (HF5.out.st.ar.boxKept hk HX4.out (by decide) (by decide))
  have HF12 := Lib.hid (HF5.out.step hA hg hk)
  clear HX2 HX3 HX4 HF5 hA hg hk HKY
  by_cases her : er = 0
  · obtain ⟨q, rfl, hq1, hq2⟩ := hv1 her
    rw [if_pos her] at HA HB
    have HER := Lib.hid her
    subst her
    obtain ⟨k0, k1⟩ := HR0.out q w3 hq2
    have lq := lt_of_heap hq2
    have HQN : Hid (q ≠ w.heap.size + 1 ∧ q ≠ w.heap.size + 1 + 1) := Lib.hid ⟨fun e => by rw [e, HX10.out] at hq2; simp at hq2, fun e => by rw [e, HX11.out] at hq2; simp at hq2⟩
    clear hv1 hv2 hq1 hq2 HR0
    have HN0 := Lib.hid (cnew_any r0 w3.drew)
    have HN1 := Lib.hid (cnew_any r1)
    unfold cfV at HN0 HN1
    go_wp2_with fail
    refine wp_region_noPanic ?_
    refine wp_region_held_drew (S := fun w' => w'.cell? ⟨q, 0, none⟩ = some (.int .i64 r0) ∧ w'.cell? ⟨q, 1, none⟩ = some (.int .i64 r1)) (by kernel_rfl) ?_ (fun hHeld => ?_)
    · first | exact trivial | ((try dsimp only); first | (go_simp; done) | (simp [*]; done))
    refine wpAnyH_take (i := 0) (v := ?_) rfl (by kernel_rfl) (by kernel_rfl) (by kernel_rfl) (fun _ _ _ h => h) (Or.inl ⟨by rfl, ?_⟩) (by assumption) ?_
    rotate_left
    · (intro w hSw; (try dsimp only at hSw); go_simp; try with_reducible rfl)
    try simp only [List.getElem_toArray, List.getElem_cons_zero, Act.put, List.setIfInBounds_toArray, List.set_cons_zero, List.set_cons_succ]
    refine wpAnyH_take (i := 1) (v := ?_) rfl (by kernel_rfl) (by kernel_rfl) (by kernel_rfl) (fun _ _ _ h => h) (Or.inl ⟨by rfl, ?_⟩) (by assumption) ?_
    rotate_left
    · (intro w hSw; (try dsimp only at hSw); go_simp; try with_reducible rfl)
    try simp only [List.getElem_toArray, List.getElem_cons_succ, List.getElem_cons_zero, Act.put, List.setIfInBounds_toArray, List.set_cons_zero, List.set_cons_succ]
    refine wpAnyH_take (i := 2) (v := ?_) rfl (by kernel_rfl) (by kernel_rfl) (by kernel_rfl) (fun _ _ _ h => h) (Or.inl ⟨by rfl, ?_⟩) (by assumption) ?_
    rotate_left
    · (intro w hSw; (try dsimp only at hSw); go_simp; try with_reducible rfl)
    try simp only [List.getElem_toArray, List.getElem_cons_succ, List.getElem_cons_zero, Act.put, List.setIfInBounds_toArray, List.set_cons_zero, List.set_cons_succ]
    refine wpAnyH_take (i := 4) (v := ?_) rfl (by kernel_rfl) (by kernel_rfl) (by kernel_rfl) (fun _ _ _ h => h) (Or.inl ⟨by rfl, ?_⟩) (by assumption) ?_
    rotate_left
    · (intro w hSw; (try dsimp only at hSw); go_simp; try with_reducible rfl)
    try simp only [List.getElem_toArray, List.getElem_cons_succ, List.getElem_cons_zero, Act.put, List.setIfInBounds_toArray, List.set_cons_zero, List.set_cons_succ]
    refine wpAnyH_take (i := 5) (v := ?_) rfl (by kernel_rfl) (by kernel_rfl) (by kernel_rfl) (fun _ _ _ h => h) (Or.inl ⟨by rfl, ?_⟩) (by assumption) ?_
    rotate_left
    · (intro w hSw; (try dsimp only at hSw); go_simp; try with_reducible rfl)
    try simp only [List.getElem_toArray, List.getElem_cons_succ, List.getElem_cons_zero, Act.put, List.setIfInBounds_toArray, List.set_cons_zero, List.set_cons_succ]
    refine wpAnyH_take (i := 6) (v := ?_) rfl (by kernel_rfl) (by kernel_rfl) (by kernel_rfl) (fun _ _ _ h => h) (Or.inl ⟨by rfl, ?_⟩) (by assumption) ?_
    rotate_left
    · (intro w hSw; (try dsimp only at hSw); go_simp; try with_reducible rfl)
    try simp only [List.getElem_toArray, List.getElem_cons_succ, List.getElem_cons_zero, Act.put, List.setIfInBounds_toArray, List.set_cons_zero, List.set_cons_succ]
    refine wpAnyH_ready (rs := [3]) (by kernel_rfl) (by simp) ?_
    refine AllReadyH.cons rfl (fun K hK => ?_) AllReadyH.nil
    go_simp
    (go_at_call 19; refine HN0.out.mono ?_; rintro e w4 ⟨rfl, hb4⟩; have HB4 := Lib.hid ((Below.refl w3.heap.size w3).drew.trans hb4); have k0 := (bcell HB4.out q 0 lq).trans k0; have k1 := (bcell HB4.out q 1 lq).trans k1; clear hb4)
    go_wp2_with fail
    refine hK.out _ _ ?_ (fun hHeld => ?_)
    · first | exact trivial | ((try dsimp only); first | (go_simp; done) | (simp [*]; done))
    clear hK K
    try simp only [List.getElem_toArray, List.getElem_cons_succ, List.getElem_cons_zero, Act.put, List.setIfInBounds_toArray, List.set_cons_zero, List.set_cons_succ]
    refine wpAnyH_ready (rs := [7]) (by kernel_rfl) (by simp) ?_
    refine AllReadyH.cons rfl (fun K hK => ?_) AllReadyH.nil
    go_simp
    (go_at_call 19; refine (HN1.out _).mono ?_; rintro e w5 ⟨rfl, hb5⟩; have HB5 := Lib.hid (HB4.out.trans (hb5.mono HB4.out.size)); have k0 := (bcell HB5.out q 0 lq).trans ‹w3.cell? ⟨q, 0, none⟩ = some (.int .i64 r0)›; have k1 := (bcell HB5.out q 1 lq).trans ‹w3.cell? ⟨q, 1, none⟩ = some (.int .i64 r1)›; clear hb5; have HXX := Lib.hid (below_box HB5.out HX10.out); have HYY := Lib.hid (below_box HB5.out HX11.out); obtain ⟨cx0, cx1, cx2⟩ := cf_cells HXX.out; obtain ⟨cy0, cy1, cy2⟩ := cf_cells HYY.out; have lx := lt_of_heap HXX.out; have ly := lt_of_heap HYY.out; have fx : ∀ j, w5.frozen? ⟨w.heap.size + 1, j, none⟩ = false := (fun j => frozen_of_row _ _ _ _ _ HXX.out); have fy : ∀ j, w5.frozen? ⟨w.heap.size + 1 + 1, j, none⟩ = false := (fun j => frozen_of_row _ _ _ _ _ HYY.out); have q1 : q ≠ w.heap.size + 1 := HQN.out.1; have q2 : q ≠ w.heap.size + 1 + 1 := HQN.out.2)
    go_wp2_with fail
    refine hK.out _ _ ?_ (fun hHeld => ?_)
    · first | exact trivial | ((try dsimp only); first | (go_simp; done) | (simp [*]; done))
    clear hK K
    try simp only [List.getElem_toArray, List.getElem_cons_succ, List.getElem_cons_zero, Act.put, List.setIfInBounds_toArray, List.set_cons_zero, List.set_cons_succ]
    refine wpAnyH_ready (rs := [8]) (by kernel_rfl) (by simp) ?_
    refine AllReadyH.cons rfl (fun K hK => ?_) AllReadyH.nil
    go_simp
    refine hK.out _ _ ?_ (fun hHeld => ?_)
    · first | exact trivial | ((try dsimp only); first | (go_simp; done) | (simp [*]; done))
    clear hK K
    try simp only [List.getElem_toArray, List.getElem_cons_succ, List.getElem_cons_zero, Act.put, List.setIfInBounds_toArray, List.set_cons_zero, List.set_cons_succ]
    refine wpAnyH_ready (rs := [9]) (by kernel_rfl) (by simp) ?_
    refine AllReadyH.cons rfl (fun K hK => ?_) AllReadyH.nil
    go_simp
    refine hK.out _ _ ?_ (fun hHeld => ?_)
    · first | exact trivial | ((try dsimp only); first | (go_simp; done) | (simp [*]; done))
    clear hK K
    try simp only [List.getElem_toArray, List.getElem_cons_succ, List.getElem_cons_zero, Act.put, List.setIfInBounds_toArray, List.set_cons_zero, List.set_cons_succ]
    refine wpAnyH_take (i := 10) (v := ?_) rfl (by kernel_rfl) (by kernel_rfl) (by kernel_rfl) (fun _ _ _ h => h) (Or.inl ⟨by rfl, ?_⟩) (by assumption) ?_
    rotate_left
    · (intro w hSw; (try dsimp only at hSw); go_simp; try with_reducible rfl)
    try simp only [List.getElem_toArray, List.getElem_cons_succ, List.getElem_cons_zero, Act.put, List.setIfInBounds_toArray, List.set_cons_zero, List.set_cons_succ]
    refine wpAnyH_done (by kernel_rfl) ?_ _
    refine NoPanic.normal ?_
    go_wp2_with fail
    have HF5 := Lib.hid (HF12.out.keep HB5.out)
    refine bodyPost_ret (v := .tuple #[.agg #[.int .i64 r0, .bool true, .int .u64 0], .agg #[.int .i64 r1, .bool true, .int .u64 0], .int .i64 0]) (by simp [results, Tryd.results16, go_sem, cx0, cx1, cx2, cy0, cy1, cy2]) rfl ?_
    have hf0 := HF5.out.farp HXX.out (by decide) (by decide)
    have hf1 := HF5.out.farp HYY.out (by decide) (by decide)
    exact ((((((HF5.out.setp hf0 (by omega) _).setp hf0 (by omega) _).setp hf0 (by omega) _).setp hf1 (by omega) _).setp hf1 (by omega) _).setp hf1 (by omega) _).post (by rw [HA.out, HB.out]; exact ⟨rfl, rfl⟩)
  · obtain rfl := hv2 her
    rw [if_neg her] at HA HB
    have hne : (er != 0) = true := by simpa using her
    clear hv1 hv2 her HR0
    have cx0 : w3.cell? ⟨w.heap.size + 1, 0, none⟩ = some (.int .i64 0) := (cell_of_row _ _ 0 _ _ _ HX10.out).trans rfl
    have cx1 : w3.cell? ⟨w.heap.size + 1, 1, none⟩ = some (.bool false) := (cell_of_row _ _ 1 _ _ _ HX10.out).trans rfl
    have cx2 : w3.cell? ⟨w.heap.size + 1, 2, none⟩ = some (.int .u64 0) := (cell_of_row _ _ 2 _ _ _ HX10.out).trans rfl
    have lx := lt_of_heap HX10.out
    have fx : ∀ j, w3.frozen? ⟨w.heap.size + 1, j, none⟩ = false := fun j => frozen_of_row _ _ _ _ _ HX10.out
    have cy0 : w3.cell? ⟨w.heap.size + 1 + 1, 0, none⟩ = some (.int .i64 0) := (cell_of_row _ _ 0 _ _ _ HX11.out).trans rfl
    have cy1 : w3.cell? ⟨w.heap.size + 1 + 1, 1, none⟩ = some (.bool false) := (cell_of_row _ _ 1 _ _ _ HX11.out).trans rfl
    have cy2 : w3.cell? ⟨w.heap.size + 1 + 1, 2, none⟩ = some (.int .u64 0) := (cell_of_row _ _ 2 _ _ _ HX11.out).trans rfl
    have ly := lt_of_heap HX11.out
    have fy : ∀ j, w3.frozen? ⟨w.heap.size + 1 + 1, j, none⟩ = false := fun j => frozen_of_row _ _ _ _ _ HX11.out
    go_wp2_with fail
    refine bodyPost_ret (v := .tuple #[.agg #[.int .i64 0, .bool false, .int .u64 0], .agg #[.int .i64 0, .bool false, .int .u64 0], .int .i64 er]) (by simp [results, Tryd.results16, go_sem, cx0, cx1, cx2, cy0, cy1, cy2]) rfl ?_
    have hf0 := HF12.out.farp HX10.out (by decide) (by decide)
    have hf1 := HF12.out.farp HX11.out (by decide) (by decide)
    exact ((((((HF12.out.setp hf0 (by omega) _).setp hf0 (by omega) _).setp hf0 (by omega) _).setp hf1 (by omega) _).setp hf1 (by omega) _).setp hf1 (by omega) _).post (by rw [HA.out, HB.out]; exact ⟨rfl, rfl⟩)
/-- The bytes of a name as numbers. -/
def byB (nm : ByteArray) : List Int := nm.data.toList.map fun b => (b.toNat : Int)
theorem byB_len (nm : ByteArray) : (byB nm).length = nm.size := by unfold byB; rw [List.length_map, Array.length_toList]; rfl
theorem byB_at (nm : ByteArray) (k : Nat) (h : k < nm.size) : IntKind.u64.wrap ((nm[k]'h).toNat : Int) = (byB nm).getD k 0 := by
  have h1 : ((nm[k]'h).toNat : Int) < 256 := by have := (nm[k]'h).toNat_lt; omega
  have h2 : (byB nm).getD k 0 = ((nm[k]'h).toNat : Int) := by
    unfold byB
    obtain ⟨⟨l⟩⟩ := nm
    have hl : k < l.length := h
    simp only [List.getD_eq_getElem?_getD, List.getElem?_map, List.getElem?_eq_getElem hl, Option.map_some, Option.getD_some]
    rfl
  rw [h2, IntKind.wrap_u64]; omega
theorem byB_ok (nm : ByteArray) (k : Nat) : u64ok ((byB nm).getD k 0) := by
  unfold byB
  rw [List.getD_eq_getElem?_getD, List.getElem?_map]
  cases nm.data.toList[k]? with
  | none => simp [u64ok]
  | some b => have := b.toNat_lt; simp [u64ok]; omega
theorem pairN_okI {h x : Int} (h1 : i64ok h) (h2 : i64ok x) : (pairN h x).ok := ⟨by simp [pairN, i64ok], by simp [pairN, u64ok], h1, h2, by simp [pairN, i64ok]⟩
theorem pairN_parts (h x : Int) : pairN h x = ⟨8, 0, h, x, 0⟩ := rfl
theorem wordN_parts (x : Int) : wordN x = ⟨9, x, 0, 0, 0⟩ := rfl
theorem St.mkn {w0 wi : World} {b g bm cap lim : Nat} {L : List Nd} (h : St w0 wi b g bm cap lim L) (hs : Shp w0) (k n a b' c : Int) (hok : (⟨k, n, a, b', c⟩ : Nd).ok) : Calls Tryd.prog 18 #[.pointer (some ⟨b, 0, none⟩), .agg #[.int .i64 k, .int .u64 n, .int .i64 a, .int .i64 b', .int .i64 c]] wi (StPost w0 b g bm lim (mkL lim L ⟨k, n, a, b', c⟩) (.tuple #[.int .i64 (mkR lim L ⟨k, n, a, b', c⟩), .int .i64 (mkE lim L ⟨k, n, a, b', c⟩)]) wi) := by
  refine (mk_any b g bm cap lim L k n a b' c wi h.ar (h.shp hs) hok).mono ?_
  rintro e w' ⟨g', cap', rfl, hA, hg, hk⟩
  exact ⟨g', cap', rfl, h.step hA hg hk, hg, hk⟩
set_option maxRecDepth 100000 in
set_option maxHeartbeats 4000000 in
theorem spell_any (w0 : World) (b g bm cap lim : Nat) (L : List Nd) (nm : ByteArray) (w : World) (hA : St w0 w b g bm cap lim L) (hsh : Shp w0) (h100 : nm.size ≤ 100) :
    Calls Tryd.prog 23 #[.pointer (some ⟨b, 0, none⟩), .string nm] w (StPost w0 b g bm lim (zL lim L (byB nm) nm.size) (.tuple #[.int .i64 (zR lim L (byB nm) nm.size), .int .i64 (zE lim L (byB nm) nm.size)]) w) := by
  have HF0 : Hid (Fs w0 w w b g g bm cap lim L) := Lib.hid ⟨hA, .inl rfl, Kept.of (Below.refl _ _), hA.bel.size⟩
  have HSH := Lib.hid hsh
  clear hA hsh
  go_enter Tryd.func23, Tryd.ntmps23
  go_wp2_with fail
  go_loopg [6, 7, 8, 9, 12] nm.size (fun q u6 _ _ _ u12 wr => ∃ k : Nat, k + q = nm.size ∧ u12 = .int .i64 k ∧ u6 = .int .i64 (zR lim L (byB nm) k) ∧ zE lim L (byB nm) k = 0 ∧ i64ok (zR lim L (byB nm) k) ∧ ∃ g' cap', Fs w0 w wr b g g' bm cap' lim (zL lim L (byB nm) k))
  case atStart => exact ⟨0, by omega, rfl, rfl, rfl, (by simp [i64ok, zR, zA]), g, cap, HF0.out⟩
  case round =>
    obtain ⟨k, hkq, rfl, rfl, he1, hok1, g1, cap1, hF⟩ := hrel
    by_cases hlt : k < nm.size
    · have hlt' : (k : Int) < nm.size := by omega
      have hby := byB_at nm k hlt
      have HM1 := Lib.hid (hF.st.mkn HSH.out 9 ((byB nm).getD k 0) 0 0 0 ⟨by simp [i64ok], byB_ok nm k, by simp [i64ok], by simp [i64ok], by simp [i64ok]⟩)
      have HZW := Lib.hid (fun h => z_word (lim := lim) (L := L) (bs := byB nm) (n := k) he1 h)
      have HZP := Lib.hid (fun h => z_pair (lim := lim) (L := L) (bs := byB nm) (n := k) he1 h)
      have HR1 : Hid (i64ok (mkR lim (zL lim L (byB nm) k) (zW (byB nm) k))) := Lib.hid (mkR_ok hF.st.ar.len hF.st.ar.max)
      have HST := Lib.hid (fun (h : zE lim L (byB nm) (k + 1) ≠ 0) => z_stuck h nm.size (by omega))
      have HF := Lib.hid hF
      have HO1 := Lib.hid hok1
      unfold zQ zM zW at HZW HZP
      unfold zW at HR1
      rw [wordN_parts] at HZW HZP HR1
      simp only [pairN_parts] at HZP
      clear hF hok1 he1 HF0
      generalize (byB nm).getD k 0 = bt at *
      go_wp2_with fail
      clear hby
      generalize zR lim L (byB nm) k = z at *
      generalize zL lim L (byB nm) k = M at *
      generalize mkE lim M ⟨9, bt, 0, 0, 0⟩ = e1 at *
      generalize mkR lim M ⟨9, bt, 0, 0, 0⟩ = r1 at *
      generalize mkL lim M ⟨9, bt, 0, 0, 0⟩ = M1 at *
      go_at_call 18
      refine HM1.out.mono ?_
      rintro e w2 ⟨g2, cap2, rfl, hA, hg, hk⟩
      have HF2 := Lib.hid (HF.out.step hA hg hk)
      clear hA hg hk HF HM1
      by_cases h1 : e1 = 0
      · have HZ := Lib.hid (HZP.out h1)
        clear HZP HZW
        subst h1
        have HM2 := Lib.hid (HF2.out.st.mkn HSH.out 8 0 z r1 0 (pairN_okI HO1.out HR1.out))
        have HR2 : Hid (i64ok (mkR lim M1 ⟨8, 0, z, r1, 0⟩)) := Lib.hid (mkR_ok HF2.out.st.ar.len HF2.out.st.ar.max)
        have HRE : Hid (mkE lim M1 ⟨8, 0, z, r1, 0⟩ ≠ 0 → mkR lim M1 ⟨8, 0, z, r1, 0⟩ = 0) := Lib.hid mkR_err
        generalize mkE lim M1 ⟨8, 0, z, r1, 0⟩ = e2 at *
        generalize mkR lim M1 ⟨8, 0, z, r1, 0⟩ = r2 at *
        generalize mkL lim M1 ⟨8, 0, z, r1, 0⟩ = M2 at *
        go_wp2_with fail
        go_at_call 18
        refine HM2.out.mono ?_
        rintro e w3 ⟨g3, cap3, rfl, hA, hg, hk⟩
        have HF3 := Lib.hid (HF2.out.step hA hg hk)
        clear hA hg hk HF2 HM2
        by_cases h2 : e2 = 0
        · have HE2 := Lib.hid h2
          subst h2
          clear HRE HST
          go_wp2_with fail
          go_roundg (nm.size - (k + 1))
          case rel => exact ⟨k + 1, by omega, by go_num, by rw [HZ.out.2.1], HZ.out.2.2, by rw [HZ.out.2.1]; exact HR2.out, g3, cap3, by rw [HZ.out.1]; exact HF3.out⟩
          case measure => omega
        · have hne : (e2 != 0) = true := by simpa using h2
          have HS := Lib.hid (HST.out (by rw [HZ.out.2.2]; exact h2))
          have HR0 := Lib.hid (HRE.out h2)
          clear HST HRE h2
          go_wp2_with fail
          go_ret2
          exact HF3.out.post (by rw [HS.out.1, HS.out.2.1, HS.out.2.2, HZ.out.1, HZ.out.2.1, HZ.out.2.2, HR0.out]; exact ⟨by go_simp, rfl⟩)
      · have HZ := Lib.hid (HZW.out h1)
        have hne : (e1 != 0) = true := by simpa using h1
        have HS := Lib.hid (HST.out (by rw [HZ.out.2.2]; exact h1))
        clear HZP HZW HST h1
        go_wp2_with fail
        go_ret2
        exact HF2.out.post (by rw [HS.out.1, HS.out.2.1, HS.out.2.2, HZ.out.1, HZ.out.2.1, HZ.out.2.2]; exact ⟨by go_simp, rfl⟩)
    · obtain rfl : k = nm.size := by omega
      have hlt' : ¬ (nm.size : Int) < nm.size := by omega
      have HF := Lib.hid hF
      have HE1 := Lib.hid he1
      clear hF he1 hok1 HF0
      go_wp2_with fail
      go_ret2
      exact HF.out.post (by rw [HE1.out]; exact ⟨by go_simp, rfl⟩)
theorem zR_ok {lim : Nat} {L : List Nd} {bs : List Int} {n : Nat} (h : L.length ≤ lim) (hm : lim ≤ 65536) : i64ok (zR lim L bs n) := by
  have hl : ∀ m, (zL lim L bs m).length ≤ lim := by
    intro m
    induction m with
    | zero => exact h
    | succ m ih =>
      by_cases h0 : zE lim L bs m = 0
      · by_cases h1 : mkE lim (zL lim L bs m) (zW bs m) = 0
        · rw [(z_pair h0 h1).1]; exact (mk_len (mk_len ih).2.1).2.1
        · rw [(z_word h0 h1).1]; exact (mk_len ih).2.1
      · rw [(z_stuck h0 (m + 1) (by omega)).1]; exact ih
  induction n with
  | zero => simp [i64ok, zR, zA]
  | succ m ih =>
    by_cases h0 : zE lim L bs m = 0
    · by_cases h1 : mkE lim (zL lim L bs m) (zW bs m) = 0
      · rw [(z_pair h0 h1).2.1]; exact mkR_ok (mk_len (hl m)).2.1 hm
      · rw [(z_word h0 h1).2.1]; simp [i64ok]
    · rw [(z_stuck h0 (m + 1) (by omega)).2.1]; exact ih
set_option maxRecDepth 100000 in
set_option maxHeartbeats 4000000 in
theorem begin_any (w0 : World) (b g bm cap lim : Nat) (L : List Nd) (nm : ByteArray) (x : Int) (w : World) (hA : St w0 w b g bm cap lim L) (hsh : Shp w0) (hx : i64ok x) :
    Calls Tryd.prog 9 #[.pointer (some ⟨b, 0, none⟩), .string nm, .int .i64 x] w (StPost w0 b g bm lim (bgL lim L (byB nm) x) (.tuple #[syV (bgS lim L (byB nm) x), .int .i64 (bgE lim L (byB nm) x)]) w) := by
  have HF0 : Hid (Fs w0 w w b g g bm cap lim L) := Lib.hid ⟨hA, .inl rfl, Kept.of (Below.refl _ _), hA.bel.size⟩
  by_cases h100 : nm.size ≤ 100
  · have h100i : ¬ (100 : Int) < nm.size := by omega
    have HH := Lib.hid (fun (wi : World) (gg c : Nat) (h : Ar wi b g bm cap lim L) (h0 : wi.cell? ⟨gg, 0, none⟩ = some (.int .i64 x)) => has1_any b _ L.length cap gg c x wi h.c0 h0)
    cases hb : hasB L.length x
    · rw [hb] at HH
      have HEL : Hid (bgL lim L (byB nm) x = L ∧ bgE lim L (byB nm) x = 1 ∧ bgS lim L (byB nm) x = sZ) := Lib.hid (by unfold bgL bgE bgS bgB; rw [hb, Bool.and_false]; exact ⟨rfl, rfl, rfl⟩)
      clear hb h100 hA hsh hx
      unfold syV
      go_enter Tryd.func9, Tryd.ntmps9
      have HB101 : Hid (Below w.heap.size w ((w.alloc (.cells #[.int .i64 0, .int .i64 0, .int .i64 0, .bool false, .int .u64 0] 35)).alloc (.cells #[.int .i64 x] 3))) := Lib.hid (((Below.refl _ _).alloc (Nat.le_refl _) _).alloc (by simp) _)
      have HX102 : Hid (((w.alloc (.cells #[.int .i64 0, .int .i64 0, .int .i64 0, .bool false, .int .u64 0] 35)).alloc (.cells #[.int .i64 x] 3)).heap[w.heap.size]? = some (.cells #[.int .i64 0, .int .i64 0, .int .i64 0, .bool false, .int .u64 0] 35 (0, 0))) := Lib.hid (by rw [Below.heap_alloc _ _ _ (by simp <;> omega)]; have q := heap_alloc_new w (.cells #[.int .i64 0, .int .i64 0, .int .i64 0, .bool false, .int .u64 0] 35); exact q)
      have HX103 : Hid (((w.alloc (.cells #[.int .i64 0, .int .i64 0, .int .i64 0, .bool false, .int .u64 0] 35)).alloc (.cells #[.int .i64 x] 3)).heap[w.heap.size + 1]? = some (.cells #[.int .i64 x] 3 (0, 0))) := Lib.hid (by have q := heap_alloc_new (w.alloc (.cells #[.int .i64 0, .int .i64 0, .int .i64 0, .bool false, .int .u64 0] 35)) (.cells #[.int .i64 x] 3); rwa [World.size_alloc] at q)
      have HF104 := Lib.hid (HF0.out.keep HB101.out)
      have HL105 : Hid (w.heap.size ≤ w.heap.size) := Lib.hid HF0.out.kp.size
      clear HF0 HB101
      go_wp2_with fail
      generalize ((w.alloc (.cells #[.int .i64 0, .int .i64 0, .int .i64 0, .bool false, .int .u64 0] 35)).alloc (.cells #[.int .i64 x] 3)) = W106 at *
      have cv0 : W106.cell? ⟨w.heap.size + 1, 0, none⟩ = some (.int .i64 x) := (cell_of_row _ _ 0 _ _ _ HX103.out).trans rfl
      have lv := lt_of_heap HX103.out
      have fv : ∀ j, W106.frozen? ⟨w.heap.size + 1, j, none⟩ = false := fun j => frozen_of_row _ _ _ _ _ HX103.out
      go_at_call 10
      refine (HH.out _ _ _ HF104.out.st.ar cv0).mono ?_
      rintro e w3 ⟨rfl, rfl⟩
      clear HH
      clear cv0 lv fv
      have cz0 : W106.cell? ⟨w.heap.size, 0, none⟩ = some (.int .i64 0) := (cell_of_row _ _ 0 _ _ _ HX102.out).trans rfl
      have cz1 : W106.cell? ⟨w.heap.size, 1, none⟩ = some (.int .i64 0) := (cell_of_row _ _ 1 _ _ _ HX102.out).trans rfl
      have cz2 : W106.cell? ⟨w.heap.size, 2, none⟩ = some (.int .i64 0) := (cell_of_row _ _ 2 _ _ _ HX102.out).trans rfl
      have cz3 : W106.cell? ⟨w.heap.size, 3, none⟩ = some (.bool false) := (cell_of_row _ _ 3 _ _ _ HX102.out).trans rfl
      have cz4 : W106.cell? ⟨w.heap.size, 4, none⟩ = some (.int .u64 0) := (cell_of_row _ _ 4 _ _ _ HX102.out).trans rfl
      have lz := lt_of_heap HX102.out
      have fz : ∀ j, W106.frozen? ⟨w.heap.size, j, none⟩ = false := fun j => frozen_of_row _ _ _ _ _ HX102.out
      go_wp2_with fail
      refine bodyPost_ret (v := .tuple #[.agg #[.int .i64 0, .int .i64 0, .int .i64 0, .bool false, .int .u64 0], .int .i64 1]) (by simp [results, Tryd.results9, go_sem, cz0, cz1, cz2, cz3, cz4]) rfl ?_
      have hf0 := HF104.out.farp HX102.out (by decide) (by decide)
      exact (((((HF104.out.setp hf0 (Nat.le_refl _) _).setp hf0 (Nat.le_refl _) _).setp hf0 (Nat.le_refl _) _).setp hf0 (Nat.le_refl _) _).setp hf0 (Nat.le_refl _) _).post (by rw [HEL.out.1, HEL.out.2.1, HEL.out.2.2]; exact ⟨rfl, rfl⟩)
    · rw [hb] at HH
      have HB : Hid (bgB L.length (byB nm) x = true) := Lib.hid (by unfold bgB; rw [hb, byB_len, decide_eq_true h100]; rfl)
      have HEL : Hid (bgL lim L (byB nm) x = if zE lim L (byB nm) nm.size = 0 then mhL lim (zL lim L (byB nm) nm.size) ⟨zR lim L (byB nm) nm.size, zR lim L (byB nm) nm.size, cZ⟩ x else zL lim L (byB nm) nm.size) := Lib.hid (by unfold bgL bgT; rw [if_pos HB.out, byB_len])
      have HEE : Hid (bgE lim L (byB nm) x = if zE lim L (byB nm) nm.size = 0 then mhE lim (zL lim L (byB nm) nm.size) ⟨zR lim L (byB nm) nm.size, zR lim L (byB nm) nm.size, cZ⟩ x else zE lim L (byB nm) nm.size) := Lib.hid (by unfold bgE bgT; rw [if_pos HB.out, byB_len])
      have HES : Hid (bgS lim L (byB nm) x = if zE lim L (byB nm) nm.size = 0 then mhS lim (zL lim L (byB nm) nm.size) ⟨zR lim L (byB nm) nm.size, zR lim L (byB nm) nm.size, cZ⟩ x else sZ) := Lib.hid (by unfold bgS bgT; rw [if_pos HB.out, byB_len])
      have HZK : Hid (i64ok (zR lim L (byB nm) nm.size)) := Lib.hid (zR_ok hA.ar.len hA.ar.max)
      have HSP := Lib.hid (fun (wi : World) (h : St w0 wi b g bm cap lim L) => spell_any w0 b g bm cap lim L nm wi h hsh h100)
      have HSH := Lib.hid hsh
      have HXK := Lib.hid hx
      clear hb h100 hA hsh hx HB
      generalize zL lim L (byB nm) nm.size = M at *
      generalize zR lim L (byB nm) nm.size = z at *
      generalize zE lim L (byB nm) nm.size = e1 at *
      have HMH := Lib.hid (fun (wi : World) (g2 cap2 : Nat) (h : St w0 wi b g2 bm cap2 lim M) => h.mixHash HSH.out ⟨z, z, cZ⟩ x HZK.out HXK.out)
      generalize mhL lim M ⟨z, z, cZ⟩ x = M2 at *
      generalize mhE lim M ⟨z, z, cZ⟩ x = e2 at *
      generalize mhS lim M ⟨z, z, cZ⟩ x = S2 at *
      unfold syV cZ at HMH
      unfold syV
      go_enter Tryd.func9, Tryd.ntmps9
      have HB201 : Hid (Below w.heap.size w ((w.alloc (.cells #[.int .i64 0, .int .i64 0, .int .i64 0, .bool false, .int .u64 0] 35)).alloc (.cells #[.int .i64 x] 3))) := Lib.hid (((Below.refl _ _).alloc (Nat.le_refl _) _).alloc (by simp) _)
      have HX202 : Hid (((w.alloc (.cells #[.int .i64 0, .int .i64 0, .int .i64 0, .bool false, .int .u64 0] 35)).alloc (.cells #[.int .i64 x] 3)).heap[w.heap.size]? = some (.cells #[.int .i64 0, .int .i64 0, .int .i64 0, .bool false, .int .u64 0] 35 (0, 0))) := Lib.hid (by rw [Below.heap_alloc _ _ _ (by simp <;> omega)]; have q := heap_alloc_new w (.cells #[.int .i64 0, .int .i64 0, .int .i64 0, .bool false, .int .u64 0] 35); exact q)
      have HX203 : Hid (((w.alloc (.cells #[.int .i64 0, .int .i64 0, .int .i64 0, .bool false, .int .u64 0] 35)).alloc (.cells #[.int .i64 x] 3)).heap[w.heap.size + 1]? = some (.cells #[.int .i64 x] 3 (0, 0))) := Lib.hid (by have q := heap_alloc_new (w.alloc (.cells #[.int .i64 0, .int .i64 0, .int .i64 0, .bool false, .int .u64 0] 35)) (.cells #[.int .i64 x] 3); rwa [World.size_alloc] at q)
      have HF204 := Lib.hid (HF0.out.keep HB201.out)
      have HL205 : Hid (w.heap.size ≤ w.heap.size) := Lib.hid HF0.out.kp.size
      clear HF0 HB201
      go_wp2_with fail
      generalize ((w.alloc (.cells #[.int .i64 0, .int .i64 0, .int .i64 0, .bool false, .int .u64 0] 35)).alloc (.cells #[.int .i64 x] 3)) = W206 at *
      have cv0 : W206.cell? ⟨w.heap.size + 1, 0, none⟩ = some (.int .i64 x) := (cell_of_row _ _ 0 _ _ _ HX203.out).trans rfl
      have lv := lt_of_heap HX203.out
      have fv : ∀ j, W206.frozen? ⟨w.heap.size + 1, j, none⟩ = false := fun j => frozen_of_row _ _ _ _ _ HX203.out
      go_at_call 10
      refine (HH.out _ _ _ HF204.out.st.ar cv0).mono ?_
      rintro e w3 ⟨rfl, rfl⟩
      clear HH
      clear cv0 lv fv
      go_wp2_with fail
      go_at_call 23
      refine (HSP.out _ HF204.out.st).mono ?_
      rintro e w4 ⟨g4, cap4, rfl, hA, hg, hk⟩
      have HX208 := Lib.hid (HF204.out.st.ar.boxKept hk HX202.out (by decide) (by decide))
      have HX209 := Lib.hid (HF204.out.st.ar.boxKept hk HX203.out (by decide) (by decide))
      have HF210 := Lib.hid (HF204.out.step hA hg hk)
      clear HX202 HX203 HF204 hA hg hk HSP
      by_cases her : e1 = 0
      · rw [if_pos her] at HEL HEE HES
        subst her
        go_wp2_with fail
        go_at_call 11
        refine (HMH.out _ _ _ HF210.out.st).mono ?_
        rintro e w5 ⟨g5, cap5, rfl, hA, hg, hk⟩
        have HX211 := Lib.hid (HF210.out.st.ar.boxKept hk HX208.out (by decide) (by decide))
        have HX212 := Lib.hid (HF210.out.st.ar.boxKept hk HX209.out (by decide) (by decide))
        have HF213 := Lib.hid (HF210.out.step hA hg hk)
        clear HX208 HX209 HF210 hA hg hk HMH
        have cz0 : w5.cell? ⟨w.heap.size, 0, none⟩ = some (.int .i64 0) := (cell_of_row _ _ 0 _ _ _ HX211.out).trans rfl
        have cz1 : w5.cell? ⟨w.heap.size, 1, none⟩ = some (.int .i64 0) := (cell_of_row _ _ 1 _ _ _ HX211.out).trans rfl
        have cz2 : w5.cell? ⟨w.heap.size, 2, none⟩ = some (.int .i64 0) := (cell_of_row _ _ 2 _ _ _ HX211.out).trans rfl
        have cz3 : w5.cell? ⟨w.heap.size, 3, none⟩ = some (.bool false) := (cell_of_row _ _ 3 _ _ _ HX211.out).trans rfl
        have cz4 : w5.cell? ⟨w.heap.size, 4, none⟩ = some (.int .u64 0) := (cell_of_row _ _ 4 _ _ _ HX211.out).trans rfl
        have lz := lt_of_heap HX211.out
        have fz : ∀ j, w5.frozen? ⟨w.heap.size, j, none⟩ = false := fun j => frozen_of_row _ _ _ _ _ HX211.out
        go_wp2_with fail
        refine bodyPost_ret (v := .tuple #[.agg #[.int .i64 S2.ck, .int .i64 S2.h, .int .i64 S2.c.k, .bool S2.c.h, .int .u64 S2.c.n], .int .i64 e2]) (by simp [results, Tryd.results9, go_sem, cz0, cz1, cz2, cz3, cz4]) rfl ?_
        have hf0 := HF213.out.farp HX211.out (by decide) (by decide)
        exact (((((HF213.out.setp hf0 (Nat.le_refl _) _).setp hf0 (Nat.le_refl _) _).setp hf0 (Nat.le_refl _) _).setp hf0 (Nat.le_refl _) _).setp hf0 (Nat.le_refl _) _).post (by rw [HEL.out, HEE.out, HES.out]; exact ⟨rfl, rfl⟩)
      · rw [if_neg her] at HEL HEE HES
        have hne : (e1 != 0) = true := by simpa using her
        clear her
        have cz0 : w4.cell? ⟨w.heap.size, 0, none⟩ = some (.int .i64 0) := (cell_of_row _ _ 0 _ _ _ HX208.out).trans rfl
        have cz1 : w4.cell? ⟨w.heap.size, 1, none⟩ = some (.int .i64 0) := (cell_of_row _ _ 1 _ _ _ HX208.out).trans rfl
        have cz2 : w4.cell? ⟨w.heap.size, 2, none⟩ = some (.int .i64 0) := (cell_of_row _ _ 2 _ _ _ HX208.out).trans rfl
        have cz3 : w4.cell? ⟨w.heap.size, 3, none⟩ = some (.bool false) := (cell_of_row _ _ 3 _ _ _ HX208.out).trans rfl
        have cz4 : w4.cell? ⟨w.heap.size, 4, none⟩ = some (.int .u64 0) := (cell_of_row _ _ 4 _ _ _ HX208.out).trans rfl
        have lz := lt_of_heap HX208.out
        have fz : ∀ j, w4.frozen? ⟨w.heap.size, j, none⟩ = false := fun j => frozen_of_row _ _ _ _ _ HX208.out
        go_wp2_with fail
        refine bodyPost_ret (v := .tuple #[.agg #[.int .i64 0, .int .i64 0, .int .i64 0, .bool false, .int .u64 0], .int .i64 e1]) (by simp [results, Tryd.results9, go_sem, cz0, cz1, cz2, cz3, cz4]) rfl ?_
        have hf0 := HF210.out.farp HX208.out (by decide) (by decide)
        exact (((((HF210.out.setp hf0 (Nat.le_refl _) _).setp hf0 (Nat.le_refl _) _).setp hf0 (Nat.le_refl _) _).setp hf0 (Nat.le_refl _) _).setp hf0 (Nat.le_refl _) _).post (by rw [HEL.out, HEE.out, HES.out]; exact ⟨rfl, rfl⟩)
  · have h100i : (100 : Int) < nm.size := by omega
    have HB : Hid (bgB L.length (byB nm) x = false) := Lib.hid (by unfold bgB; rw [byB_len, decide_eq_false h100]; rfl)
    have HEL : Hid (bgL lim L (byB nm) x = L ∧ bgE lim L (byB nm) x = 1 ∧ bgS lim L (byB nm) x = sZ) := Lib.hid (by unfold bgL bgE bgS; rw [HB.out]; exact ⟨rfl, rfl, rfl⟩)
    clear h100 hA hsh hx
    unfold syV
    go_enter Tryd.func9, Tryd.ntmps9
    go_wp2_with fail
    refine bodyPost_ret (v := .tuple #[.agg #[.int .i64 0, .int .i64 0, .int .i64 0, .bool false, .int .u64 0], .int .i64 1]) (by simp [results, Tryd.results9, go_sem]) rfl ?_
    exact (HF0.out.keep ((Below.refl _ _).alloc (Nat.le_refl _) _)).post (by rw [HEL.out.1, HEL.out.2.1, HEL.out.2.2]; exact ⟨rfl, rfl⟩)
end Go.Proofs.YtgjhhipkfglpgaaDoor
