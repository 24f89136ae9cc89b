/- The walk of SymSplits: what comes of a split hangs on the chaining key alone. -/
import Derived.Test.YtgjhhipkfglpgaaDoorKj
import Derived.Test.YtgjhhipkfglpgaaDoorKi
namespace Go.Proofs.YtgjhhipkfglpgaaDoor
open Go.RowKit

set_option maxRecDepth 100000 in
set_option maxHeartbeats 1000000 in
theorem splits_long (s : Option Addr) (m c : Nat) (ck h : Int) (hm : 30 < m) (w : World) (hs : Shp w) : Calls Tryd.prog 6 #[.slice s m c, .int .i64 ck, .int .i64 h] w fun e w' => e = .returned (.bool true) ∧ Below w.heap.size w w' := by
  have HA := Lib.hid (awake11_any w hs)
  have h30 : (30 : Int) < m := by omega
  clear hs hm
  go_enter Tryd.func6, Tryd.ntmps6
  go_wp2_with (go_at_call 7; refine HA.out.mono ?_; rintro e w1 ⟨rfl, hb1⟩)
  go_ret
  exact ⟨rfl, hb1⟩
set_option maxRecDepth 100000 in
set_option maxHeartbeats 4000000 in
theorem splits_good (s : Option Addr) (cc : Nat) (ns : List Nd) (ck h : Int) (hn : ns.length ≤ 30) (h1 : i64ok ck) (w : World) (hs : Shp w) (hB : BuiltAt w (.slice s ns.length cc) ns) : Calls Tryd.prog 6 #[.slice s ns.length cc, .int .i64 ck, .int .i64 h] w fun e w' => e = .returned (.bool true) ∧ Below w.heap.size w w' := by
  have HB0 := hB 200 200 (by decide) w (Below.refl _ _)
  unfold BuiltPost at HB0
  have HB := Lib.hid HB0; clear HB0
  have HSH := Lib.hid hs
  have HAw := Lib.hid (fun w1 (h : Below w.heap.size w w1) => awake11_any w1 (hs.below h))
  obtain ⟨L, hLe⟩ : ∃ L, L = bld 200 ns := ⟨_, rfl⟩
  rw [← hLe] at HB
  have h30 : (ns.length : Int) ≤ 30 := by omega
  have HCK := Lib.hid h1
  have HLN : Hid (L.length ≤ 31) := Lib.hid (by rw [hLe]; have := bld_len11 (lim := 200) ns; omega)
  clear hs hB hLe h1 hn
  go_enter Tryd.func6, Tryd.ntmps6
  go_wp2_with fail
  go_at_call 8
  refine HB.out.mono ?_
  rintro e w1 ⟨b, g, bm, cap, gr, capr, rfl, hP⟩
  have HF1 : Hid (Fs w w w1 b g g bm cap 200 L) := Lib.hid ⟨hP.st, .inl rfl, Kept.of hP.st.bel, Nat.le_refl _⟩
  clear hP HB
  have HSP := Lib.hid (fun (M : List Nd) (wi : World) (g2 cap2 : Nat) (h9 : St w wi b g2 bm cap2 200 M) (s : Sf) (hc : i64ok s.ck) => split_any w b g2 bm cap2 200 M s wi h9 HSH.out hc)
  cases hb : hasB L.length ck
  · obtain ⟨a1, a2⟩ := y_bad (lim := 200) (x := 0) hb 1
    have b1 : spA 200 L ck = cZ ∧ spB 200 L ck = cZ := by unfold spA spB; rw [if_neg (by rw [a2]; decide), if_neg (by rw [a2]; decide)]; exact ⟨rfl, rfl⟩
    have HS1 := Lib.hid (fun wi g2 cap2 h9 => HSP.out L wi g2 cap2 h9 ⟨ck, h, cZ⟩ HCK.out)
    have HS2 := Lib.hid (fun wi g2 cap2 h9 => HSP.out L wi g2 cap2 h9 ⟨ck, 0, ⟨h, true, 0⟩⟩ HCK.out)
    simp only at HS1 HS2
    rw [b1.1, b1.2, a1, a2] at HS1
    rw [b1.1, b1.2, a1, a2] at HS2
    unfold syV cfV cZ at HS1 HS2
    have HMB := Lib.hid hb
    clear b1 a1 a2 hb HSP
    have HB11 : Hid (Below w1.heap.size w1 (w1.alloc (.cells #[.int .i64 200, .slice (some ⟨gr, 0, none⟩) L.length capr] 28))) := Lib.hid ((Below.refl _ _).alloc (Nat.le_refl _) _)
    have HX12 : Hid ((w1.alloc (.cells #[.int .i64 200, .slice (some ⟨gr, 0, none⟩) L.length capr] 28)).heap[w1.heap.size]? = some (.cells #[.int .i64 200, .slice (some ⟨gr, 0, none⟩) L.length capr] 28 (0, 0))) := Lib.hid (by have q := heap_alloc_new w1 (.cells #[.int .i64 200, .slice (some ⟨gr, 0, none⟩) L.length capr] 28); exact q)
    have HF13 := Lib.hid (HF1.out.keep HB11.out)
    have HL14 : Hid (w.heap.size ≤ w1.heap.size) := Lib.hid HF1.out.kp.size
    clear HF1 HB11
    go_wp2_with fail
    generalize (w1.alloc (.cells #[.int .i64 200, .slice (some ⟨gr, 0, none⟩) L.length capr] 28)) = W15 at *
    generalize w1.heap.size = p16 at *
    go_at_call 16
    refine (HS1.out _ _ _ HF13.out.st).mono ?_
    rintro e w2 ⟨g2, cap2, rfl, hA, hg, hk⟩
    have HX17 := Lib.hid (HF13.out.st.ar.boxKept hk HX12.out (by decide) (by decide))
    have HF18 := Lib.hid (HF13.out.step hA hg hk)
    clear HX12 HF13 hA hg hk HS1
    have HB19 : Hid (Below w2.heap.size w2 ((w2.alloc (.cells #[.int .i64 0, .bool false, .int .u64 0] 33)).alloc (.cells #[.int .i64 0, .bool false, .int .u64 0] 33))) := Lib.hid (((Below.refl _ _).alloc (Nat.le_refl _) _).alloc (by simp) _)
    have HX20 := Lib.hid (below_box HB19.out HX17.out)
    have HX21 : Hid (((w2.alloc (.cells #[.int .i64 0, .bool false, .int .u64 0] 33)).alloc (.cells #[.int .i64 0, .bool false, .int .u64 0] 33)).heap[w2.heap.size]? = some (.cells #[.int .i64 0, .bool false, .int .u64 0] 33 (0, 0))) := Lib.hid (by rw [Below.heap_alloc _ _ _ (by simp <;> omega)]; have q := heap_alloc_new w2 (.cells #[.int .i64 0, .bool false, .int .u64 0] 33); exact q)
    have HX22 : Hid (((w2.alloc (.cells #[.int .i64 0, .bool false, .int .u64 0] 33)).alloc (.cells #[.int .i64 0, .bool false, .int .u64 0] 33)).heap[w2.heap.size + 1]? = some (.cells #[.int .i64 0, .bool false, .int .u64 0] 33 (0, 0))) := Lib.hid (by have q := heap_alloc_new (w2.alloc (.cells #[.int .i64 0, .bool false, .int .u64 0] 33)) (.cells #[.int .i64 0, .bool false, .int .u64 0] 33); rwa [World.size_alloc] at q)
    have HF23 := Lib.hid (HF18.out.keep HB19.out)
    have HL24 : Hid (w.heap.size ≤ w2.heap.size) := Lib.hid HF18.out.kp.size
    clear HX17 HF18 HB19
    go_wp2_with fail
    generalize ((w2.alloc (.cells #[.int .i64 0, .bool false, .int .u64 0] 33)).alloc (.cells #[.int .i64 0, .bool false, .int .u64 0] 33)) = W27 at *
    generalize w2.heap.size = p28 at *
    have HCN := Lib.hid (cnew_any h W27)
    unfold cfV at HCN
    go_at_call 19
    refine (HCN.out).mono ?_
    rintro e w3 ⟨rfl, hb⟩
    have HX29 := Lib.hid (below_box hb HX20.out)
    have HX30 := Lib.hid (below_box hb HX21.out)
    have HX31 := Lib.hid (below_box hb HX22.out)
    have HF32 := Lib.hid (HF23.out.keep hb)
    clear HX20 HX21 HX22 HF23 hb HCN
    go_wp2_with fail
    go_at_call 16
    refine (HS2.out _ _ _ HF32.out.st).mono ?_
    rintro e w4 ⟨g4, cap4, rfl, hA, hg, hk⟩
    have HX33 := Lib.hid (HF32.out.st.ar.boxKept hk HX29.out (by decide) (by decide))
    have HX34 := Lib.hid (HF32.out.st.ar.boxKept hk HX30.out (by decide) (by decide))
    have HX35 := Lib.hid (HF32.out.st.ar.boxKept hk HX31.out (by decide) (by decide))
    have HF36 := Lib.hid (HF32.out.step hA hg hk)
    clear HX29 HX30 HX31 HF32 hA hg hk HS2
    have HB37 : Hid (Below w4.heap.size w4 (((w4.alloc (.cells #[.int .i64 0, .bool false, .int .u64 0] 33)).alloc (.cells #[.int .i64 0, .bool false, .int .u64 0] 33)).alloc (.cells #[.int .i64 ck] 3))) := Lib.hid ((((Below.refl _ _).alloc (Nat.le_refl _) _).alloc (by simp) _).alloc (by simp <;> omega) _)
    have HX38 := Lib.hid (below_box HB37.out HX33.out)
    have HX39 := Lib.hid (below_box HB37.out HX34.out)
    have HX40 := Lib.hid (below_box HB37.out HX35.out)
    have HX41 : Hid ((((w4.alloc (.cells #[.int .i64 0, .bool false, .int .u64 0] 33)).alloc (.cells #[.int .i64 0, .bool false, .int .u64 0] 33)).alloc (.cells #[.int .i64 ck] 3)).heap[w4.heap.size]? = some (.cells #[.int .i64 0, .bool false, .int .u64 0] 33 (0, 0))) := Lib.hid (by rw [Below.heap_alloc _ _ _ (by simp <;> omega)]; rw [Below.heap_alloc _ _ _ (by simp <;> omega)]; have q := heap_alloc_new w4 (.cells #[.int .i64 0, .bool false, .int .u64 0] 33); exact q)
    have HX42 : Hid ((((w4.alloc (.cells #[.int .i64 0, .bool false, .int .u64 0] 33)).alloc (.cells #[.int .i64 0, .bool false, .int .u64 0] 33)).alloc (.cells #[.int .i64 ck] 3)).heap[w4.heap.size + 1]? = some (.cells #[.int .i64 0, .bool false, .int .u64 0] 33 (0, 0))) := Lib.hid (by rw [Below.heap_alloc _ _ _ (by simp <;> omega)]; have q := heap_alloc_new (w4.alloc (.cells #[.int .i64 0, .bool false, .int .u64 0] 33)) (.cells #[.int .i64 0, .bool false, .int .u64 0] 33); rwa [World.size_alloc] at q)
    have HX43 : Hid ((((w4.alloc (.cells #[.int .i64 0, .bool false, .int .u64 0] 33)).alloc (.cells #[.int .i64 0, .bool false, .int .u64 0] 33)).alloc (.cells #[.int .i64 ck] 3)).heap[w4.heap.size + 1 + 1]? = some (.cells #[.int .i64 ck] 3 (0, 0))) := Lib.hid (by have q := heap_alloc_new ((w4.alloc (.cells #[.int .i64 0, .bool false, .int .u64 0] 33)).alloc (.cells #[.int .i64 0, .bool false, .int .u64 0] 33)) (.cells #[.int .i64 ck] 3); rwa [World.size_alloc, World.size_alloc] at q)
    have HF44 := Lib.hid (HF36.out.keep HB37.out)
    have HL45 : Hid (w.heap.size ≤ w4.heap.size) := Lib.hid HF36.out.kp.size
    clear HX33 HX34 HX35 HF36 HB37
    go_wp2_with fail
    generalize (((w4.alloc (.cells #[.int .i64 0, .bool false, .int .u64 0] 33)).alloc (.cells #[.int .i64 0, .bool false, .int .u64 0] 33)).alloc (.cells #[.int .i64 ck] 3)) = W55 at *
    generalize w4.heap.size = p56 at *
    have cv0 : W55.cell? ⟨p56 + 1 + 1, 0, none⟩ = some (.int .i64 ck) := (cell_of_row _ _ 0 _ _ _ HX43.out).trans rfl
    have lv := lt_of_heap HX43.out
    have fv : ∀ j, W55.frozen? ⟨p56 + 1 + 1, j, none⟩ = false := fun j => frozen_of_row _ _ _ _ _ HX43.out
    go_at_call 10
    refine (has1_any b _ L.length _ _ _ ck _ HF44.out.st.ar.c0 cv0).mono ?_
    rintro e w5 ⟨rfl, rfl⟩
    rw [HMB.out]
    clear cv0 lv fv
    have HA9 := Lib.hid (HAw.out _ HF44.out.st.bel)
    go_wp2_with fail
    go_at_call 7
    refine HA9.out.mono ?_
    rintro e w9 ⟨rfl, hb9⟩
    go_wp2_with fail
    go_ret
    exact ⟨rfl, (HF44.out.st.keep hb9).bel⟩
  · have hz : hasB L.length 0 = true := hasB_iff.2 ⟨by omega, by have := HF1.out.st.ar.wf.toWFp.pos; omega⟩
    obtain ⟨e0, wM, ⟨T, hT⟩, -, hi⟩ := y_good (lim := 200) (L := L) (ck := ck) (x := 0) HF1.out.st.ar.wf (by decide) hb hz 2 (by omega) (by have := HLN.out; omega)
    obtain ⟨a1, a2, a3⟩ := y_again (lim := 200) (L := L) (P := yL 200 L ck 0 2) (k := 2) (r := yR 200 L ck 0) wM hi 2 (Nat.le_refl _)
    have hM : hasB (yL 200 L ck 0 2).length ck = true := by rw [hT]; exact hasB_ext hb
    have hne : yR 200 L ck 0 0 ≠ yR 200 L ck 0 1 := nd_ne (L := yL 200 L ck 0 2) (by rw [(hi 0 (by omega)).2, (hi 1 (by omega)).2]; exact keyN_ne (.inl (by omega)))
    have b1 : spA 200 L ck = ⟨yR 200 L ck 0 0, true, 0⟩ ∧ spB 200 L ck = ⟨yR 200 L ck 0 1, true, 0⟩ := by unfold spA spB; rw [if_pos e0, if_pos e0]; exact ⟨rfl, rfl⟩
    have b2 : spA 200 (yL 200 L ck 0 2) ck = ⟨yR 200 L ck 0 0, true, 0⟩ ∧ spB 200 (yL 200 L ck 0 2) ck = ⟨yR 200 L ck 0 1, true, 0⟩ := by unfold spA spB; rw [if_pos a2, if_pos a2, a3 0 (by omega), a3 1 (by omega)]; exact ⟨rfl, rfl⟩
    have HS1 := Lib.hid (fun wi g2 cap2 h9 => HSP.out L wi g2 cap2 h9 ⟨ck, h, cZ⟩ HCK.out)
    have HS2 := Lib.hid (fun wi g2 cap2 h9 => HSP.out (yL 200 L ck 0 2) wi g2 cap2 h9 ⟨ck, 0, ⟨h, true, 0⟩⟩ HCK.out)
    simp only at HS1 HS2
    rw [b1.1, b1.2, e0] at HS1
    rw [b2.1, b2.2, a1, a2] at HS2
    unfold syV cfV cZ at HS1
    unfold syV cfV at HS2
    have HNE : Hid (yR 200 L ck 0 0 ≠ yR 200 L ck 0 1) := Lib.hid hne
    have HMB := Lib.hid hM
    clear b1 b2 hM hne hi a1 a2 a3 wM e0 hT T hz hb HSP
    generalize yL 200 L ck 0 2 = M at *
    generalize yR 200 L ck 0 0 = r0 at *
    generalize yR 200 L ck 0 1 = r1 at *
    have HB11 : Hid (Below w1.heap.size w1 (w1.alloc (.cells #[.int .i64 200, .slice (some ⟨gr, 0, none⟩) L.length capr] 28))) := Lib.hid ((Below.refl _ _).alloc (Nat.le_refl _) _)
    have HX12 : Hid ((w1.alloc (.cells #[.int .i64 200, .slice (some ⟨gr, 0, none⟩) L.length capr] 28)).heap[w1.heap.size]? = some (.cells #[.int .i64 200, .slice (some ⟨gr, 0, none⟩) L.length capr] 28 (0, 0))) := Lib.hid (by have q := heap_alloc_new w1 (.cells #[.int .i64 200, .slice (some ⟨gr, 0, none⟩) L.length capr] 28); exact q)
    have HF13 := Lib.hid (HF1.out.keep HB11.out)
    have HL14 : Hid (w.heap.size ≤ w1.heap.size) := Lib.hid HF1.out.kp.size
    clear HF1 HB11
    go_wp2_with fail
    generalize (w1.alloc (.cells #[.int .i64 200, .slice (some ⟨gr, 0, none⟩) L.length capr] 28)) = W15 at *
    generalize w1.heap.size = p16 at *
    go_at_call 16
    refine (HS1.out _ _ _ HF13.out.st).mono ?_
    rintro e w2 ⟨g2, cap2, rfl, hA, hg, hk⟩
    have HX17 := Lib.hid (HF13.out.st.ar.boxKept hk HX12.out (by decide) (by decide))
    have HF18 := Lib.hid (HF13.out.step hA hg hk)
    clear HX12 HF13 hA hg hk HS1
    have HB19 : Hid (Below w2.heap.size w2 ((w2.alloc (.cells #[.int .i64 r0, .bool true, .int .u64 0] 33)).alloc (.cells #[.int .i64 r1, .bool true, .int .u64 0] 33))) := Lib.hid (((Below.refl _ _).alloc (Nat.le_refl _) _).alloc (by simp) _)
    have HX20 := Lib.hid (below_box HB19.out HX17.out)
    have HX21 : Hid (((w2.alloc (.cells #[.int .i64 r0, .bool true, .int .u64 0] 33)).alloc (.cells #[.int .i64 r1, .bool true, .int .u64 0] 33)).heap[w2.heap.size]? = some (.cells #[.int .i64 r0, .bool true, .int .u64 0] 33 (0, 0))) := Lib.hid (by rw [Below.heap_alloc _ _ _ (by simp <;> omega)]; have q := heap_alloc_new w2 (.cells #[.int .i64 r0, .bool true, .int .u64 0] 33); exact q)
    have HX22 : Hid (((w2.alloc (.cells #[.int .i64 r0, .bool true, .int .u64 0] 33)).alloc (.cells #[.int .i64 r1, .bool true, .int .u64 0] 33)).heap[w2.heap.size + 1]? = some (.cells #[.int .i64 r1, .bool true, .int .u64 0] 33 (0, 0))) := Lib.hid (by have q := heap_alloc_new (w2.alloc (.cells #[.int .i64 r0, .bool true, .int .u64 0] 33)) (.cells #[.int .i64 r1, .bool true, .int .u64 0] 33); rwa [World.size_alloc] at q)
    have HF23 := Lib.hid (HF18.out.keep HB19.out)
    have HL24 : Hid (w.heap.size ≤ w2.heap.size) := Lib.hid HF18.out.kp.size
    clear HX17 HF18 HB19
    go_wp2_with fail
    generalize ((w2.alloc (.cells #[.int .i64 r0, .bool true, .int .u64 0] 33)).alloc (.cells #[.int .i64 r1, .bool true, .int .u64 0] 33)) = W27 at *
    generalize w2.heap.size = p28 at *
    have HCN := Lib.hid (cnew_any h W27)
    unfold cfV at HCN
    go_at_call 19
    refine (HCN.out).mono ?_
    rintro e w3 ⟨rfl, hb⟩
    have HX29 := Lib.hid (below_box hb HX20.out)
    have HX30 := Lib.hid (below_box hb HX21.out)
    have HX31 := Lib.hid (below_box hb HX22.out)
    have HF32 := Lib.hid (HF23.out.keep hb)
    clear HX20 HX21 HX22 HF23 hb HCN
    go_wp2_with fail
    go_at_call 16
    refine (HS2.out _ _ _ HF32.out.st).mono ?_
    rintro e w4 ⟨g4, cap4, rfl, hA, hg, hk⟩
    have HX33 := Lib.hid (HF32.out.st.ar.boxKept hk HX29.out (by decide) (by decide))
    have HX34 := Lib.hid (HF32.out.st.ar.boxKept hk HX30.out (by decide) (by decide))
    have HX35 := Lib.hid (HF32.out.st.ar.boxKept hk HX31.out (by decide) (by decide))
    have HF36 := Lib.hid (HF32.out.step hA hg hk)
    clear HX29 HX30 HX31 HF32 hA hg hk HS2
    have HB37 : Hid (Below w4.heap.size w4 (((w4.alloc (.cells #[.int .i64 r0, .bool true, .int .u64 0] 33)).alloc (.cells #[.int .i64 r1, .bool true, .int .u64 0] 33)).alloc (.cells #[.int .i64 ck] 3))) := Lib.hid ((((Below.refl _ _).alloc (Nat.le_refl _) _).alloc (by simp) _).alloc (by simp <;> omega) _)
    have HX38 := Lib.hid (below_box HB37.out HX33.out)
    have HX39 := Lib.hid (below_box HB37.out HX34.out)
    have HX40 := Lib.hid (below_box HB37.out HX35.out)
    have HX41 : Hid ((((w4.alloc (.cells #[.int .i64 r0, .bool true, .int .u64 0] 33)).alloc (.cells #[.int .i64 r1, .bool true, .int .u64 0] 33)).alloc (.cells #[.int .i64 ck] 3)).heap[w4.heap.size]? = some (.cells #[.int .i64 r0, .bool true, .int .u64 0] 33 (0, 0))) := Lib.hid (by rw [Below.heap_alloc _ _ _ (by simp <;> omega)]; rw [Below.heap_alloc _ _ _ (by simp <;> omega)]; have q := heap_alloc_new w4 (.cells #[.int .i64 r0, .bool true, .int .u64 0] 33); exact q)
    have HX42 : Hid ((((w4.alloc (.cells #[.int .i64 r0, .bool true, .int .u64 0] 33)).alloc (.cells #[.int .i64 r1, .bool true, .int .u64 0] 33)).alloc (.cells #[.int .i64 ck] 3)).heap[w4.heap.size + 1]? = some (.cells #[.int .i64 r1, .bool true, .int .u64 0] 33 (0, 0))) := Lib.hid (by rw [Below.heap_alloc _ _ _ (by simp <;> omega)]; have q := heap_alloc_new (w4.alloc (.cells #[.int .i64 r0, .bool true, .int .u64 0] 33)) (.cells #[.int .i64 r1, .bool true, .int .u64 0] 33); rwa [World.size_alloc] at q)
    have HX43 : Hid ((((w4.alloc (.cells #[.int .i64 r0, .bool true, .int .u64 0] 33)).alloc (.cells #[.int .i64 r1, .bool true, .int .u64 0] 33)).alloc (.cells #[.int .i64 ck] 3)).heap[w4.heap.size + 1 + 1]? = some (.cells #[.int .i64 ck] 3 (0, 0))) := Lib.hid (by have q := heap_alloc_new ((w4.alloc (.cells #[.int .i64 r0, .bool true, .int .u64 0] 33)).alloc (.cells #[.int .i64 r1, .bool true, .int .u64 0] 33)) (.cells #[.int .i64 ck] 3); rwa [World.size_alloc, World.size_alloc] at q)
    have HF44 := Lib.hid (HF36.out.keep HB37.out)
    have HL45 : Hid (w.heap.size ≤ w4.heap.size) := Lib.hid HF36.out.kp.size
    clear HX33 HX34 HX35 HF36 HB37
    go_wp2_with fail
    generalize (((w4.alloc (.cells #[.int .i64 r0, .bool true, .int .u64 0] 33)).alloc (.cells #[.int .i64 r1, .bool true, .int .u64 0] 33)).alloc (.cells #[.int .i64 ck] 3)) = W55 at *
    generalize w4.heap.size = p56 at *
    have cv0 : W55.cell? ⟨p56 + 1 + 1, 0, none⟩ = some (.int .i64 ck) := (cell_of_row _ _ 0 _ _ _ HX43.out).trans rfl
    have lv := lt_of_heap HX43.out
    have fv : ∀ j, W55.frozen? ⟨p56 + 1 + 1, j, none⟩ = false := fun j => frozen_of_row _ _ _ _ _ HX43.out
    go_at_call 10
    refine (has1_any b _ M.length _ _ _ ck _ HF44.out.st.ar.c0 cv0).mono ?_
    rintro e w5 ⟨rfl, rfl⟩
    rw [HMB.out]
    clear cv0 lv fv
    have n1 : (r0 == r1) = false := by have := HNE.out; simpa using this
    have cx0 : W55.cell? ⟨p28, 0, none⟩ = some (.int .i64 r0) := (cell_of_row _ _ 0 _ _ _ HX39.out).trans rfl
    have cx1 : W55.cell? ⟨p28, 1, none⟩ = some (.bool true) := (cell_of_row _ _ 1 _ _ _ HX39.out).trans rfl
    have cx2 : W55.cell? ⟨p28, 2, none⟩ = some (.int .u64 0) := (cell_of_row _ _ 2 _ _ _ HX39.out).trans rfl
    have lx := lt_of_heap HX39.out
    have fx : ∀ j, W55.frozen? ⟨p28, j, none⟩ = false := fun j => frozen_of_row _ _ _ _ _ HX39.out
    have cy0 : W55.cell? ⟨p28 + 1, 0, none⟩ = some (.int .i64 r1) := (cell_of_row _ _ 0 _ _ _ HX40.out).trans rfl
    have cy1 : W55.cell? ⟨p28 + 1, 1, none⟩ = some (.bool true) := (cell_of_row _ _ 1 _ _ _ HX40.out).trans rfl
    have cy2 : W55.cell? ⟨p28 + 1, 2, none⟩ = some (.int .u64 0) := (cell_of_row _ _ 2 _ _ _ HX40.out).trans rfl
    have ly := lt_of_heap HX40.out
    have fy : ∀ j, W55.frozen? ⟨p28 + 1, j, none⟩ = false := fun j => frozen_of_row _ _ _ _ _ HX40.out
    have cp0 : W55.cell? ⟨p56, 0, none⟩ = some (.int .i64 r0) := (cell_of_row _ _ 0 _ _ _ HX41.out).trans rfl
    have cp1 : W55.cell? ⟨p56, 1, none⟩ = some (.bool true) := (cell_of_row _ _ 1 _ _ _ HX41.out).trans rfl
    have cp2 : W55.cell? ⟨p56, 2, none⟩ = some (.int .u64 0) := (cell_of_row _ _ 2 _ _ _ HX41.out).trans rfl
    have lp := lt_of_heap HX41.out
    have fp : ∀ j, W55.frozen? ⟨p56, j, none⟩ = false := fun j => frozen_of_row _ _ _ _ _ HX41.out
    have cq0 : W55.cell? ⟨p56 + 1, 0, none⟩ = some (.int .i64 r1) := (cell_of_row _ _ 0 _ _ _ HX42.out).trans rfl
    have cq1 : W55.cell? ⟨p56 + 1, 1, none⟩ = some (.bool true) := (cell_of_row _ _ 1 _ _ _ HX42.out).trans rfl
    have cq2 : W55.cell? ⟨p56 + 1, 2, none⟩ = some (.int .u64 0) := (cell_of_row _ _ 2 _ _ _ HX42.out).trans rfl
    have lq := lt_of_heap HX42.out
    have fq : ∀ j, W55.frozen? ⟨p56 + 1, j, none⟩ = false := fun j => frozen_of_row _ _ _ _ _ HX42.out
    have HA9 := Lib.hid (HAw.out _ HF44.out.st.bel)
    go_wp2_with fail
    go_at_call 7
    refine HA9.out.mono ?_
    rintro e w9 ⟨rfl, hb9⟩
    go_wp2_with fail
    go_ret
    exact ⟨rfl, (HF44.out.st.keep hb9).bel⟩
end Go.Proofs.YtgjhhipkfglpgaaDoor
