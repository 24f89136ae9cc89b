/- The walk of CipherNone: without a key what is sealed, and opened, is what it is, and nothing is counted. -/
import Derived.Test.YtonpjogaamgceaaDoorJi
namespace Go.Proofs.YtonpjogaamgceaaDoor
open Go.RowKit

set_option maxRecDepth 100000 in
set_option maxHeartbeats 1000000 in
theorem none_long (s : Option Addr) (m c : Nat) (key n ad p : Int) (hm : 30 < m) (w : World) (hs : Shp w) : Calls Tryd.prog 8 #[.slice s m c, .int .i64 key, .int .u64 n, .int .i64 ad, .int .i64 p] w fun e w' => e = .returned (.bool true) ∧ Below w.heap.size w w' := by
  have HA := Lib.hid (awake_any w hs)
  have h30 : (30 : Int) < m := by omega
  clear hs hm
  go_enter Tryd.func8, Tryd.ntmps8
  go_wp2_with (go_at_call 10; refine HA.out.mono ?_; rintro e w1 ⟨rfl, hb1⟩)
  go_ret
  exact ⟨rfl, hb1⟩
set_option maxRecDepth 100000 in
set_option maxHeartbeats 4000000 in
theorem none_good (s : Option Addr) (cc : Nat) (ns : List Nd) (key n ad p : Int) (hn : ns.length ≤ 30) (hu : u64ok n) (w : World) (hs : Shp w) (hB : BuiltAt w (.slice s ns.length cc) ns) : Calls Tryd.prog 8 #[.slice s ns.length cc, .int .i64 key, .int .u64 n, .int .i64 ad, .int .i64 p] w fun e w' => e = .returned (.bool true) ∧ Below w.heap.size w w' := by
  have HB0 := hB 100 100 (by decide) w (Below.refl _ _)
  unfold BuiltPost at HB0
  have HB := Lib.hid HB0; clear HB0
  have HS := Lib.hid hs
  have HAw := Lib.hid (fun w1 (h : Below w.heap.size w w1) => awake_any w1 (hs.below h))
  obtain ⟨L, hLe⟩ : ∃ L, L = bld 100 ns := ⟨_, rfl⟩
  rw [← hLe] at HB
  have h30 : (ns.length : Int) ≤ 30 := by omega
  clear hs hB hn hLe
  go_enter Tryd.func8, Tryd.ntmps8
  go_wp2_with fail
  go_at_call 11
  refine HB.out.mono ?_
  rintro e w1 ⟨b, g, bm, cap, gr, capr, rfl, hP⟩
  have HP1 := Lib.hid hP; clear hP
  have HB1 : Hid (Below w1.heap.size w1 ((w1.alloc (.cells #[.int .i64 100, .slice (some ⟨gr, 0, none⟩) L.length capr] 30)).alloc (.cells #[.int .i64 key, .bool false, .int .u64 n] 25))) := Lib.hid (((Below.refl _ _).alloc (Nat.le_refl _) _).alloc (by simp) _)
  have HX2 : Hid (((w1.alloc (.cells #[.int .i64 100, .slice (some ⟨gr, 0, none⟩) L.length capr] 30)).alloc (.cells #[.int .i64 key, .bool false, .int .u64 n] 25)).heap[w1.heap.size]? = some (.cells #[.int .i64 100, .slice (some ⟨gr, 0, none⟩) L.length capr] 30 (0, 0))) := Lib.hid (by rw [Below.heap_alloc _ _ _ (by simp <;> omega)]; have q := heap_alloc_new w1 (.cells #[.int .i64 100, .slice (some ⟨gr, 0, none⟩) L.length capr] 30); exact q)
  have HX3 : Hid (((w1.alloc (.cells #[.int .i64 100, .slice (some ⟨gr, 0, none⟩) L.length capr] 30)).alloc (.cells #[.int .i64 key, .bool false, .int .u64 n] 25)).heap[w1.heap.size + 1]? = some (.cells #[.int .i64 key, .bool false, .int .u64 n] 25 (0, 0))) := Lib.hid (by have q := heap_alloc_new (w1.alloc (.cells #[.int .i64 100, .slice (some ⟨gr, 0, none⟩) L.length capr] 30)) (.cells #[.int .i64 key, .bool false, .int .u64 n] 25); rwa [World.size_alloc] at q)
  have HQ4 := Lib.hid (HP1.out.pq.keep HB1.out)
  clear HB1
  go_wp2_with fail
  generalize ((w1.alloc (.cells #[.int .i64 100, .slice (some ⟨gr, 0, none⟩) L.length capr] 30)).alloc (.cells #[.int .i64 key, .bool false, .int .u64 n] 25)) = W1 at *
  generalize w1.heap.size = p4 at *
  have HSL := Lib.hid (HQ4.out.seal HS.out ⟨key, false, n⟩ ad p hu)
  unfold cfV at HSL
  cases hq : (hasB L.length ad && hasB L.length p)
  · have hk := chk_ref (c := ⟨key, false, n⟩) hq
    have hk0 : chk L.length ⟨key, false, n⟩ ad p ≠ 0 := by rw [hk]; decide
    obtain ⟨e1, e2, e3, e4⟩ := chk_err (lim := 100) hk0
    obtain ⟨o2, o3, o4⟩ := op_err hk0
    rw [hk] at e2 o2
    rw [e1, e2, e3, e4] at HSL
    have HO := Lib.hid (fun w' g cap (h : Pq w w' b g bm cap 100 L gr L) => h.opens ⟨key, false, n⟩ ad p hu)
    rw [o2, o3, o4] at HO
    unfold cfV at HO
    clear hk e1 e2 e3 e4 o2 o3 o4 hk0
    have HHQ := Lib.hid hq; clear hq
    simp only [cZ] at HSL HO
    go_at_call 12
    refine (HSL.out).mono ?_
    rintro e w3 ⟨g3, cap3, rfl, hQ3, hk3⟩
    have HX5 := Lib.hid (HQ4.out.box hk3 HX2.out (by decide) (by decide))
    have HX6 := Lib.hid (HQ4.out.box hk3 HX3.out (by decide) (by decide))
    have HQ7 := Lib.hid hQ3
    clear HX2 HX3 HQ4 hQ3 hk3
    have HB8 : Hid (Below w3.heap.size w3 (w3.alloc (.cells #[.int .i64 0, .bool false, .int .u64 0] 25))) := Lib.hid ((Below.refl _ _).alloc (Nat.le_refl _) _)
    obtain ⟨cc0, cc1, cc2⟩ := cf_cells HX6.out
    have lc := lt_of_heap HX6.out
    have HX9 := Lib.hid (below_box HB8.out HX5.out)
    have HX10 := Lib.hid (below_box HB8.out HX6.out)
    have HX11 : Hid ((w3.alloc (.cells #[.int .i64 0, .bool false, .int .u64 0] 25)).heap[w3.heap.size]? = some (.cells #[.int .i64 0, .bool false, .int .u64 0] 25 (0, 0))) := Lib.hid (by have q := heap_alloc_new w3 (.cells #[.int .i64 0, .bool false, .int .u64 0] 25); exact q)
    have HQ12 := Lib.hid (HQ7.out.keep HB8.out)
    clear HX5 HX6 HB8 HQ7
    go_wp2_with fail
    clear cc0 cc1 cc2 lc
    generalize (w3.alloc (.cells #[.int .i64 0, .bool false, .int .u64 0] 25)) = W8 at *
    generalize w3.heap.size = p12 at *
    go_at_call 16
    refine (HO.out _ _ _ HQ12.out).mono ?_
    rintro e w5 ⟨rfl, hQ5, hb5⟩
    have HX13 := Lib.hid (below_box hb5 HX9.out)
    have HX14 := Lib.hid (below_box hb5 HX10.out)
    have HX15 := Lib.hid (below_box hb5 HX11.out)
    have HQ16 := Lib.hid hQ5
    clear HX9 HX10 HX11 HQ12 hQ5 hb5
    have HB17 : Hid (Below w5.heap.size w5 ((w5.alloc (.cells #[.int .i64 0, .bool false, .int .u64 0] 25)).alloc (.cells #[.int .i64 ad, .int .i64 p] 3))) := Lib.hid (((Below.refl _ _).alloc (Nat.le_refl _) _).alloc (by simp) _)
    obtain ⟨cc0, cc1, cc2⟩ := cf_cells HX14.out
    have lc := lt_of_heap HX14.out
    obtain ⟨cd0, cd1, cd2⟩ := cf_cells HX15.out
    have ld := lt_of_heap HX15.out
    have HX18 := Lib.hid (below_box HB17.out HX13.out)
    have HX19 := Lib.hid (below_box HB17.out HX14.out)
    have HX20 := Lib.hid (below_box HB17.out HX15.out)
    have HX21 : Hid (((w5.alloc (.cells #[.int .i64 0, .bool false, .int .u64 0] 25)).alloc (.cells #[.int .i64 ad, .int .i64 p] 3)).heap[w5.heap.size]? = some (.cells #[.int .i64 0, .bool false, .int .u64 0] 25 (0, 0))) := Lib.hid (by rw [Below.heap_alloc _ _ _ (by simp <;> omega)]; have q := heap_alloc_new w5 (.cells #[.int .i64 0, .bool false, .int .u64 0] 25); exact q)
    have HX22 : Hid (((w5.alloc (.cells #[.int .i64 0, .bool false, .int .u64 0] 25)).alloc (.cells #[.int .i64 ad, .int .i64 p] 3)).heap[w5.heap.size + 1]? = some (.cells #[.int .i64 ad, .int .i64 p] 3 (0, 0))) := Lib.hid (by have q := heap_alloc_new (w5.alloc (.cells #[.int .i64 0, .bool false, .int .u64 0] 25)) (.cells #[.int .i64 ad, .int .i64 p] 3); rwa [World.size_alloc] at q)
    have HQ23 := Lib.hid (HQ16.out.keep HB17.out)
    clear HX13 HX14 HX15 HB17 HQ16
    go_wp2_with fail
    clear cc0 cc1 cc2 lc cd0 cd1 cd2 ld
    generalize ((w5.alloc (.cells #[.int .i64 0, .bool false, .int .u64 0] 25)).alloc (.cells #[.int .i64 ad, .int .i64 p] 3)) = W17 at *
    generalize w5.heap.size = p23 at *
    have c0 := HQ23.out.st.ar.c0
    go_at_call 21
    refine (has2_any b (some ⟨_, 0, none⟩) L.length _ _ _ ad p _ c0 ((cell_of_row _ _ 0 _ _ _ HX22.out).trans rfl) ((cell_of_row _ _ 1 _ _ _ HX22.out).trans rfl)).mono ?_
    rintro e w6 ⟨rfl, rfl⟩
    rw [HHQ.out]
    clear c0
    have HA6 := Lib.hid (HAw.out _ HQ23.out.st.bel)
    go_wp2_with fail
    go_at_call 10
    refine HA6.out.mono ?_
    rintro e w7 ⟨rfl, hb7⟩
    go_wp2_with fail
    go_ret
    exact ⟨rfl, (HQ23.out.st.keep hb7).bel⟩
  · have hk := chk_none (c := ⟨key, false, n⟩) hq rfl
    obtain ⟨e1, e2, e3, e4⟩ := sl_none (lim := 100) hk rfl
    obtain ⟨o2, o3, o4⟩ := op_none hk rfl
    rw [e1, e2, e3, e4] at HSL
    have HO := Lib.hid (fun w' g cap (h : Pq w w' b g bm cap 100 L gr L) => h.opens ⟨key, false, n⟩ ad p hu)
    rw [o2, o3, o4] at HO
    unfold cfV at HO
    clear hk e1 e2 e3 e4 o2 o3 o4
    have HHQ := Lib.hid hq; clear hq
    go_at_call 12
    refine (HSL.out).mono ?_
    rintro e w3 ⟨g3, cap3, rfl, hQ3, hk3⟩
    have HX5 := Lib.hid (HQ4.out.box hk3 HX2.out (by decide) (by decide))
    have HX6 := Lib.hid (HQ4.out.box hk3 HX3.out (by decide) (by decide))
    have HQ7 := Lib.hid hQ3
    clear HX2 HX3 HQ4 hQ3 hk3
    have HB8 : Hid (Below w3.heap.size w3 (w3.alloc (.cells #[.int .i64 key, .bool false, .int .u64 n] 25))) := Lib.hid ((Below.refl _ _).alloc (Nat.le_refl _) _)
    obtain ⟨cc0, cc1, cc2⟩ := cf_cells HX6.out
    have lc := lt_of_heap HX6.out
    have HX9 := Lib.hid (below_box HB8.out HX5.out)
    have HX10 := Lib.hid (below_box HB8.out HX6.out)
    have HX11 : Hid ((w3.alloc (.cells #[.int .i64 key, .bool false, .int .u64 n] 25)).heap[w3.heap.size]? = some (.cells #[.int .i64 key, .bool false, .int .u64 n] 25 (0, 0))) := Lib.hid (by have q := heap_alloc_new w3 (.cells #[.int .i64 key, .bool false, .int .u64 n] 25); exact q)
    have HQ12 := Lib.hid (HQ7.out.keep HB8.out)
    clear HX5 HX6 HB8 HQ7
    go_wp2_with fail
    clear cc0 cc1 cc2 lc
    generalize (w3.alloc (.cells #[.int .i64 key, .bool false, .int .u64 n] 25)) = W8 at *
    generalize w3.heap.size = p12 at *
    go_at_call 16
    refine (HO.out _ _ _ HQ12.out).mono ?_
    rintro e w5 ⟨rfl, hQ5, hb5⟩
    have HX13 := Lib.hid (below_box hb5 HX9.out)
    have HX14 := Lib.hid (below_box hb5 HX10.out)
    have HX15 := Lib.hid (below_box hb5 HX11.out)
    have HQ16 := Lib.hid hQ5
    clear HX9 HX10 HX11 HQ12 hQ5 hb5
    have HB17 : Hid (Below w5.heap.size w5 ((w5.alloc (.cells #[.int .i64 key, .bool false, .int .u64 n] 25)).alloc (.cells #[.int .i64 ad, .int .i64 p] 3))) := Lib.hid (((Below.refl _ _).alloc (Nat.le_refl _) _).alloc (by simp) _)
    obtain ⟨cc0, cc1, cc2⟩ := cf_cells HX14.out
    have lc := lt_of_heap HX14.out
    obtain ⟨cd0, cd1, cd2⟩ := cf_cells HX15.out
    have ld := lt_of_heap HX15.out
    have HX18 := Lib.hid (below_box HB17.out HX13.out)
    have HX19 := Lib.hid (below_box HB17.out HX14.out)
    have HX20 := Lib.hid (below_box HB17.out HX15.out)
    have HX21 : Hid (((w5.alloc (.cells #[.int .i64 key, .bool false, .int .u64 n] 25)).alloc (.cells #[.int .i64 ad, .int .i64 p] 3)).heap[w5.heap.size]? = some (.cells #[.int .i64 key, .bool false, .int .u64 n] 25 (0, 0))) := Lib.hid (by rw [Below.heap_alloc _ _ _ (by simp <;> omega)]; have q := heap_alloc_new w5 (.cells #[.int .i64 key, .bool false, .int .u64 n] 25); exact q)
    have HX22 : Hid (((w5.alloc (.cells #[.int .i64 key, .bool false, .int .u64 n] 25)).alloc (.cells #[.int .i64 ad, .int .i64 p] 3)).heap[w5.heap.size + 1]? = some (.cells #[.int .i64 ad, .int .i64 p] 3 (0, 0))) := Lib.hid (by have q := heap_alloc_new (w5.alloc (.cells #[.int .i64 key, .bool false, .int .u64 n] 25)) (.cells #[.int .i64 ad, .int .i64 p] 3); rwa [World.size_alloc] at q)
    have HQ23 := Lib.hid (HQ16.out.keep HB17.out)
    clear HX13 HX14 HX15 HB17 HQ16
    go_wp2_with fail
    clear cc0 cc1 cc2 lc cd0 cd1 cd2 ld
    generalize ((w5.alloc (.cells #[.int .i64 key, .bool false, .int .u64 n] 25)).alloc (.cells #[.int .i64 ad, .int .i64 p] 3)) = W17 at *
    generalize w5.heap.size = p23 at *
    have c0 := HQ23.out.st.ar.c0
    go_at_call 21
    refine (has2_any b (some ⟨_, 0, none⟩) L.length _ _ _ ad p _ c0 ((cell_of_row _ _ 0 _ _ _ HX22.out).trans rfl) ((cell_of_row _ _ 1 _ _ _ HX22.out).trans rfl)).mono ?_
    rintro e w6 ⟨rfl, rfl⟩
    rw [HHQ.out]
    clear c0
    obtain ⟨cA0, cA1⟩ := ra_cells HX18.out
    have lA := lt_of_heap HX18.out
    obtain ⟨cc0, cc1, cc2⟩ := cf_cells HX19.out
    have lc := lt_of_heap HX19.out
    obtain ⟨cd0, cd1, cd2⟩ := cf_cells HX20.out
    have ld := lt_of_heap HX20.out
    obtain ⟨cf0, cf1, cf2⟩ := cf_cells HX21.out
    have lf := lt_of_heap HX21.out
    go_wp2_with fail
    clear cA0 cA1 lA cc0 cc1 cc2 lc cd0 cd1 cd2 ld cf0 cf1 cf2 lf
    go_at_call 15
    refine (HQ23.out.same capr).mono ?_
    rintro e w8 ⟨rfl, hb8⟩
    have HQ8 := Lib.hid (HQ23.out.keep hb8); clear hb8
    have HA9 := Lib.hid (HAw.out _ HQ8.out.st.bel)
    go_wp2_with fail
    go_at_call 10
    refine HA9.out.mono ?_
    rintro e w9 ⟨rfl, hb9⟩
    go_wp2_with fail
    go_ret
    exact ⟨rfl, (HQ8.out.st.keep hb9).bel⟩
end Go.Proofs.YtonpjogaamgceaaDoor
