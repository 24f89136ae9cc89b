/- The walk of CipherCounts: so many seals, one behind the other, have the numbers from its own on; each is another term; opened in order they are what they were. -/
import Derived.Test.YtonpjogaamgceaaDoorJn
namespace Go.Proofs.YtonpjogaamgceaaDoor
open Go.RowKit

set_option maxRecDepth 100000 in
set_option maxHeartbeats 1000000 in
theorem counts_long (s : Option Addr) (m cc : Nat) (key many : Int) (hm : 30 < m ∨ (many < 0 ∨ 20 < many)) (w : World) (hs : Shp w) : Calls Tryd.prog 7 #[.slice s m cc, .int .i64 key, .int .i64 many] w fun e w' => e = .returned (.bool true) ∧ Below w.heap.size w w' := by
  have HA := Lib.hid (awake_any w hs)
  clear hs
  by_cases h1 : (30 : Int) < m
  · clear hm
    go_enter Tryd.func7, Tryd.ntmps7
    go_wp2_with (go_at_call 10; refine HA.out.mono ?_; rintro e w1 ⟨rfl, hb1⟩)
    go_ret
    exact ⟨rfl, hb1⟩
  · have h1' : (m : Int) ≤ 30 := by omega
    rcases hm with hm | hm | hm
    · exact absurd hm (by omega)
    · go_enter Tryd.func7, Tryd.ntmps7
      go_wp2_with (go_at_call 10; refine HA.out.mono ?_; rintro e w1 ⟨rfl, hb1⟩)
      go_ret
      exact ⟨rfl, hb1⟩
    · have h2 : ¬ many < 0 := by omega
      go_enter Tryd.func7, Tryd.ntmps7
      go_wp2_with (go_at_call 10; refine HA.out.mono ?_; rintro e w1 ⟨rfl, hb1⟩)
      go_ret
      exact ⟨rfl, hb1⟩
set_option maxRecDepth 100000 in
set_option maxHeartbeats 4000000 in
theorem counts_good (s : Option Addr) (cc : Nat) (ns : List Nd) (key : Int) (many : Nat) (hn : ns.length ≤ 30) (hm : many ≤ 20) (w : World) (hs : Shp w) (hB : BuiltAt w (.slice s ns.length cc) ns) : Calls Tryd.prog 7 #[.slice s ns.length cc, .int .i64 key, .int .i64 (many : Int)] w fun e w' => e = .returned (.bool true) ∧ Below w.heap.size w w' := by
  have HBu := hB 400 400 (by decide) w (Below.refl _ _)
  unfold BuiltPost at HBu
  have HB := Lib.hid HBu; clear HBu
  have HS := Lib.hid hs
  have HAw := Lib.hid (fun w1 (h : Below w.heap.size w w1) => awake_any w1 (hs.below h))
  have HLn := Lib.hid (bld_len (lim := 400) ns)
  obtain ⟨L, hLe⟩ : ∃ L, L = bld 400 ns := ⟨_, rfl⟩
  rw [← hLe] at HB HLn
  have h30 : (ns.length : Int) ≤ 30 := by omega
  have hm0 : ¬ (many : Int) < 0 := by omega
  have hm2 : (many : Int) ≤ 20 := by omega
  have HL32 : Hid (L.length ≤ 31) := Lib.hid (by have := HLn.out; omega)
  clear hs hB hn hLe HLn
  go_enter Tryd.func7, Tryd.ntmps7
  go_wp2_with fail
  go_at_call 11
  refine HB.out.mono ?_
  rintro e w1 ⟨b, g, bm, cap, gr, capr, rfl, hP⟩
  have HP1 := Lib.hid hP; clear hP
  have HB1 : Hid (Below w1.heap.size w1 ((w1.alloc (.cells #[.int .i64 400, .slice (some ⟨gr, 0, none⟩) L.length capr] 30)).alloc (.cells #[.int .i64 key] 3))) := Lib.hid (((Below.refl _ _).alloc (Nat.le_refl _) _).alloc (by simp) _)
  have HX2 : Hid (((w1.alloc (.cells #[.int .i64 400, .slice (some ⟨gr, 0, none⟩) L.length capr] 30)).alloc (.cells #[.int .i64 key] 3)).heap[w1.heap.size]? = some (.cells #[.int .i64 400, .slice (some ⟨gr, 0, none⟩) L.length capr] 30 (0, 0))) := Lib.hid (by rw [Below.heap_alloc _ _ _ (by simp <;> omega)]; have q := heap_alloc_new w1 (.cells #[.int .i64 400, .slice (some ⟨gr, 0, none⟩) L.length capr] 30); exact q)
  have HX3 : Hid (((w1.alloc (.cells #[.int .i64 400, .slice (some ⟨gr, 0, none⟩) L.length capr] 30)).alloc (.cells #[.int .i64 key] 3)).heap[w1.heap.size + 1]? = some (.cells #[.int .i64 key] 3 (0, 0))) := Lib.hid (by have q := heap_alloc_new (w1.alloc (.cells #[.int .i64 400, .slice (some ⟨gr, 0, none⟩) L.length capr] 30)) (.cells #[.int .i64 key] 3); rwa [World.size_alloc] at q)
  have HQ4 := Lib.hid (HP1.out.pq.keep HB1.out)
  clear HB1
  go_wp2_with fail
  generalize ((w1.alloc (.cells #[.int .i64 400, .slice (some ⟨gr, 0, none⟩) L.length capr] 30)).alloc (.cells #[.int .i64 key] 3)) = W1 at *
  generalize w1.heap.size = p4 at *
  have c0 := HQ4.out.st.ar.c0
  cases hq : hasB L.length key
  · have HHQ := Lib.hid hq; clear hq
    go_at_call 21
    refine (has1_any b (some ⟨_, 0, none⟩) L.length _ _ _ key _ c0 ((cell_of_row _ _ 0 _ _ _ HX3.out).trans rfl)).mono ?_
    rintro e w6 ⟨rfl, rfl⟩
    rw [HHQ.out]
    clear c0
    have HA6 := Lib.hid (HAw.out _ HQ4.out.st.bel)
    go_wp2_with fail
    go_at_call 10
    refine HA6.out.mono ?_
    rintro e w7 ⟨rfl, hb7⟩
    go_wp2_with fail
    go_ret
    exact ⟨rfl, (HQ4.out.st.keep hb7).bel⟩
  have HHQ := Lib.hid hq; clear hq
  go_at_call 21
  refine (has1_any b (some ⟨_, 0, none⟩) L.length _ _ _ key _ c0 ((cell_of_row _ _ 0 _ _ _ HX3.out).trans rfl)).mono ?_
  rintro e w6 ⟨rfl, rfl⟩
  rw [HHQ.out]
  clear c0
  have HCN := Lib.hid (fun w' => cnew_any key w')
  unfold cfV at HCN
  go_wp2_with fail
  go_at_call 20
  refine (HCN.out _).mono ?_
  rintro e w7 ⟨rfl, hb7⟩
  have HS7 := Lib.hid (HQ4.out.st.keep hb7)
  clear hb7 HCN
  have HB8 : Hid (Below w7.heap.size w7 ((w7.alloc (.cells #[.int .i64 key, .bool true, .int .u64 0] 25)).alloc (.cells #[.int .i64 key, .bool true, .int .u64 0] 25))) := Lib.hid (((Below.refl _ _).alloc (Nat.le_refl _) _).alloc (by simp) _)
  have HC8 : Hid (((w7.alloc (.cells #[.int .i64 key, .bool true, .int .u64 0] 25)).alloc (.cells #[.int .i64 key, .bool true, .int .u64 0] 25)).heap[w7.heap.size]? = some (.cells #[.int .i64 key, .bool true, .int .u64 0] 25 (0, 0))) := Lib.hid (by rw [Below.heap_alloc _ _ _ (by simp)]; exact heap_alloc_new w7 _)
  have HD8 : Hid (((w7.alloc (.cells #[.int .i64 key, .bool true, .int .u64 0] 25)).alloc (.cells #[.int .i64 key, .bool true, .int .u64 0] 25)).heap[w7.heap.size + 1]? = some (.cells #[.int .i64 key, .bool true, .int .u64 0] 25 (0, 0))) := Lib.hid (by
    have := heap_alloc_new (w7.alloc (.cells #[.int .i64 key, .bool true, .int .u64 0] 25)) (.cells #[.int .i64 key, .bool true, .int .u64 0] 25)
    rwa [World.size_alloc] at this)
  have HS8 := Lib.hid (HS7.out.keep HB8.out)
  have hcw : w.heap.size ≤ w7.heap.size := HS7.out.bel.size
  clear HB8
  go_wp2_with fail
  generalize (w7.alloc (.cells #[.int .i64 key, .bool true, .int .u64 0] 25)).alloc (.cells #[.int .i64 key, .bool true, .int .u64 0] 25) = W8 at *
  generalize w7.heap.size = pc at *
  have hpc : w.heap.size ≤ pc := hcw
  have HHK : Hid (hasB L.length key = true) := Lib.hid HHQ.out
  clear HHQ hcw
  go_loopg [12, 13, 14, 15, 16, 17, 18, 19, 20, 51] many (fun q _ _ _ _ _ _ _ _ _ u51 wv => ∃ k : Nat, k + q = many ∧ u51 = .int .i64 k ∧ ∃ g' cap' M, St w wv b g' bm cap' 400 M ∧ M.length ≤ L.length + k ∧ hasB M.length key = true ∧ wv.heap[pc]? = some (.cells #[.int .i64 key, .bool true, .int .u64 (k : Int)] 25 (0, 0)) ∧ wv.heap[pc + 1]? = some (.cells #[.int .i64 key, .bool true, .int .u64 (k : Int)] 25 (0, 0)))
  case atStart => exact ⟨0, by omega, rfl, _, _, _, HS8.out, by omega, HHK.out, HC8.out, HD8.out⟩
  case round =>
    obtain ⟨k, hkq, rfl, g1, cap1, M, hS, hMl, hMk, hXc, hXd⟩ := hrel
    by_cases hlt : k < many
    · have hlt' : (k : Int) < many := by omega
      have HCT := Lib.hid (ct_step (lim := 400) (M := M) (key := key) (N := (k : Int)) hS.ar.wf (by have := HL32.out; omega) (by decide) hMk (by omega) (by unfold lastU; omega))
      have HS1 := Lib.hid hS
      have HXc := Lib.hid hXc
      have HXd := Lib.hid hXd
      have HMl := Lib.hid hMl
      have HMk := Lib.hid hMk
      have hwk : IntKind.u64.wrap (k : Int) = k := by rw [IntKind.wrap_u64]; omega
      have hwk1 : IntKind.u64.wrap ((k : Int) + 1) = k + 1 := by rw [IntKind.wrap_u64]; omega
      have HSL := Lib.hid (HS1.out.seal HS.out ⟨key, true, (k : Int)⟩ 0 key (by constructor <;> simp only <;> omega))
      rw [HCT.out.e, HCT.out.c] at HSL
      unfold cfV at HSL
      obtain ⟨c0, c1, c2⟩ := cf_cells HXc.out
      have lc := lt_of_heap HXc.out
      clear hS hMl hMk hXc hXd
      go_wp2_with fail
      go_at_call 12
      refine HSL.out.mono ?_
      rintro e v1 ⟨g2, cap2, rfl, hS2, hk2⟩
      have HXc1 := Lib.hid (HS1.out.ar.boxKept hk2 HXc.out (by decide) (by decide))
      have HXd1 := Lib.hid (HS1.out.ar.boxKept hk2 HXd.out (by decide) (by decide))
      have HS2 := Lib.hid hS2
      have hpn : pc + 1 < v1.heap.size := lt_of_heap HXd1.out
      have HB2 : Hid (Below v1.heap.size v1 (v1.alloc (.cells #[.int .i64 key, .bool true, .int .u64 ((k : Int) + 1)] 25))) := Lib.hid ((Below.refl _ _).alloc (Nat.le_refl _) _)
      have HXn2 := Lib.hid (heap_alloc_new v1 (.cells #[.int .i64 key, .bool true, .int .u64 ((k : Int) + 1)] 25))
      have HXc2 := Lib.hid (below_box HB2.out HXc1.out)
      have HXd2 := Lib.hid (below_box HB2.out HXd1.out)
      have HS3 := Lib.hid (HS2.out.keep HB2.out)
      have HOP := Lib.hid (HS3.out.opens ⟨key, true, (k : Int)⟩ 0 (slR 400 M ⟨key, true, (k : Int)⟩ 0 key) (by constructor <;> simp only <;> omega))
      rw [HCT.out.oe, HCT.out.or, HCT.out.oc] at HOP
      have HRX : Hid (hasB (slL 400 M ⟨key, true, (k : Int)⟩ 0 key).length (slR 400 M ⟨key, true, (k : Int)⟩ 0 key) = true) := Lib.hid HCT.out.r
      have HND : Hid (nd (slL 400 M ⟨key, true, (k : Int)⟩ 0 key) (slR 400 M ⟨key, true, (k : Int)⟩ 0 key) = ⟨7, k, key, 0, key⟩) := Lib.hid HCT.out.d
      have HLE : Hid ((slL 400 M ⟨key, true, (k : Int)⟩ 0 key).length ≤ L.length + (k + 1)) := Lib.hid (by have := HCT.out.le; have := HMl.out; omega)
      have HKY : Hid (hasB (slL 400 M ⟨key, true, (k : Int)⟩ 0 key).length key = true) := Lib.hid (by have h1 := hasB_iff.1 HMk.out; have h2 := HCT.out.ge; exact hasB_iff.2 ⟨by omega, by omega⟩)
      clear HB2 hS2 hk2 HSL HS1 HXc HXd c0 c1 c2 lc HCT HMl HMk
      generalize slL 400 M ⟨key, true, (k : Int)⟩ 0 key = M' at *
      generalize slR 400 M ⟨key, true, (k : Int)⟩ 0 key = x at *
      obtain ⟨c0, c1, c2⟩ := cf_cells HXd1.out
      have lc := lt_of_heap HXd1.out
      go_wp2_with fail
      clear c0 c1 c2 lc HXc1 HXd1 HS2
      generalize v1.alloc (.cells #[.int .i64 key, .bool true, .int .u64 ((k : Int) + 1)] 25) = V2 at *
      generalize v1.heap.size = pn at *
      unfold cfV at HOP
      go_at_call 16
      refine HOP.out.mono ?_
      rintro e v3 ⟨rfl, hS4, hb3⟩
      have HXc3 := Lib.hid (below_box hb3 HXc2.out)
      have HXd3 := Lib.hid (below_box hb3 HXd2.out)
      have HXn3 := Lib.hid (below_box hb3 HXn2.out)
      have hpk : pc + 1 < v3.heap.size := lt_of_heap HXd3.out
      have HB4 : Hid (Below v3.heap.size v3 (v3.alloc (.cells #[.int .i64 key, .bool true, .int .u64 ((k : Int) + 1)] 25))) := Lib.hid ((Below.refl _ _).alloc (Nat.le_refl _) _)
      have HXk4 := Lib.hid (heap_alloc_new v3 (.cells #[.int .i64 key, .bool true, .int .u64 ((k : Int) + 1)] 25))
      have HXc4 := Lib.hid (below_box HB4.out HXc3.out)
      have HXd4 := Lib.hid (below_box HB4.out HXd3.out)
      have HXn4 := Lib.hid (below_box HB4.out HXn3.out)
      have HS5 := Lib.hid (hS4.keep HB4.out)
      clear HB4 hS4 hb3 HOP HS3 HXc2 HXd2 HXn2 HXc3 HXd3 HXn3
      go_wp2_with fail
      generalize v3.alloc (.cells #[.int .i64 key, .bool true, .int .u64 ((k : Int) + 1)] 25) = V4 at *
      generalize v3.heap.size = pk at *
      have HGT := Lib.hid (get_ref b _ bm _ 400 M' x HRX.out V4 HS5.out.ar)
      rw [HND.out] at HGT
      unfold agg at HGT
      go_at_call 22
      refine HGT.out.mono ?_
      rintro e v5 ⟨rfl, hb5⟩
      have HB6 : Hid (Below V4.heap.size V4 (v5.alloc (.cells #[.int .i64 7, .int .u64 (k : Int), .int .i64 key, .int .i64 0, .int .i64 key] 54))) := Lib.hid (hb5.alloc hb5.size _)
      have HXy6 := Lib.hid (heap_alloc_new v5 (.cells #[.int .i64 7, .int .u64 (k : Int), .int .i64 key, .int .i64 0, .int .i64 key] 54))
      have HXc6 := Lib.hid (below_box HB6.out HXc4.out)
      have HXd6 := Lib.hid (below_box HB6.out HXd4.out)
      have HXn6 := Lib.hid (below_box HB6.out HXn4.out)
      have HXk6 := Lib.hid (below_box HB6.out HXk4.out)
      have HS6 := Lib.hid (HS5.out.keep HB6.out)
      have HY5 := Lib.hid (below_box hb5 HXn4.out)
      have HZ5 := Lib.hid (below_box hb5 HXk4.out)
      have HC5 := Lib.hid (below_box hb5 HXc4.out)
      have HD5 := Lib.hid (below_box hb5 HXd4.out)
      clear HB6 hb5 HGT HS5 HXc4 HXd4 HXn4 HXk4
      obtain ⟨n0, n1, n2⟩ := cf_cells HY5.out
      obtain ⟨k0, k1, k2⟩ := cf_cells HZ5.out
      obtain ⟨c0, c1, c2⟩ := cf_cells HC5.out
      obtain ⟨d0, d1, d2⟩ := cf_cells HD5.out
      have ln := lt_of_heap HY5.out
      have lk := lt_of_heap HZ5.out
      have lc := lt_of_heap HC5.out
      have ld := lt_of_heap HD5.out
      have zc : ∀ j, v5.frozen? ⟨pc, j, none⟩ = false := fun j => frozen_of_row _ _ _ _ _ HC5.out
      have zd : ∀ j, v5.frozen? ⟨pc + 1, j, none⟩ = false := fun j => frozen_of_row _ _ _ _ _ HD5.out
      go_wp2_with fail
      clear n0 n1 n2 k0 k1 k2 c0 c1 c2 d0 d1 d2 ln lk lc ld zc zd HY5 HZ5 HC5 HD5
      generalize v5.alloc (.cells #[.int .i64 7, .int .u64 (k : Int), .int .i64 key, .int .i64 0, .int .i64 key] 54) = V6 at *
      obtain ⟨n0, n1, n2⟩ := cf_cells HXn6.out
      obtain ⟨k0, k1, k2⟩ := cf_cells HXk6.out
      obtain ⟨c0, c1, c2⟩ := cf_cells HXc6.out
      obtain ⟨d0, d1, d2⟩ := cf_cells HXd6.out
      have ln := lt_of_heap HXn6.out
      have lk := lt_of_heap HXk6.out
      have lc := lt_of_heap HXc6.out
      have ld := lt_of_heap HXd6.out
      have zc : ∀ j, V6.frozen? ⟨pc, j, none⟩ = false := fun j => frozen_of_row _ _ _ _ _ HXc6.out
      have zd : ∀ j, V6.frozen? ⟨pc + 1, j, none⟩ = false := fun j => frozen_of_row _ _ _ _ _ HXd6.out
      have q1 : pn ≠ pc := by omega
      have q2 : pn ≠ pc + 1 := by omega
      have q3 : pk ≠ pc := by omega
      have q4 : pk ≠ pc + 1 := by omega
      have HEND : Hid (St w ((((((V6.setCell ⟨pc, 0, none⟩ (.int .i64 key)).setCell ⟨pc, 1, none⟩ (.bool true)).setCell ⟨pc, 2, none⟩ (.int .u64 ((k : Int) + 1))).setCell ⟨pc + 1, 0, none⟩ (.int .i64 key)).setCell ⟨pc + 1, 1, none⟩ (.bool true)).setCell ⟨pc + 1, 2, none⟩ (.int .u64 ((k : Int) + 1))).drew b g2 bm cap2 400 M' ∧ ((((((V6.setCell ⟨pc, 0, none⟩ (.int .i64 key)).setCell ⟨pc, 1, none⟩ (.bool true)).setCell ⟨pc, 2, none⟩ (.int .u64 ((k : Int) + 1))).setCell ⟨pc + 1, 0, none⟩ (.int .i64 key)).setCell ⟨pc + 1, 1, none⟩ (.bool true)).setCell ⟨pc + 1, 2, none⟩ (.int .u64 ((k : Int) + 1))).drew.heap[pc]? = some (.cells #[.int .i64 key, .bool true, .int .u64 ((k : Int) + 1)] 25 (0, 0)) ∧ ((((((V6.setCell ⟨pc, 0, none⟩ (.int .i64 key)).setCell ⟨pc, 1, none⟩ (.bool true)).setCell ⟨pc, 2, none⟩ (.int .u64 ((k : Int) + 1))).setCell ⟨pc + 1, 0, none⟩ (.int .i64 key)).setCell ⟨pc + 1, 1, none⟩ (.bool true)).setCell ⟨pc + 1, 2, none⟩ (.int .u64 ((k : Int) + 1))).drew.heap[pc + 1]? = some (.cells #[.int .i64 key, .bool true, .int .u64 ((k : Int) + 1)] 25 (0, 0))) := Lib.hid (by
        have h1 := HS6.out.set3 HXc6.out hpc (.int .i64 key) (.bool true) (.int .u64 ((k : Int) + 1))
        have h2 := set3_far (p := pc) (k := pc + 1) (by omega) HXd6.out (.int .i64 key) (.bool true) (.int .u64 ((k : Int) + 1))
        have h3 := set3_at HXc6.out (.int .i64 key) (.bool true) (.int .u64 ((k : Int) + 1))
        have h4 := h1.set3 h2 (by omega) (.int .i64 key) (.bool true) (.int .u64 ((k : Int) + 1))
        have h5 := set3_far (p := pc + 1) (k := pc) (by omega) h3 (.int .i64 key) (.bool true) (.int .u64 ((k : Int) + 1))
        have h6 := set3_at h2 (.int .i64 key) (.bool true) (.int .u64 ((k : Int) + 1))
        exact ⟨h4.keep (Below.refl _ _).drew, below_box (Below.refl _ _).drew h5, below_box (Below.refl _ _).drew h6⟩)
      have hkk : (((k + 1 : Nat)) : Int) = (k : Int) + 1 := by simp
      have HKK := Lib.hid hkk; clear hkk
      refine wp_region_noPanic ?_
      refine wp_region_held_drew (S := (fun W' => (W'.cell? ⟨pn, 0, none⟩ = some (.int .i64 key) ∧ W'.cell? ⟨pn, 1, none⟩ = some (.bool true) ∧ W'.cell? ⟨pn, 2, none⟩ = some (.int .u64 ((k : Int) + 1))) ∧ (W'.cell? ⟨pk, 0, none⟩ = some (.int .i64 key) ∧ W'.cell? ⟨pk, 1, none⟩ = some (.bool true) ∧ W'.cell? ⟨pk, 2, none⟩ = some (.int .u64 ((k : Int) + 1))))) (by kernel_rfl) ?_ (fun hHeld => ?_)
      · ((try dsimp only); first | (go_simp; done) | (simp [*]; done))
      refine wpAnyH_take (i := 0) (v := ?_) rfl (by kernel_rfl) (by kernel_rfl) (by kernel_rfl) (fun _ _ _ h => h) (Or.inl ⟨by rfl, ?_⟩) (by assumption) ?_
      rotate_left
      · (intro w hSw; (try dsimp only at hSw); go_simp; try with_reducible rfl)
      try simp only [List.getElem_toArray, List.getElem_cons_zero, Act.put, List.setIfInBounds_toArray, List.set_cons_zero, List.set_cons_succ]
      refine wpAnyH_take (i := 1) (v := ?_) rfl (by kernel_rfl) (by kernel_rfl) (by kernel_rfl) (fun _ _ _ h => h) (Or.inl ⟨by rfl, ?_⟩) (by assumption) ?_
      rotate_left
      · (intro w hSw; (try dsimp only at hSw); go_simp; try with_reducible rfl)
      try simp only [List.getElem_toArray, List.getElem_cons_succ, List.getElem_cons_zero, Act.put, List.setIfInBounds_toArray, List.set_cons_zero, List.set_cons_succ]
      refine wpAnyH_ready (rs := [2]) (by kernel_rfl) (by simp) ?_
      refine AllReadyH.cons rfl (fun K hK => ?_) AllReadyH.nil
      go_simp
      refine hK.out _ _ ?_ (fun hHeld => ?_)
      · ((try dsimp only); first | (go_simp; done) | (simp [*]; done))
      clear hK K
      try simp only [List.getElem_toArray, List.getElem_cons_succ, List.getElem_cons_zero, Act.put, List.setIfInBounds_toArray, List.set_cons_zero, List.set_cons_succ]
      refine wpAnyH_ready (rs := [3]) (by kernel_rfl) (by simp) ?_
      refine AllReadyH.cons rfl (fun K hK => ?_) AllReadyH.nil
      go_simp
      refine hK.out _ _ ?_ (fun hHeld => ?_)
      · ((try dsimp only); first | (go_simp; done) | (simp [*]; done))
      clear hK K
      try simp only [List.getElem_toArray, List.getElem_cons_succ, List.getElem_cons_zero, Act.put, List.setIfInBounds_toArray, List.set_cons_zero, List.set_cons_succ]
      refine wpAnyH_done (by kernel_rfl) ?_ _
      refine NoPanic.normal ?_
      go_wp2_with fail
      go_roundg (many - (k + 1))
      case rel => exact ⟨k + 1, by omega, by rw [HKK.out], g2, cap2, M', HEND.out.1, HLE.out, HKY.out, by rw [HKK.out]; exact HEND.out.2.1, by rw [HKK.out]; exact HEND.out.2.2⟩
      case measure => omega
    · obtain rfl : k = many := by omega
      have HA9 := Lib.hid (HAw.out _ hS.bel)
      have HS9 := Lib.hid hS
      clear hS hMl hMk hXc hXd
      go_wp2_with fail
      go_at_call 10
      refine HA9.out.mono ?_
      rintro e w9 ⟨rfl, hb9⟩
      go_wp2_with fail
      go_ret
      exact ⟨rfl, (HS9.out.keep hb9).bel⟩
end Go.Proofs.YtonpjogaamgceaaDoor
