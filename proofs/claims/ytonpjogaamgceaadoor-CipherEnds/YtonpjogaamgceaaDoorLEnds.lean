/- The walk of CipherEnds: a cipher whose number is so many below the last one seals so many, and then tells that no number is left; it opens as many. -/
import Derived.Test.YtonpjogaamgceaaDoorJn
namespace Go.Proofs.YtonpjogaamgceaaDoor
open Go.RowKit

theorem ends_mk (n : Int) : mkL 100 [zN] ⟨1, n, 0, 0, 0⟩ = [zN, ⟨1, n, 0, 0, 0⟩] ∧ mkR 100 [zN] ⟨1, n, 0, 0, 0⟩ = 1 ∧ mkE 100 [zN] ⟨1, n, 0, 0, 0⟩ = 0 :=
  mk_new (by simp [right, many, partsOk, partOk, numOk, lastOk]) (by simp [ix, zN]) (by simp)
theorem ends_rk {M : List Nd} {N : Int} (hM : WF M) (hl : M.length < 100) (hk : hasB M.length 1 = true) : rkE 100 M ⟨1, true, N⟩ = 0 ∧ ∃ r, rkC 100 M ⟨1, true, N⟩ = ⟨r, true, N⟩ := by
  have hr : right M (rkN ⟨1, true, N⟩) = true := by
    have hz : hasB M.length 0 = true := hasB_iff.2 ⟨by omega, by have := hM.toWFp.pos; omega⟩
    rw [right_iff]
    exact ⟨by simp [many, rkN], by simp [partsOk, partOk, many, rkN, hk, hz], by simp [numOk, rkN], by simp [lastOk, rkN]⟩
  have he : mkE 100 M (rkN ⟨1, true, N⟩) = 0 := mk_room hr hl
  exact ⟨by unfold rkE; rw [if_pos rfl]; exact he, _, by unfold rkC; rw [if_pos rfl, if_pos he]⟩
set_option maxRecDepth 100000 in
set_option maxHeartbeats 4000000 in
theorem ends_good (lf n : Int) (many : Nat) (hm : many ≤ 20) (hlf : (wrap64 lf).tmod 20 = many) (hn : u64ok n) (w : World) (hs : Shp w) : Calls Tryd.prog 9 #[.int .u8 lf, .int .u64 n] w fun e w' => e = .returned (.bool true) ∧ Below w.heap.size w w' := by
  have HN := Lib.hid (new_any 100 w)
  have HS := Lib.hid hs; clear hs
  have HAw := Lib.hid (fun w1 (h : Below w.heap.size w w1) => awake_any w1 (HS.out.below h))
  obtain ⟨N0, hN0⟩ : ∃ N0 : Int, N0 = 18446744073709551615 - many := ⟨_, rfl⟩
  have hw1 : IntKind.u64.wrap (many : Int) = many := by rw [IntKind.wrap_u64]; omega
  have hw2 : IntKind.u64.wrap (18446744073709551615 - (many : Int)) = N0 := by rw [IntKind.wrap_u64]; omega
  have HN0 := Lib.hid hN0; clear hN0
  go_enter Tryd.func9, Tryd.ntmps9
  go_wp2_with fail
  go_at_call 23
  refine HN.out.mono ?_
  rintro e w1 ⟨b, g, bm, rfl, hA1, h1, h2, h3, hb1⟩
  have HS1 : Hid (St w w1 b g bm 1 100 [zN]) := Lib.hid ⟨hA1, hb1, h1, h2, h3⟩
  clear hA1 hb1 h1 h2 h3 HN
  have HM1 := Lib.hid (HS1.out.make HS.out ⟨1, n, 0, 0, 0⟩ (by simp only [Nd.ok, i64ok]; exact ⟨by omega, hn, by omega, by omega, by omega⟩))
  rw [(ends_mk n).1, (ends_mk n).2.1, (ends_mk n).2.2] at HM1
  unfold agg at HM1
  go_wp2_with fail
  go_at_call 24
  refine HM1.out.mono ?_
  rintro e w7 ⟨g2, cap2, rfl, hS2, -⟩
  have HS7 := Lib.hid hS2; clear hS2 HM1 HS1
  have HB8 : Hid (Below w7.heap.size w7 ((w7.alloc (.cells #[.int .i64 1, .bool true, .int .u64 N0] 25)).alloc (.cells #[.int .i64 1, .bool true, .int .u64 N0] 25))) := Lib.hid (((Below.refl _ _).alloc (Nat.le_refl _) _).alloc (by simp) _)
  have HC8 : Hid (((w7.alloc (.cells #[.int .i64 1, .bool true, .int .u64 N0] 25)).alloc (.cells #[.int .i64 1, .bool true, .int .u64 N0] 25)).heap[w7.heap.size]? = some (.cells #[.int .i64 1, .bool true, .int .u64 N0] 25 (0, 0))) := Lib.hid (by rw [Below.heap_alloc _ _ _ (by simp)]; exact heap_alloc_new w7 _)
  have HD8 : Hid (((w7.alloc (.cells #[.int .i64 1, .bool true, .int .u64 N0] 25)).alloc (.cells #[.int .i64 1, .bool true, .int .u64 N0] 25)).heap[w7.heap.size + 1]? = some (.cells #[.int .i64 1, .bool true, .int .u64 N0] 25 (0, 0))) := Lib.hid (by
    have := heap_alloc_new (w7.alloc (.cells #[.int .i64 1, .bool true, .int .u64 N0] 25)) (.cells #[.int .i64 1, .bool true, .int .u64 N0] 25)
    rwa [World.size_alloc] at this)
  have HS8 := Lib.hid (HS7.out.keep HB8.out)
  have hcw : w.heap.size ≤ w7.heap.size := HS7.out.bel.size
  clear HB8
  go_wp2_with fail
  generalize (w7.alloc (.cells #[.int .i64 1, .bool true, .int .u64 N0] 25)).alloc (.cells #[.int .i64 1, .bool true, .int .u64 N0] 25) = W8 at *
  generalize w7.heap.size = pc at *
  have hpc : w.heap.size ≤ pc := hcw
  clear hcw hw1 hw2 hlf HS7
  have hmi : (many : Int) ≤ 20 := by omega
  go_loopg [11, 12, 13, 14, 15, 16, 45] many (fun q _ _ _ _ _ _ u45 wv => ∃ k : Nat, k + q = many ∧ u45 = .int .i64 k ∧ ∃ g' cap' M, St w wv b g' bm cap' 100 M ∧ M.length ≤ 2 + k ∧ hasB M.length 1 = true ∧ wv.heap[pc]? = some (.cells #[.int .i64 1, .bool true, .int .u64 (N0 + (k : Int))] 25 (0, 0)) ∧ wv.heap[pc + 1]? = some (.cells #[.int .i64 1, .bool true, .int .u64 (N0 + (k : Int))] 25 (0, 0)))
  case atStart => exact ⟨0, by omega, rfl, _, _, _, HS8.out, by simp, by simp [hasB], by simpa using HC8.out, by simpa using HD8.out⟩
  case round =>
    obtain ⟨k, hkq, rfl, g1, cap1, M, hS, hMl, hMk, hXc, hXd⟩ := hrel
    by_cases hlt : k < many
    · have hlt' : (k : Int) < many := by omega
      have hN1 := HN0.out
      have HCT := Lib.hid (ct_step (lim := 100) (M := M) (key := 1) (N := N0 + (k : Int)) hS.ar.wf (by omega) (by decide) hMk (by omega) (by unfold lastU; omega))
      have HU : Hid (u64ok (N0 + (k : Int))) := Lib.hid (by constructor <;> omega)
      have HS1 := Lib.hid hS
      have HXc := Lib.hid hXc
      have HXd := Lib.hid hXd
      have HMl := Lib.hid hMl
      have HMk := Lib.hid hMk
      clear hN1
      have HSL := Lib.hid (HS1.out.seal HS.out ⟨1, true, N0 + (k : Int)⟩ 0 1 HU.out)
      rw [HCT.out.e, HCT.out.c] at HSL
      unfold cfV at HSL
      obtain ⟨c0, c1, c2⟩ := cf_cells HXc.out
      have lc := lt_of_heap HXc.out
      clear hS hMl hMk hXc hXd
      go_wp2_with fail
      go_at_call 12
      refine HSL.out.mono ?_
      rintro e v1 ⟨g2, cap2, rfl, hS2, hk2⟩
      have HXc1 := Lib.hid (HS1.out.ar.boxKept hk2 HXc.out (by decide) (by decide))
      have HXd1 := Lib.hid (HS1.out.ar.boxKept hk2 HXd.out (by decide) (by decide))
      have HS2 := Lib.hid hS2
      have hpn : pc + 1 < v1.heap.size := lt_of_heap HXd1.out
      have HB2 : Hid (Below v1.heap.size v1 (v1.alloc (.cells #[.int .i64 1, .bool true, .int .u64 (N0 + (k : Int) + 1)] 25))) := Lib.hid ((Below.refl _ _).alloc (Nat.le_refl _) _)
      have HXn2 := Lib.hid (heap_alloc_new v1 (.cells #[.int .i64 1, .bool true, .int .u64 (N0 + (k : Int) + 1)] 25))
      have HXc2 := Lib.hid (below_box HB2.out HXc1.out)
      have HXd2 := Lib.hid (below_box HB2.out HXd1.out)
      have HS3 := Lib.hid (HS2.out.keep HB2.out)
      have HOP := Lib.hid (HS3.out.opens ⟨1, true, N0 + (k : Int)⟩ 0 (slR 100 M ⟨1, true, N0 + (k : Int)⟩ 0 1) HU.out)
      rw [HCT.out.oe, HCT.out.or, HCT.out.oc] at HOP
      have HLE : Hid ((slL 100 M ⟨1, true, N0 + (k : Int)⟩ 0 1).length ≤ 2 + (k + 1)) := Lib.hid (by have := HCT.out.le; have := HMl.out; omega)
      have HKY : Hid (hasB (slL 100 M ⟨1, true, N0 + (k : Int)⟩ 0 1).length 1 = true) := Lib.hid (by have h1 := hasB_iff.1 HMk.out; have h2 := HCT.out.ge; exact hasB_iff.2 ⟨by omega, by omega⟩)
      clear HB2 hS2 hk2 HSL HS1 HXc HXd c0 c1 c2 lc HCT HMl HMk
      generalize slL 100 M ⟨1, true, N0 + (k : Int)⟩ 0 1 = M' at *
      generalize slR 100 M ⟨1, true, N0 + (k : Int)⟩ 0 1 = x at *
      obtain ⟨c0, c1, c2⟩ := cf_cells HXd1.out
      have lc := lt_of_heap HXd1.out
      go_wp2_with fail
      clear c0 c1 c2 lc HXc1 HXd1 HS2
      generalize v1.alloc (.cells #[.int .i64 1, .bool true, .int .u64 (N0 + (k : Int) + 1)] 25) = V2 at *
      generalize v1.heap.size = pn at *
      unfold cfV at HOP
      go_at_call 16
      refine HOP.out.mono ?_
      rintro e v3 ⟨rfl, hS4, hb3⟩
      have HXc3 := Lib.hid (below_box hb3 HXc2.out)
      have HXd3 := Lib.hid (below_box hb3 HXd2.out)
      have HXn3 := Lib.hid (below_box hb3 HXn2.out)
      have hpk : pc + 1 < v3.heap.size := lt_of_heap HXd3.out
      have HB4 : Hid (Below v3.heap.size v3 (v3.alloc (.cells #[.int .i64 1, .bool true, .int .u64 (N0 + (k : Int) + 1)] 25))) := Lib.hid ((Below.refl _ _).alloc (Nat.le_refl _) _)
      have HXk6 := Lib.hid (heap_alloc_new v3 (.cells #[.int .i64 1, .bool true, .int .u64 (N0 + (k : Int) + 1)] 25))
      have HXc6 := Lib.hid (below_box HB4.out HXc3.out)
      have HXd6 := Lib.hid (below_box HB4.out HXd3.out)
      have HXn6 := Lib.hid (below_box HB4.out HXn3.out)
      have HS6 := Lib.hid (hS4.keep HB4.out)
      clear HB4 hS4 hb3 HOP HS3 HXc2 HXd2 HXn2 HXc3 HXd3 HXn3
      go_wp2_with fail
      generalize v3.alloc (.cells #[.int .i64 1, .bool true, .int .u64 (N0 + (k : Int) + 1)] 25) = V6 at *
      generalize v3.heap.size = pk at *
      obtain ⟨n0, n1, n2⟩ := cf_cells HXn6.out
      obtain ⟨k0, k1, k2⟩ := cf_cells HXk6.out
      obtain ⟨c0, c1, c2⟩ := cf_cells HXc6.out
      obtain ⟨d0, d1, d2⟩ := cf_cells HXd6.out
      have ln := lt_of_heap HXn6.out
      have lk := lt_of_heap HXk6.out
      have lc := lt_of_heap HXc6.out
      have ld := lt_of_heap HXd6.out
      have zc : ∀ j, V6.frozen? ⟨pc, j, none⟩ = false := fun j => frozen_of_row _ _ _ _ _ HXc6.out
      have zd : ∀ j, V6.frozen? ⟨pc + 1, j, none⟩ = false := fun j => frozen_of_row _ _ _ _ _ HXd6.out
      have q1 : pn ≠ pc := by omega
      have q2 : pn ≠ pc + 1 := by omega
      have q3 : pk ≠ pc := by omega
      have q4 : pk ≠ pc + 1 := by omega
      have HEND : Hid (St w ((((((V6.setCell ⟨pc, 0, none⟩ (.int .i64 1)).setCell ⟨pc, 1, none⟩ (.bool true)).setCell ⟨pc, 2, none⟩ (.int .u64 (N0 + (k : Int) + 1))).setCell ⟨pc + 1, 0, none⟩ (.int .i64 1)).setCell ⟨pc + 1, 1, none⟩ (.bool true)).setCell ⟨pc + 1, 2, none⟩ (.int .u64 (N0 + (k : Int) + 1))).drew b g2 bm cap2 100 M' ∧ ((((((V6.setCell ⟨pc, 0, none⟩ (.int .i64 1)).setCell ⟨pc, 1, none⟩ (.bool true)).setCell ⟨pc, 2, none⟩ (.int .u64 (N0 + (k : Int) + 1))).setCell ⟨pc + 1, 0, none⟩ (.int .i64 1)).setCell ⟨pc + 1, 1, none⟩ (.bool true)).setCell ⟨pc + 1, 2, none⟩ (.int .u64 (N0 + (k : Int) + 1))).drew.heap[pc]? = some (.cells #[.int .i64 1, .bool true, .int .u64 (N0 + (k : Int) + 1)] 25 (0, 0)) ∧ ((((((V6.setCell ⟨pc, 0, none⟩ (.int .i64 1)).setCell ⟨pc, 1, none⟩ (.bool true)).setCell ⟨pc, 2, none⟩ (.int .u64 (N0 + (k : Int) + 1))).setCell ⟨pc + 1, 0, none⟩ (.int .i64 1)).setCell ⟨pc + 1, 1, none⟩ (.bool true)).setCell ⟨pc + 1, 2, none⟩ (.int .u64 (N0 + (k : Int) + 1))).drew.heap[pc + 1]? = some (.cells #[.int .i64 1, .bool true, .int .u64 (N0 + (k : Int) + 1)] 25 (0, 0))) := Lib.hid (by
        have h1 := HS6.out.set3 HXc6.out hpc (.int .i64 1) (.bool true) (.int .u64 (N0 + (k : Int) + 1))
        have h2 := set3_far (p := pc) (k := pc + 1) (by omega) HXd6.out (.int .i64 1) (.bool true) (.int .u64 (N0 + (k : Int) + 1))
        have h3 := set3_at HXc6.out (.int .i64 1) (.bool true) (.int .u64 (N0 + (k : Int) + 1))
        have h4 := h1.set3 h2 (by omega) (.int .i64 1) (.bool true) (.int .u64 (N0 + (k : Int) + 1))
        have h5 := set3_far (p := pc + 1) (k := pc) (by omega) h3 (.int .i64 1) (.bool true) (.int .u64 (N0 + (k : Int) + 1))
        have h6 := set3_at h2 (.int .i64 1) (.bool true) (.int .u64 (N0 + (k : Int) + 1))
        exact ⟨h4.keep (Below.refl _ _).drew, below_box (Below.refl _ _).drew h5, below_box (Below.refl _ _).drew h6⟩)
      have HKK : Hid (N0 + (((k + 1 : Nat)) : Int) = N0 + (k : Int) + 1) := Lib.hid (by omega)
      refine wp_region_noPanic ?_
      refine wp_region_held_drew (S := (fun W' => (W'.cell? ⟨pn, 0, none⟩ = some (.int .i64 1) ∧ W'.cell? ⟨pn, 1, none⟩ = some (.bool true) ∧ W'.cell? ⟨pn, 2, none⟩ = some (.int .u64 (N0 + (k : Int) + 1))) ∧ (W'.cell? ⟨pk, 0, none⟩ = some (.int .i64 1) ∧ W'.cell? ⟨pk, 1, none⟩ = some (.bool true) ∧ W'.cell? ⟨pk, 2, none⟩ = some (.int .u64 (N0 + (k : Int) + 1))))) (by kernel_rfl) ?_ (fun hHeld => ?_)
      · ((try dsimp only); first | (go_simp; done) | (simp [*]; done))
      refine wpAnyH_take (i := 0) (v := ?_) rfl (by kernel_rfl) (by kernel_rfl) (by kernel_rfl) (fun _ _ _ h => h) (Or.inl ⟨by rfl, ?_⟩) (by assumption) ?_
      rotate_left
      · (intro w hSw; (try dsimp only at hSw); go_simp; try with_reducible rfl)
      try simp only [List.getElem_toArray, List.getElem_cons_zero, Act.put, List.setIfInBounds_toArray, List.set_cons_zero, List.set_cons_succ]
      refine wpAnyH_take (i := 1) (v := ?_) rfl (by kernel_rfl) (by kernel_rfl) (by kernel_rfl) (fun _ _ _ h => h) (Or.inl ⟨by rfl, ?_⟩) (by assumption) ?_
      rotate_left
      · (intro w hSw; (try dsimp only at hSw); go_simp; try with_reducible rfl)
      try simp only [List.getElem_toArray, List.getElem_cons_succ, List.getElem_cons_zero, Act.put, List.setIfInBounds_toArray, List.set_cons_zero, List.set_cons_succ]
      refine wpAnyH_ready (rs := [2]) (by kernel_rfl) (by simp) ?_
      refine AllReadyH.cons rfl (fun K hK => ?_) AllReadyH.nil
      go_simp
      refine hK.out _ _ ?_ (fun hHeld => ?_)
      · ((try dsimp only); first | (go_simp; done) | (simp [*]; done))
      clear hK K
      try simp only [List.getElem_toArray, List.getElem_cons_succ, List.getElem_cons_zero, Act.put, List.setIfInBounds_toArray, List.set_cons_zero, List.set_cons_succ]
      refine wpAnyH_ready (rs := [3]) (by kernel_rfl) (by simp) ?_
      refine AllReadyH.cons rfl (fun K hK => ?_) AllReadyH.nil
      go_simp
      refine hK.out _ _ ?_ (fun hHeld => ?_)
      · ((try dsimp only); first | (go_simp; done) | (simp [*]; done))
      clear hK K
      try simp only [List.getElem_toArray, List.getElem_cons_succ, List.getElem_cons_zero, Act.put, List.setIfInBounds_toArray, List.set_cons_zero, List.set_cons_succ]
      refine wpAnyH_done (by kernel_rfl) ?_ _
      refine NoPanic.normal ?_
      go_wp2_with fail
      go_roundg (many - (k + 1))
      case rel => exact ⟨k + 1, by omega, by simp, g2, cap2, M', HEND.out.1, HLE.out, HKY.out, by rw [HKK.out]; exact HEND.out.2.1, by rw [HKK.out]; exact HEND.out.2.2⟩
      case measure => omega
    · obtain rfl : k = many := by omega
      have hlast : N0 + (k : Int) = 18446744073709551615 := by have := HN0.out; omega
      rw [hlast] at hXc hXd
      have hch : chk M.length ⟨1, true, lastU⟩ 0 1 = 8 := chk_last (by rw [hMk, hasB_iff.2 ⟨by omega, by have := hS.ar.wf.toWFp.pos; omega⟩]; rfl) rfl hMk rfl
      have hc0 : chk M.length ⟨1, true, lastU⟩ 0 1 ≠ 0 := by rw [hch]; decide
      obtain ⟨e1, e2, e3, e4⟩ := chk_err (lim := 100) hc0
      obtain ⟨o2, o3, o4⟩ := op_err hc0
      obtain ⟨r1, r, r2⟩ := ends_rk (N := lastU) hS.ar.wf (by omega) hMk
      have HSL := Lib.hid (hS.seal HS.out ⟨1, true, lastU⟩ 0 1 (by constructor <;> (unfold lastU; simp)))
      rw [e1, e2, e3, e4, hch] at HSL
      have HOP := Lib.hid (fun w' g cap (h : St w w' b g bm cap 100 M) => h.opens ⟨1, true, lastU⟩ 0 1 (by constructor <;> (unfold lastU; simp)))
      rw [o2, o3, o4, hch] at HOP
      have HRK := Lib.hid (fun w' g cap (h : St w w' b g bm cap 100 M) => h.rekey HS.out ⟨1, true, lastU⟩ (by constructor <;> constructor <;> (try unfold lastU) <;> simp))
      rw [r1, r2] at HRK
      unfold cfV lastU at HSL HOP HRK
      unfold cZ at HSL HOP
      have HS1 := Lib.hid hS
      have HXc := Lib.hid hXc
      have HXd := Lib.hid hXd
      obtain ⟨c0, c1, c2⟩ := cf_cells HXc.out
      have lc := lt_of_heap HXc.out
      clear hS hMl hMk hXc hXd hch hc0 e1 e2 e3 e4 o2 o3 o4 r1 r2 hlast
      go_wp2_with fail
      go_at_call 12
      refine HSL.out.mono ?_
      rintro e v1 ⟨g2, cap2, rfl, hS2, hk2⟩
      have HXc1 := Lib.hid (HS1.out.ar.boxKept hk2 HXc.out (by decide) (by decide))
      have HXd1 := Lib.hid (HS1.out.ar.boxKept hk2 HXd.out (by decide) (by decide))
      have HB2 : Hid (Below v1.heap.size v1 (v1.alloc (.cells #[.int .i64 0, .bool false, .int .u64 0] 25))) := Lib.hid ((Below.refl _ _).alloc (Nat.le_refl _) _)
      have HXc2 := Lib.hid (below_box HB2.out HXc1.out)
      have HXd2 := Lib.hid (below_box HB2.out HXd1.out)
      have HS2 := Lib.hid (hS2.keep HB2.out)
      clear HB2 hS2 hk2 HSL HXc HXd HS1 c0 c1 c2 lc
      obtain ⟨c0, c1, c2⟩ := cf_cells HXd1.out
      have lc := lt_of_heap HXd1.out
      go_wp2_with fail
      clear c0 c1 c2 lc HXc1 HXd1
      generalize v1.alloc (.cells #[.int .i64 0, .bool false, .int .u64 0] 25) = V2 at *
      go_at_call 16
      refine (HOP.out _ _ _ HS2.out).mono ?_
      rintro e v3 ⟨rfl, hS4, hb3⟩
      have HXc3 := Lib.hid (below_box hb3 HXc2.out)
      have HB4 : Hid (Below v3.heap.size v3 (v3.alloc (.cells #[.int .i64 0, .bool false, .int .u64 0] 25))) := Lib.hid ((Below.refl _ _).alloc (Nat.le_refl _) _)
      have HXc4 := Lib.hid (below_box HB4.out HXc3.out)
      have HS4 := Lib.hid (hS4.keep HB4.out)
      clear HB4 hS4 hb3 HOP HS2 HXc2 HXd2
      obtain ⟨c0, c1, c2⟩ := cf_cells HXc3.out
      have lc := lt_of_heap HXc3.out
      go_wp2_with fail
      clear c0 c1 c2 lc HXc3
      generalize v3.alloc (.cells #[.int .i64 0, .bool false, .int .u64 0] 25) = V4 at *
      go_at_call 18
      refine (HRK.out _ _ _ HS4.out).mono ?_
      rintro e v5 ⟨g5, cap5, rfl, hS5, hk5⟩
      have HXc5 := Lib.hid (HS4.out.ar.boxKept hk5 HXc4.out (by decide) (by decide))
      have HB6 : Hid (Below v5.heap.size v5 (v5.alloc (.cells #[.int .i64 r, .bool true, .int .u64 18446744073709551615] 25))) := Lib.hid ((Below.refl _ _).alloc (Nat.le_refl _) _)
      have HA6 := Lib.hid (HAw.out _ (hS5.keep HB6.out).bel)
      have HS6 := Lib.hid (hS5.keep HB6.out)
      clear HB6 hS5 hk5 HRK HS4 HXc4
      obtain ⟨c0, c1, c2⟩ := cf_cells HXc5.out
      have lc := lt_of_heap HXc5.out
      go_wp2_with fail
      go_at_call 10
      refine HA6.out.mono ?_
      rintro e w9 ⟨rfl, hb9⟩
      go_wp2_with fail
      go_ret
      exact ⟨rfl, (HS6.out.keep hb9).bel⟩
end Go.Proofs.YtonpjogaamgceaaDoor
