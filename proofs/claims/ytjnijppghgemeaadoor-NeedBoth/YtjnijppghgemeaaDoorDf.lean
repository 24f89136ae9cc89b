/- Layer 8: the walks of the reference: of, pre, Of, Enough. -/
import Derived.Test.YtjnijppghgemeaaDoorDc
import Derived.Test.YtjnijppghgemeaaDoorDd
import Derived.Test.YtjnijppghgemeaaDoorDe
namespace Go.Proofs.YtjnijppghgemeaaDoor
open Go.RowKit Go.Shelf

set_option maxRecDepth 100000 in
set_option maxHeartbeats 4000000 in
theorem rof_any (a : Kq) (w : World) : Calls Tryd.prog 15 #[kqV a] w fun e w' => e = .returned (kqV a) ∧ Below w.heap.size w w' := by
  unfold kqV
  go_enter Tryd.func15, Tryd.ntmps15
  go_wp2_with fail
  refine bodyPost_ret (v := .agg #[.bool a.s, .bool a.e, .bool a.rs, .bool a.re, .int .i64 a.n]) (by simp [results, Tryd.results15, go_sem]) rfl ?_
  exact ⟨rfl, by first | exact (((Below.refl _ _).alloc (Nat.le_refl _) _).alloc (by simp) _) | exact set5_below (((Below.refl _ _).alloc (Nat.le_refl _) _).alloc (by simp) _) (by omega) _ _ _ _ _⟩
set_option maxRecDepth 100000 in
set_option maxHeartbeats 4000000 in
theorem renough_any (a b : Kq) (w : World) : Calls Tryd.prog 18 #[kqV a, kqV b] w fun e w' => e = .returned (.bool (enB a b)) ∧ Below w.heap.size w w' := by
  unfold kqV
  go_enter Tryd.func18, Tryd.ntmps18
  go_wp2_with fail
  all_goals
    go_ret
    refine ⟨?_, ((Below.refl _ _).alloc (Nat.le_refl _) _).alloc (by simp) _⟩
    congr 2
    first
      | (simp_all [enB]; done)
      | (simp_all [enB]; rfl)
set_option maxRecDepth 100000 in
set_option maxHeartbeats 4000000 in
theorem pre8_any (x : Sl) (p : Pt) (r t : Int) (hr0 : r = 0 ∨ r = 1) (w : World) (hp : PatA w x p) (hr : right p = true) : Calls Tryd.prog 32 #[patV x p, .int .i64 r, .int .i64 t] w fun e w' => e = .returned (.bool ((prw p r).contains t)) ∧ Below w.heap.size w w' := by
  have HB := Lib.hid ((Below.refl w.heap.size w).alloc (Nat.le_refl _) (.cells #[.string ⟨p.nm.toArray⟩, .slice x.s0 p.p0.length x.c0, .slice x.s1 p.p1.length x.c1, .slice x.s2 p.ms.length x.c2] 36))
  have HT := Lib.hid (told7_any x p r t hr0 0 0 _ (hp.keep HB.out) hr (by omega) (by omega))
  have e : tld p r t (ahd p.ms 0 0) = (prw p r).contains t := by
    have : ahd p.ms 0 0 = [] := by unfold ahd; simp [flat]
    rw [this]; simp [tld, met_nil]
  rw [e] at HT
  clear e hp hr hr0
  rw [natZero] at HT
  generalize (prw p r).contains t = v at HT ⊢
  unfold patV at HT ⊢
  go_enter Tryd.func32, Tryd.ntmps32
  go_wp2_with fail
  go_at_call 31
  refine HT.out.mono ?_
  rintro e w1 ⟨rfl, hb1⟩
  go_wp2_with fail
  go_ret
  exact ⟨rfl, HB.out.trans (hb1.mono (by simp))⟩
/-- The reference's pattern in its box, and the answer's box behind it. -/
structure Pm (w : World) (x : Sl) (p : Pt) (wr : World) : Prop where
  pb : wr.heap[w.heap.size]? = some (.cells #[.string ⟨p.nm.toArray⟩, .slice x.s0 p.p0.length x.c0, .slice x.s1 p.p1.length x.c1, .slice x.s2 p.ms.length x.c2] 36 (0, 0))
  res : wr.heap[w.heap.size + 1]? = some (.cells #[.bool false, .bool false, .bool false, .bool false, .int .i64 0] 41 (0, 0))
  bel : Below w.heap.size w wr
theorem Pm.keep {w : World} {x : Sl} {p : Pt} {wr wx : World} (h : Pm w x p wr) (hb : Below wr.heap.size wr wx) : Pm w x p wx :=
  ⟨(hb.block _ (lt_of_heap h.pb)).trans h.pb, (hb.block _ (lt_of_heap h.res)).trans h.res, h.bel.trans (hb.mono h.bel.size)⟩
theorem pm_new (w : World) (x : Sl) (p : Pt) : Pm w x p ((w.alloc (.cells #[.string ⟨p.nm.toArray⟩, .slice x.s0 p.p0.length x.c0, .slice x.s1 p.p1.length x.c1, .slice x.s2 p.ms.length x.c2] 36)).alloc (.cells #[.bool false, .bool false, .bool false, .bool false, .int .i64 0] 41)) := by
  refine ⟨?_, ?_, ((Below.refl _ _).alloc (Nat.le_refl _) _).alloc (by simp) _⟩
  · rw [Below.heap_alloc _ _ _ (by simp)]; exact heap_alloc_new w _
  · have := heap_alloc_new (w.alloc (.cells #[.string ⟨p.nm.toArray⟩, .slice x.s0 p.p0.length x.c0, .slice x.s1 p.p1.length x.c1, .slice x.s2 p.ms.length x.c2] 36)) (.cells #[.bool false, .bool false, .bool false, .bool false, .int .i64 0] 41)
    rwa [World.size_alloc] at this
set_option maxRecDepth 100000 in
set_option maxHeartbeats 4000000 in
theorem rof8_0 (x : Sl) (p : Pt) (w : World) (hp : PatA w x p) (hr : right p = true) : Calls Tryd.prog 16 #[patV x p, .int .i64 0] w fun e w' => e = .returned (kqV (kq p 0)) ∧ Below w.heap.size w w' := by
  have HN := Lib.hid (pm_new w x p)
  have HT := Lib.hid (fun wx (hb : Below w.heap.size w wx) => told7_any x p 0 2 (by decide) 99 0 wx (hp.keep hb) hr (by omega) (by omega))
  rw [ahd_over (show p.ms.length ≤ 99 by have := (right_bd hr).2.2.2.2.2; omega)] at HT
  have HP := Lib.hid (fun (s t : Int) (hs : s = 0 ∨ s = 1) wx (hb : Below w.heap.size w wx) => pre8_any x p s t hs wx (hp.keep hb) hr)
  have HP1 := Lib.hid (fun wx hb => HP.out 0 1 (by decide) wx hb)
  have HP2 := Lib.hid (fun wx hb => HP.out 1 2 (by decide) wx hb)
  have HP3 := Lib.hid (fun wx hb => HP.out 1 1 (by decide) wx hb)
  have HM := Lib.hid (fun wx (hb : Below w.heap.size w wx) => metA_any x p 2 7 wx (hp.keep hb) hr)
  have HQ : Hid (kqV (kq p 0) = .agg #[.bool (tld p 0 2 (flat p.ms)), .bool ((prw p 0).contains 1), .bool ((prw p 1).contains 2), .bool ((prw p 1).contains 1), .int .i64 (met 2 7 (flat p.ms) : Nat)]) := Lib.hid rfl
  generalize tld p 0 2 (flat p.ms) = v0 at HT HQ
  generalize (prw p 0).contains 1 = v1 at HP1 HQ
  generalize (prw p 1).contains 2 = v2 at HP2 HQ
  generalize (prw p 1).contains 1 = v3 at HP3 HQ
  generalize met 2 7 (flat p.ms) = v4 at HM HQ
  clear HP hp hr
  rw [HQ.out]
  simp only [natZero, show ((99 : Nat) : Int) = 99 from rfl] at HT
  unfold patV at HT HP1 HP2 HP3 HM ⊢
  obtain ⟨b0, b1, b2, b3, -⟩ := box4c HN.out.pb
  have lw2 := lt_of_heap HN.out.pb
  obtain ⟨r0, r1, r2, r3, r4, y0, y1, y2, y3, y4⟩ := box5c HN.out.res
  have lr2 := lt_of_heap HN.out.res
  go_enter Tryd.func16, Tryd.ntmps16
  go_wp2_with fail
  have HN0 := Lib.hid (HN.out.keep (Below.refl _ _).drew)
  refine wp_region_noPanic ?_
  refine wp_region_held_drew (S := (fun w' => w'.cell? ⟨w.heap.size, 0, none⟩ = some (.string ⟨p.nm.toArray⟩) ∧ w'.cell? ⟨w.heap.size, 1, none⟩ = some (.slice x.s0 p.p0.length x.c0) ∧ w'.cell? ⟨w.heap.size, 2, none⟩ = some (.slice x.s1 p.p1.length x.c1) ∧ w'.cell? ⟨w.heap.size, 3, none⟩ = some (.slice x.s2 p.ms.length x.c2))) (by kernel_rfl) ?_ (fun hHeld => ?_)
  · ((try dsimp only); first | (go_simp; done) | (simp [*]; done))
  refine wpAnyH_take (i := 0) (v := ?_) rfl (by kernel_rfl) (by kernel_rfl) (by kernel_rfl) (fun _ _ _ h => h) (Or.inl ⟨by rfl, ?_⟩) (by assumption) ?_
  rotate_left
  · (intro w hSw; (try dsimp only at hSw); go_simp; try with_reducible rfl)
  try simp only [List.getElem_toArray, List.getElem_cons_zero, Act.put, List.setIfInBounds_toArray, List.set_cons_zero, List.set_cons_succ]
  refine wpAnyH_take (i := 1) (v := ?_) rfl (by kernel_rfl) (by kernel_rfl) (by kernel_rfl) (fun _ _ _ h => h) (Or.inl ⟨by rfl, ?_⟩) (by assumption) ?_
  rotate_left
  · (intro w hSw; (try dsimp only at hSw); go_simp; try with_reducible rfl)
  try simp only [List.getElem_toArray, List.getElem_cons_succ, List.getElem_cons_zero, Act.put, List.setIfInBounds_toArray, List.set_cons_zero, List.set_cons_succ]
  refine wpAnyH_take (i := 3) (v := ?_) rfl (by kernel_rfl) (by kernel_rfl) (by kernel_rfl) (fun _ _ _ h => h) (Or.inl ⟨by rfl, ?_⟩) (by assumption) ?_
  rotate_left
  · (intro w hSw; (try dsimp only at hSw); go_simp; try with_reducible rfl)
  try simp only [List.getElem_toArray, List.getElem_cons_succ, List.getElem_cons_zero, Act.put, List.setIfInBounds_toArray, List.set_cons_zero, List.set_cons_succ]
  refine wpAnyH_take (i := 4) (v := ?_) rfl (by kernel_rfl) (by kernel_rfl) (by kernel_rfl) (fun _ _ _ h => h) (Or.inl ⟨by rfl, ?_⟩) (by assumption) ?_
  rotate_left
  · (intro w hSw; (try dsimp only at hSw); go_simp; try with_reducible rfl)
  try simp only [List.getElem_toArray, List.getElem_cons_succ, List.getElem_cons_zero, Act.put, List.setIfInBounds_toArray, List.set_cons_zero, List.set_cons_succ]
  refine wpAnyH_take (i := 6) (v := ?_) rfl (by kernel_rfl) (by kernel_rfl) (by kernel_rfl) (fun _ _ _ h => h) (Or.inl ⟨by rfl, ?_⟩) (by assumption) ?_
  rotate_left
  · (intro w hSw; (try dsimp only at hSw); go_simp; try with_reducible rfl)
  try simp only [List.getElem_toArray, List.getElem_cons_succ, List.getElem_cons_zero, Act.put, List.setIfInBounds_toArray, List.set_cons_zero, List.set_cons_succ]
  refine wpAnyH_take (i := 7) (v := ?_) rfl (by kernel_rfl) (by kernel_rfl) (by kernel_rfl) (fun _ _ _ h => h) (Or.inl ⟨by rfl, ?_⟩) (by assumption) ?_
  rotate_left
  · (intro w hSw; (try dsimp only at hSw); go_simp; try with_reducible rfl)
  try simp only [List.getElem_toArray, List.getElem_cons_succ, List.getElem_cons_zero, Act.put, List.setIfInBounds_toArray, List.set_cons_zero, List.set_cons_succ]
  refine wpAnyH_take (i := 9) (v := ?_) rfl (by kernel_rfl) (by kernel_rfl) (by kernel_rfl) (fun _ _ _ h => h) (Or.inl ⟨by rfl, ?_⟩) (by assumption) ?_
  rotate_left
  · (intro w hSw; (try dsimp only at hSw); go_simp; try with_reducible rfl)
  try simp only [List.getElem_toArray, List.getElem_cons_succ, List.getElem_cons_zero, Act.put, List.setIfInBounds_toArray, List.set_cons_zero, List.set_cons_succ]
  refine wpAnyH_take (i := 10) (v := ?_) rfl (by kernel_rfl) (by kernel_rfl) (by kernel_rfl) (fun _ _ _ h => h) (Or.inl ⟨by rfl, ?_⟩) (by assumption) ?_
  rotate_left
  · (intro w hSw; (try dsimp only at hSw); go_simp; try with_reducible rfl)
  try simp only [List.getElem_toArray, List.getElem_cons_succ, List.getElem_cons_zero, Act.put, List.setIfInBounds_toArray, List.set_cons_zero, List.set_cons_succ]
  refine wpAnyH_take (i := 12) (v := ?_) rfl (by kernel_rfl) (by kernel_rfl) (by kernel_rfl) (fun _ _ _ h => h) (Or.inl ⟨by rfl, ?_⟩) (by assumption) ?_
  rotate_left
  · (intro w hSw; (try dsimp only at hSw); go_simp; try with_reducible rfl)
  try simp only [List.getElem_toArray, List.getElem_cons_succ, List.getElem_cons_zero, Act.put, List.setIfInBounds_toArray, List.set_cons_zero, List.set_cons_succ]
  refine wpAnyH_ready (rs := [2]) (by kernel_rfl) (by simp) ?_
  refine AllReadyH.cons rfl (fun K hK => ?_) AllReadyH.nil
  go_simp
  (refine (HT.out _ HN0.out.bel).mono ?_; rintro e w1 ⟨rfl, hb1⟩; have HN1 := Lib.hid (HN0.out.keep hb1); clear hb1; obtain ⟨e1, f1, g1, h1, -⟩ := box4c HN1.out.pb; obtain ⟨i1, j1, k1, l1, m1, n1, o1, p1, q1, r1⟩ := box5c HN1.out.res; have lw1 := lt_of_heap HN1.out.res)
  go_wp2_with fail
  refine hK.out _ _ ?_ (fun hHeld => ?_)
  · ((try dsimp only); first | (go_simp; done) | (simp [*]; done))
  clear hK K
  try simp only [List.getElem_toArray, List.getElem_cons_succ, List.getElem_cons_zero, Act.put, List.setIfInBounds_toArray, List.set_cons_zero, List.set_cons_succ]
  refine wpAnyH_ready (rs := [5]) (by kernel_rfl) (by simp) ?_
  refine AllReadyH.cons rfl (fun K hK => ?_) AllReadyH.nil
  go_simp
  (refine (HP1.out _ HN1.out.bel).mono ?_; rintro e w2 ⟨rfl, hb2⟩; have HN2 := Lib.hid (HN1.out.keep hb2); clear hb2; obtain ⟨e2, f2, g2, h2, -⟩ := box4c HN2.out.pb; obtain ⟨i2, j2, k2, l2, m2, n2, o2, p2, q2, r2⟩ := box5c HN2.out.res; have lw2 := lt_of_heap HN2.out.res)
  go_wp2_with fail
  refine hK.out _ _ ?_ (fun hHeld => ?_)
  · ((try dsimp only); first | (go_simp; done) | (simp [*]; done))
  clear hK K
  try simp only [List.getElem_toArray, List.getElem_cons_succ, List.getElem_cons_zero, Act.put, List.setIfInBounds_toArray, List.set_cons_zero, List.set_cons_succ]
  refine wpAnyH_ready (rs := [8]) (by kernel_rfl) (by simp) ?_
  refine AllReadyH.cons rfl (fun K hK => ?_) AllReadyH.nil
  go_simp
  (refine (HP2.out _ HN2.out.bel).mono ?_; rintro e w3 ⟨rfl, hb3⟩; have HN3 := Lib.hid (HN2.out.keep hb3); clear hb3; obtain ⟨e3, f3, g3, h3, -⟩ := box4c HN3.out.pb; obtain ⟨i3, j3, k3, l3, m3, n3, o3, p3, q3, r3⟩ := box5c HN3.out.res; have lw3 := lt_of_heap HN3.out.res)
  go_wp2_with fail
  refine hK.out _ _ ?_ (fun hHeld => ?_)
  · ((try dsimp only); first | (go_simp; done) | (simp [*]; done))
  clear hK K
  try simp only [List.getElem_toArray, List.getElem_cons_succ, List.getElem_cons_zero, Act.put, List.setIfInBounds_toArray, List.set_cons_zero, List.set_cons_succ]
  refine wpAnyH_ready (rs := [11]) (by kernel_rfl) (by simp) ?_
  refine AllReadyH.cons rfl (fun K hK => ?_) AllReadyH.nil
  go_simp
  (refine (HP3.out _ HN3.out.bel).mono ?_; rintro e w4 ⟨rfl, hb4⟩; have HN4 := Lib.hid (HN3.out.keep hb4); clear hb4; obtain ⟨e4, f4, g4, h4, -⟩ := box4c HN4.out.pb; obtain ⟨i4, j4, k4, l4, m4, n4, o4, p4, q4, r4⟩ := box5c HN4.out.res; have lw4 := lt_of_heap HN4.out.res)
  go_wp2_with fail
  refine hK.out _ _ ?_ (fun hHeld => ?_)
  · ((try dsimp only); first | (go_simp; done) | (simp [*]; done))
  clear hK K
  try simp only [List.getElem_toArray, List.getElem_cons_succ, List.getElem_cons_zero, Act.put, List.setIfInBounds_toArray, List.set_cons_zero, List.set_cons_succ]
  refine wpAnyH_ready (rs := [13]) (by kernel_rfl) (by simp) ?_
  refine AllReadyH.cons rfl (fun K hK => ?_) AllReadyH.nil
  go_simp
  (refine (HM.out _ HN4.out.bel).mono ?_; rintro e w5 ⟨rfl, hb5⟩; have HN5 := Lib.hid (HN4.out.keep hb5); clear hb5; obtain ⟨e5, f5, g5, h5, -⟩ := box4c HN5.out.pb; obtain ⟨i5, j5, k5, l5, m5, n5, o5, p5, q5, r5⟩ := box5c HN5.out.res; have lw5 := lt_of_heap HN5.out.res)
  go_wp2_with fail
  refine hK.out _ _ ?_ (fun hHeld => ?_)
  · ((try dsimp only); first | (go_simp; done) | (simp [*]; done))
  clear hK K
  try simp only [List.getElem_toArray, List.getElem_cons_succ, List.getElem_cons_zero, Act.put, List.setIfInBounds_toArray, List.set_cons_zero, List.set_cons_succ]
  refine wpAnyH_take (i := 14) (v := ?_) rfl (by kernel_rfl) (by kernel_rfl) (by kernel_rfl) (fun _ _ _ h => h) (Or.inl ⟨by rfl, ?_⟩) (by assumption) ?_
  rotate_left
  · (intro w hSw; (try dsimp only at hSw); go_simp; try with_reducible rfl)
  try simp only [List.getElem_toArray, List.getElem_cons_succ, List.getElem_cons_zero, Act.put, List.setIfInBounds_toArray, List.set_cons_zero, List.set_cons_succ]
  refine wpAnyH_ready (rs := [15]) (by kernel_rfl) (by simp) ?_
  refine AllReadyH.cons rfl (fun K hK => ?_) AllReadyH.nil
  go_simp
  refine hK.out _ _ ?_ (fun hHeld => ?_)
  · ((try dsimp only); first | (go_simp; done) | (simp [*]; done))
  clear hK K
  try simp only [List.getElem_toArray, List.getElem_cons_succ, List.getElem_cons_zero, Act.put, List.setIfInBounds_toArray, List.set_cons_zero, List.set_cons_succ]
  refine wpAnyH_done (by kernel_rfl) ?_ _
  refine NoPanic.normal ?_
  go_wp2_with fail
  refine bodyPost_ret (v := .agg #[.bool v0, .bool v1, .bool v2, .bool v3, .int .i64 (v4 : Nat)]) (by simp [results, Tryd.results16, go_sem, i5, j5, k5, l5, m5]) rfl ?_
  exact ⟨rfl, set5_below HN5.out.bel (by omega) _ _ _ _ _⟩
set_option maxRecDepth 100000 in
set_option maxHeartbeats 4000000 in
theorem rof8_1 (x : Sl) (p : Pt) (w : World) (hp : PatA w x p) (hr : right p = true) : Calls Tryd.prog 16 #[patV x p, .int .i64 1] w fun e w' => e = .returned (kqV (kq p 1)) ∧ Below w.heap.size w w' := by
  have HN := Lib.hid (pm_new w x p)
  have HT := Lib.hid (fun wx (hb : Below w.heap.size w wx) => told7_any x p 1 2 (by decide) 99 0 wx (hp.keep hb) hr (by omega) (by omega))
  rw [ahd_over (show p.ms.length ≤ 99 by have := (right_bd hr).2.2.2.2.2; omega)] at HT
  have HP := Lib.hid (fun (s t : Int) (hs : s = 0 ∨ s = 1) wx (hb : Below w.heap.size w wx) => pre8_any x p s t hs wx (hp.keep hb) hr)
  have HP1 := Lib.hid (fun wx hb => HP.out 1 1 (by decide) wx hb)
  have HP2 := Lib.hid (fun wx hb => HP.out 0 2 (by decide) wx hb)
  have HP3 := Lib.hid (fun wx hb => HP.out 0 1 (by decide) wx hb)
  have HM := Lib.hid (fun wx (hb : Below w.heap.size w wx) => metA_any x p 2 7 wx (hp.keep hb) hr)
  have HQ : Hid (kqV (kq p 1) = .agg #[.bool (tld p 1 2 (flat p.ms)), .bool ((prw p 1).contains 1), .bool ((prw p 0).contains 2), .bool ((prw p 0).contains 1), .int .i64 (met 2 7 (flat p.ms) : Nat)]) := Lib.hid rfl
  generalize tld p 1 2 (flat p.ms) = v0 at HT HQ
  generalize (prw p 1).contains 1 = v1 at HP1 HQ
  generalize (prw p 0).contains 2 = v2 at HP2 HQ
  generalize (prw p 0).contains 1 = v3 at HP3 HQ
  generalize met 2 7 (flat p.ms) = v4 at HM HQ
  clear HP hp hr
  rw [HQ.out]
  simp only [natZero, show ((99 : Nat) : Int) = 99 from rfl] at HT
  unfold patV at HT HP1 HP2 HP3 HM ⊢
  obtain ⟨b0, b1, b2, b3, -⟩ := box4c HN.out.pb
  have lw2 := lt_of_heap HN.out.pb
  obtain ⟨r0, r1, r2, r3, r4, y0, y1, y2, y3, y4⟩ := box5c HN.out.res
  have lr2 := lt_of_heap HN.out.res
  go_enter Tryd.func16, Tryd.ntmps16
  go_wp2_with fail
  have HN0 := Lib.hid (HN.out.keep (Below.refl _ _).drew)
  refine wp_region_noPanic ?_
  refine wp_region_held_drew (S := (fun w' => w'.cell? ⟨w.heap.size, 0, none⟩ = some (.string ⟨p.nm.toArray⟩) ∧ w'.cell? ⟨w.heap.size, 1, none⟩ = some (.slice x.s0 p.p0.length x.c0) ∧ w'.cell? ⟨w.heap.size, 2, none⟩ = some (.slice x.s1 p.p1.length x.c1) ∧ w'.cell? ⟨w.heap.size, 3, none⟩ = some (.slice x.s2 p.ms.length x.c2))) (by kernel_rfl) ?_ (fun hHeld => ?_)
  · ((try dsimp only); first | (go_simp; done) | (simp [*]; done))
  refine wpAnyH_take (i := 0) (v := ?_) rfl (by kernel_rfl) (by kernel_rfl) (by kernel_rfl) (fun _ _ _ h => h) (Or.inl ⟨by rfl, ?_⟩) (by assumption) ?_
  rotate_left
  · (intro w hSw; (try dsimp only at hSw); go_simp; try with_reducible rfl)
  try simp only [List.getElem_toArray, List.getElem_cons_zero, Act.put, List.setIfInBounds_toArray, List.set_cons_zero, List.set_cons_succ]
  refine wpAnyH_take (i := 1) (v := ?_) rfl (by kernel_rfl) (by kernel_rfl) (by kernel_rfl) (fun _ _ _ h => h) (Or.inl ⟨by rfl, ?_⟩) (by assumption) ?_
  rotate_left
  · (intro w hSw; (try dsimp only at hSw); go_simp; try with_reducible rfl)
  try simp only [List.getElem_toArray, List.getElem_cons_succ, List.getElem_cons_zero, Act.put, List.setIfInBounds_toArray, List.set_cons_zero, List.set_cons_succ]
  refine wpAnyH_take (i := 3) (v := ?_) rfl (by kernel_rfl) (by kernel_rfl) (by kernel_rfl) (fun _ _ _ h => h) (Or.inl ⟨by rfl, ?_⟩) (by assumption) ?_
  rotate_left
  · (intro w hSw; (try dsimp only at hSw); go_simp; try with_reducible rfl)
  try simp only [List.getElem_toArray, List.getElem_cons_succ, List.getElem_cons_zero, Act.put, List.setIfInBounds_toArray, List.set_cons_zero, List.set_cons_succ]
  refine wpAnyH_take (i := 4) (v := ?_) rfl (by kernel_rfl) (by kernel_rfl) (by kernel_rfl) (fun _ _ _ h => h) (Or.inl ⟨by rfl, ?_⟩) (by assumption) ?_
  rotate_left
  · (intro w hSw; (try dsimp only at hSw); go_simp; try with_reducible rfl)
  try simp only [List.getElem_toArray, List.getElem_cons_succ, List.getElem_cons_zero, Act.put, List.setIfInBounds_toArray, List.set_cons_zero, List.set_cons_succ]
  refine wpAnyH_take (i := 6) (v := ?_) rfl (by kernel_rfl) (by kernel_rfl) (by kernel_rfl) (fun _ _ _ h => h) (Or.inl ⟨by rfl, ?_⟩) (by assumption) ?_
  rotate_left
  · (intro w hSw; (try dsimp only at hSw); go_simp; try with_reducible rfl)
  try simp only [List.getElem_toArray, List.getElem_cons_succ, List.getElem_cons_zero, Act.put, List.setIfInBounds_toArray, List.set_cons_zero, List.set_cons_succ]
  refine wpAnyH_take (i := 7) (v := ?_) rfl (by kernel_rfl) (by kernel_rfl) (by kernel_rfl) (fun _ _ _ h => h) (Or.inl ⟨by rfl, ?_⟩) (by assumption) ?_
  rotate_left
  · (intro w hSw; (try dsimp only at hSw); go_simp; try with_reducible rfl)
  try simp only [List.getElem_toArray, List.getElem_cons_succ, List.getElem_cons_zero, Act.put, List.setIfInBounds_toArray, List.set_cons_zero, List.set_cons_succ]
  refine wpAnyH_take (i := 9) (v := ?_) rfl (by kernel_rfl) (by kernel_rfl) (by kernel_rfl) (fun _ _ _ h => h) (Or.inl ⟨by rfl, ?_⟩) (by assumption) ?_
  rotate_left
  · (intro w hSw; (try dsimp only at hSw); go_simp; try with_reducible rfl)
  try simp only [List.getElem_toArray, List.getElem_cons_succ, List.getElem_cons_zero, Act.put, List.setIfInBounds_toArray, List.set_cons_zero, List.set_cons_succ]
  refine wpAnyH_take (i := 10) (v := ?_) rfl (by kernel_rfl) (by kernel_rfl) (by kernel_rfl) (fun _ _ _ h => h) (Or.inl ⟨by rfl, ?_⟩) (by assumption) ?_
  rotate_left
  · (intro w hSw; (try dsimp only at hSw); go_simp; try with_reducible rfl)
  try simp only [List.getElem_toArray, List.getElem_cons_succ, List.getElem_cons_zero, Act.put, List.setIfInBounds_toArray, List.set_cons_zero, List.set_cons_succ]
  refine wpAnyH_take (i := 12) (v := ?_) rfl (by kernel_rfl) (by kernel_rfl) (by kernel_rfl) (fun _ _ _ h => h) (Or.inl ⟨by rfl, ?_⟩) (by assumption) ?_
  rotate_left
  · (intro w hSw; (try dsimp only at hSw); go_simp; try with_reducible rfl)
  try simp only [List.getElem_toArray, List.getElem_cons_succ, List.getElem_cons_zero, Act.put, List.setIfInBounds_toArray, List.set_cons_zero, List.set_cons_succ]
  refine wpAnyH_ready (rs := [2]) (by kernel_rfl) (by simp) ?_
  refine AllReadyH.cons rfl (fun K hK => ?_) AllReadyH.nil
  go_simp
  (refine (HT.out _ HN0.out.bel).mono ?_; rintro e w1 ⟨rfl, hb1⟩; have HN1 := Lib.hid (HN0.out.keep hb1); clear hb1; obtain ⟨e1, f1, g1, h1, -⟩ := box4c HN1.out.pb; obtain ⟨i1, j1, k1, l1, m1, n1, o1, p1, q1, r1⟩ := box5c HN1.out.res; have lw1 := lt_of_heap HN1.out.res)
  go_wp2_with fail
  refine hK.out _ _ ?_ (fun hHeld => ?_)
  · ((try dsimp only); first | (go_simp; done) | (simp [*]; done))
  clear hK K
  try simp only [List.getElem_toArray, List.getElem_cons_succ, List.getElem_cons_zero, Act.put, List.setIfInBounds_toArray, List.set_cons_zero, List.set_cons_succ]
  refine wpAnyH_ready (rs := [5]) (by kernel_rfl) (by simp) ?_
  refine AllReadyH.cons rfl (fun K hK => ?_) AllReadyH.nil
  go_simp
  (refine (HP1.out _ HN1.out.bel).mono ?_; rintro e w2 ⟨rfl, hb2⟩; have HN2 := Lib.hid (HN1.out.keep hb2); clear hb2; obtain ⟨e2, f2, g2, h2, -⟩ := box4c HN2.out.pb; obtain ⟨i2, j2, k2, l2, m2, n2, o2, p2, q2, r2⟩ := box5c HN2.out.res; have lw2 := lt_of_heap HN2.out.res)
  go_wp2_with fail
  refine hK.out _ _ ?_ (fun hHeld => ?_)
  · ((try dsimp only); first | (go_simp; done) | (simp [*]; done))
  clear hK K
  try simp only [List.getElem_toArray, List.getElem_cons_succ, List.getElem_cons_zero, Act.put, List.setIfInBounds_toArray, List.set_cons_zero, List.set_cons_succ]
  refine wpAnyH_ready (rs := [8]) (by kernel_rfl) (by simp) ?_
  refine AllReadyH.cons rfl (fun K hK => ?_) AllReadyH.nil
  go_simp
  (refine (HP2.out _ HN2.out.bel).mono ?_; rintro e w3 ⟨rfl, hb3⟩; have HN3 := Lib.hid (HN2.out.keep hb3); clear hb3; obtain ⟨e3, f3, g3, h3, -⟩ := box4c HN3.out.pb; obtain ⟨i3, j3, k3, l3, m3, n3, o3, p3, q3, r3⟩ := box5c HN3.out.res; have lw3 := lt_of_heap HN3.out.res)
  go_wp2_with fail
  refine hK.out _ _ ?_ (fun hHeld => ?_)
  · ((try dsimp only); first | (go_simp; done) | (simp [*]; done))
  clear hK K
  try simp only [List.getElem_toArray, List.getElem_cons_succ, List.getElem_cons_zero, Act.put, List.setIfInBounds_toArray, List.set_cons_zero, List.set_cons_succ]
  refine wpAnyH_ready (rs := [11]) (by kernel_rfl) (by simp) ?_
  refine AllReadyH.cons rfl (fun K hK => ?_) AllReadyH.nil
  go_simp
  (refine (HP3.out _ HN3.out.bel).mono ?_; rintro e w4 ⟨rfl, hb4⟩; have HN4 := Lib.hid (HN3.out.keep hb4); clear hb4; obtain ⟨e4, f4, g4, h4, -⟩ := box4c HN4.out.pb; obtain ⟨i4, j4, k4, l4, m4, n4, o4, p4, q4, r4⟩ := box5c HN4.out.res; have lw4 := lt_of_heap HN4.out.res)
  go_wp2_with fail
  refine hK.out _ _ ?_ (fun hHeld => ?_)
  · ((try dsimp only); first | (go_simp; done) | (simp [*]; done))
  clear hK K
  try simp only [List.getElem_toArray, List.getElem_cons_succ, List.getElem_cons_zero, Act.put, List.setIfInBounds_toArray, List.set_cons_zero, List.set_cons_succ]
  refine wpAnyH_ready (rs := [13]) (by kernel_rfl) (by simp) ?_
  refine AllReadyH.cons rfl (fun K hK => ?_) AllReadyH.nil
  go_simp
  (refine (HM.out _ HN4.out.bel).mono ?_; rintro e w5 ⟨rfl, hb5⟩; have HN5 := Lib.hid (HN4.out.keep hb5); clear hb5; obtain ⟨e5, f5, g5, h5, -⟩ := box4c HN5.out.pb; obtain ⟨i5, j5, k5, l5, m5, n5, o5, p5, q5, r5⟩ := box5c HN5.out.res; have lw5 := lt_of_heap HN5.out.res)
  go_wp2_with fail
  refine hK.out _ _ ?_ (fun hHeld => ?_)
  · ((try dsimp only); first | (go_simp; done) | (simp [*]; done))
  clear hK K
  try simp only [List.getElem_toArray, List.getElem_cons_succ, List.getElem_cons_zero, Act.put, List.setIfInBounds_toArray, List.set_cons_zero, List.set_cons_succ]
  refine wpAnyH_take (i := 14) (v := ?_) rfl (by kernel_rfl) (by kernel_rfl) (by kernel_rfl) (fun _ _ _ h => h) (Or.inl ⟨by rfl, ?_⟩) (by assumption) ?_
  rotate_left
  · (intro w hSw; (try dsimp only at hSw); go_simp; try with_reducible rfl)
  try simp only [List.getElem_toArray, List.getElem_cons_succ, List.getElem_cons_zero, Act.put, List.setIfInBounds_toArray, List.set_cons_zero, List.set_cons_succ]
  refine wpAnyH_ready (rs := [15]) (by kernel_rfl) (by simp) ?_
  refine AllReadyH.cons rfl (fun K hK => ?_) AllReadyH.nil
  go_simp
  refine hK.out _ _ ?_ (fun hHeld => ?_)
  · ((try dsimp only); first | (go_simp; done) | (simp [*]; done))
  clear hK K
  try simp only [List.getElem_toArray, List.getElem_cons_succ, List.getElem_cons_zero, Act.put, List.setIfInBounds_toArray, List.set_cons_zero, List.set_cons_succ]
  refine wpAnyH_done (by kernel_rfl) ?_ _
  refine NoPanic.normal ?_
  go_wp2_with fail
  refine bodyPost_ret (v := .agg #[.bool v0, .bool v1, .bool v2, .bool v3, .int .i64 (v4 : Nat)]) (by simp [results, Tryd.results16, go_sem, i5, j5, k5, l5, m5]) rfl ?_
  exact ⟨rfl, set5_below HN5.out.bel (by omega) _ _ _ _ _⟩
theorem rof8_any (x : Sl) (p : Pt) (r : Int) (hr0 : r = 0 ∨ r = 1) (w : World) (hp : PatA w x p) (hr : right p = true) : Calls Tryd.prog 16 #[patV x p, .int .i64 r] w fun e w' => e = .returned (kqV (kq p r)) ∧ Below w.heap.size w w' := by
  rcases hr0 with rfl | rfl
  · exact rof8_0 x p w hp hr
  · exact rof8_1 x p w hp hr
set_option maxRecDepth 100000 in
set_option maxHeartbeats 4000000 in
theorem awake8_any (w : World) (hE : Ev w) : Calls Tryd.prog 10 #[] w fun e w' => e = .returned (.bool true) ∧ Below w.heap.size w w' := by
  have HBS := Lib.hid (base_any ⟨#[73, 75]⟩ w hE.eb)
  have eb : bsP (⟨#[73, 75]⟩ : ByteArray).data.toList = ikB ∧ bsE (⟨#[73, 75]⟩ : ByteArray).data.toList = 0 := by decide
  rw [eb.1, eb.2] at HBS
  have HO := Lib.hid (fun x r wx (hb : Below w.heap.size w wx) (h : PatA wx x ikB) => of8_any x ikB r wx h (hE.ky.keep hb))
  have HO0 := Lib.hid (fun x wx hb h => HO.out x 0 wx hb h)
  have HO1 := Lib.hid (fun x wx hb h => HO.out x 1 wx hb h)
  have q0 : kqP ikB 0 = ⟨true, false, true, false, 0⟩ ∧ kqE ikB 0 = 0 := ⟨by unfold kqP; rw [if_pos ikb_need.1]; exact ikb_need.2.2.1, ikb_need.1⟩
  have q1 : kqP ikB 1 = ⟨true, false, false, false, 0⟩ ∧ kqE ikB 1 = 0 := ⟨by unfold kqP; rw [if_pos ikb_need.2.1]; exact ikb_need.2.2.2, ikb_need.2.1⟩
  rw [q0.1, q0.2] at HO0
  rw [q1.1, q1.2] at HO1
  have HEN := Lib.hid (fun wx => enough_any ⟨true, false, false, false, 0⟩ ⟨true, false, true, false, 0⟩ wx)
  have HEM := Lib.hid (fun wx => enough_any ⟨true, false, true, false, 0⟩ ⟨true, false, false, false, 0⟩ wx)
  have e1 : enB ⟨true, false, false, false, 0⟩ ⟨true, false, true, false, 0⟩ = true := by decide
  have e2 : enB ⟨true, false, true, false, 0⟩ ⟨true, false, false, false, 0⟩ = false := by decide
  rw [e1] at HEN
  rw [e2] at HEM
  have HSN := Lib.hid (fun x wx (h : PatA wx x ikB) => sends_any x ikB 1 1 wx h)
  have e3 : snB ikB 1 1 = true := by decide
  rw [e3] at HSN
  clear HO eb q0 q1 e1 e2 e3 hE
  have hip : ∀ x, patV x ikB = .agg #[.string ⟨#[73, 75]⟩, .slice x.s0 0 x.c0, .slice x.s1 1 x.c1, .slice x.s2 2 x.c2] := fun x => rfl
  simp only [hip, kqV] at HBS HO0 HO1 HEN HEM HSN
  clear hip
  go_enter Tryd.func10, Tryd.ntmps10
  go_wp2_with fail
  go_at_call 22
  refine HBS.out.mono ?_
  rintro e w1 ⟨x, rfl, hx1, hb1⟩
  have HX1 := Lib.hid hx1
  have HB1 := Lib.hid hb1
  clear hx1 hb1 HBS
  have HP1 := Lib.hid (heap_alloc_new w1 (.cells #[.string ⟨#[73, 75]⟩, .slice x.s0 0 x.c0, .slice x.s1 1 x.c1, .slice x.s2 2 x.c2] 26))
  have HB2 := Lib.hid ((HB1.out.alloc HB1.out.size (.cells #[.string ⟨#[73, 75]⟩, .slice x.s0 0 x.c0, .slice x.s1 1 x.c1, .slice x.s2 2 x.c2] 26)))
  have HX2 := Lib.hid (HX1.out.keep ((Below.refl _ _).alloc (Nat.le_refl _) (.cells #[.string ⟨#[73, 75]⟩, .slice x.s0 0 x.c0, .slice x.s1 1 x.c1, .slice x.s2 2 x.c2] 26)))
  go_wp2_with fail
  go_at_call 11
  refine (HO0.out _ _ HB2.out HX2.out).mono ?_
  rintro e w2 ⟨rfl, hb2⟩
  have hba := hb2.alloc hb2.size (.cells #[.bool true, .bool false, .bool true, .bool false, .int .i64 0] 30)
  have HP2 := Lib.hid ((hba.block _ (lt_of_heap HP1.out)).trans HP1.out)
  have HB3 := Lib.hid (HB2.out.trans (hba.mono HB2.out.size))
  have HX3 := Lib.hid (HX2.out.keep hba)
  have HK2 := Lib.hid (heap_alloc_new w2 (.cells #[.bool true, .bool false, .bool true, .bool false, .int .i64 0] 30))
  obtain ⟨b0, b1, b2, b3, -⟩ := box4c HP2.out
  clear hb2 hba
  go_wp2_with fail
  go_at_call 11
  refine (HO1.out _ _ HB3.out HX3.out).mono ?_
  rintro e w3 ⟨rfl, hb3⟩
  have hba := hb3.alloc hb3.size (.cells #[.bool true, .bool false, .bool false, .bool false, .int .i64 0] 30)
  have HP3 := Lib.hid ((hba.block _ (lt_of_heap HP2.out)).trans HP2.out)
  have HB4 := Lib.hid (HB3.out.trans (hba.mono HB3.out.size))
  have HX4 := Lib.hid (HX3.out.keep hba)
  have HK3 := Lib.hid ((hba.block _ (lt_of_heap HK2.out)).trans HK2.out)
  have HL3 := Lib.hid (heap_alloc_new w3 (.cells #[.bool true, .bool false, .bool false, .bool false, .int .i64 0] 30))
  clear hb3 hba b0 b1 b2 b3
  obtain ⟨k0, k1, k2, k3, k4, -⟩ := box5c HK3.out
  obtain ⟨l0, l1, l2, l3, l4, -⟩ := box5c HL3.out
  have lk := lt_of_heap HK3.out
  have ll := lt_of_heap HL3.out
  have HP4 := HP3
  have HK4 := HK3
  have HL4 := HL3
  go_wp2_with fail
  go_at_call 17
  refine (HEN.out _).mono ?_
  rintro e w5 ⟨rfl, hb5⟩
  have HB5 := Lib.hid (HB4.out.trans (hb5.mono HB4.out.size))
  have HP5 := Lib.hid ((hb5.block _ (lt_of_heap HP4.out)).trans HP4.out)
  have HX5 := Lib.hid (HX4.out.keep hb5)
  have HK5 := Lib.hid ((hb5.block _ (lt_of_heap HK4.out)).trans HK4.out)
  have HL5 := Lib.hid ((hb5.block _ (lt_of_heap HL4.out)).trans HL4.out)
  clear hb5 k0 k1 k2 k3 k4 l0 l1 l2 l3 l4 lk ll
  obtain ⟨k0, k1, k2, k3, k4, -⟩ := box5c HK5.out
  obtain ⟨l0, l1, l2, l3, l4, -⟩ := box5c HL5.out
  have lk := lt_of_heap HK5.out
  have ll := lt_of_heap HL5.out
  go_wp2_with fail
  go_at_call 17
  refine (HEM.out _).mono ?_
  rintro e w6 ⟨rfl, hb6⟩
  have HB6 := Lib.hid (HB5.out.trans (hb6.mono HB5.out.size))
  have HP6 := Lib.hid ((hb6.block _ (lt_of_heap HP5.out)).trans HP5.out)
  have HX6 := Lib.hid (HX5.out.keep hb6)
  have HK6 := Lib.hid ((hb6.block _ (lt_of_heap HK5.out)).trans HK5.out)
  have HL6 := Lib.hid ((hb6.block _ (lt_of_heap HL5.out)).trans HL5.out)
  clear hb6 k0 k1 k2 k3 k4 l0 l1 l2 l3 l4 lk ll
  obtain ⟨k0, k1, k2, k3, k4, -⟩ := box5c HK6.out
  obtain ⟨l0, l1, l2, l3, l4, -⟩ := box5c HL6.out
  have lk := lt_of_heap HK6.out
  have ll := lt_of_heap HL6.out
  obtain ⟨b0, b1, b2, b3, -⟩ := box4c HP6.out
  go_wp2_with fail
  go_at_call 19
  refine (HSN.out _ _ HX6.out).mono ?_
  rintro e w7 ⟨rfl, hb7⟩
  have HB7 := Lib.hid (HB6.out.trans (hb7.mono HB6.out.size))
  go_wp2_with fail
  go_ret
  exact ⟨rfl, HB7.out⟩
end Go.Proofs.YtjnijppghgemeaaDoor
