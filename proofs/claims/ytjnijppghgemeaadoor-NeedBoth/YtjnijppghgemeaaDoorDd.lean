/- Layer 8: the walk of Of. -/
import Derived.Test.YtjnijppghgemeaaDoorDb
import Derived.Test.YtjnijppghgemeaaDoorCm
namespace Go.Proofs.YtjnijppghgemeaaDoor
open Go.RowKit Go.Shelf

theorem box5c {w : World} {b : Nat} {v0 v1 v2 v3 v4 : Value} {T : TypeId} (h : w.heap[b]? = some (.cells #[v0, v1, v2, v3, v4] T (0, 0))) :
    w.cell? ⟨b, 0, none⟩ = some v0 ∧ w.cell? ⟨b, 1, none⟩ = some v1 ∧ w.cell? ⟨b, 2, none⟩ = some v2 ∧ w.cell? ⟨b, 3, none⟩ = some v3 ∧ w.cell? ⟨b, 4, none⟩ = some v4 ∧
    w.frozen? ⟨b, 0, none⟩ = false ∧ w.frozen? ⟨b, 1, none⟩ = false ∧ w.frozen? ⟨b, 2, none⟩ = false ∧ w.frozen? ⟨b, 3, none⟩ = false ∧ w.frozen? ⟨b, 4, none⟩ = false :=
  ⟨(cell_of_row w _ 0 _ _ _ h).trans rfl, (cell_of_row w _ 1 _ _ _ h).trans rfl, (cell_of_row w _ 2 _ _ _ h).trans rfl, (cell_of_row w _ 3 _ _ _ h).trans rfl, (cell_of_row w _ 4 _ _ _ h).trans rfl,
    frozen_of_row _ _ _ _ _ h, frozen_of_row _ _ _ _ _ h, frozen_of_row _ _ _ _ _ h, frozen_of_row _ _ _ _ _ h, frozen_of_row _ _ _ _ _ h⟩
theorem set5_below {B b : Nat} {w0 w : World} (h : Below B w0 w) (hb : B ≤ b) (u0 u1 u2 u3 u4 : Value) : Below B w0 (((((w.setCell ⟨b, 0, none⟩ u0).setCell ⟨b, 1, none⟩ u1).setCell ⟨b, 2, none⟩ u2).setCell ⟨b, 3, none⟩ u3).setCell ⟨b, 4, none⟩ u4) :=
  ((((h.setCell hb _).setCell hb _).setCell hb _).setCell hb _).setCell hb _
/-- A pattern in its box, and the answer's box behind it. -/
structure Pn (w : World) (x : Sl) (p : Pt) (wr : World) : Prop where
  pb : wr.heap[w.heap.size]? = some (.cells #[.string ⟨p.nm.toArray⟩, .slice x.s0 p.p0.length x.c0, .slice x.s1 p.p1.length x.c1, .slice x.s2 p.ms.length x.c2] 26 (0, 0))
  res : wr.heap[w.heap.size + 1]? = some (.cells #[.bool false, .bool false, .bool false, .bool false, .int .i64 0] 30 (0, 0))
  bel : Below w.heap.size w wr
theorem Pn.keep {w : World} {x : Sl} {p : Pt} {wr wx : World} (h : Pn w x p wr) (hb : Below wr.heap.size wr wx) : Pn w x p wx :=
  ⟨(hb.block _ (lt_of_heap h.pb)).trans h.pb, (hb.block _ (lt_of_heap h.res)).trans h.res, h.bel.trans (hb.mono h.bel.size)⟩
theorem pn_new (w : World) (x : Sl) (p : Pt) : Pn w x p ((w.alloc (.cells #[.string ⟨p.nm.toArray⟩, .slice x.s0 p.p0.length x.c0, .slice x.s1 p.p1.length x.c1, .slice x.s2 p.ms.length x.c2] 26)).alloc (.cells #[.bool false, .bool false, .bool false, .bool false, .int .i64 0] 30)) := by
  refine ⟨?_, ?_, ((Below.refl _ _).alloc (Nat.le_refl _) _).alloc (by simp) _⟩
  · rw [Below.heap_alloc _ _ _ (by simp)]; exact heap_alloc_new w _
  · have := heap_alloc_new (w.alloc (.cells #[.string ⟨p.nm.toArray⟩, .slice x.s0 p.p0.length x.c0, .slice x.s1 p.p1.length x.c1, .slice x.s2 p.ms.length x.c2] 26)) (.cells #[.bool false, .bool false, .bool false, .bool false, .int .i64 0] 30)
    rwa [World.size_alloc] at this
theorem dwN (w : World) (n : Nat) : Below w.heap.size w (w.drewN n) := ⟨rfl, rfl, rfl, Nat.le_refl _, fun _ _ => rfl⟩
theorem kqE_role {p : Pt} {r : Int} (h0 : ¬ r = 0) (h1 : ¬ r = 1) : kqP p r = zq ∧ kqE p r = 1 := by
  have e : kqE p r = 1 := by unfold kqE; rw [if_neg (by omega)]
  refine ⟨?_, e⟩
  unfold kqP; rw [e]; rfl
theorem kqE_bad {p : Pt} {r : Int} (h : r = 0 ∨ r = 1) (he : ¬ ckE p = 0) : kqP p r = zq ∧ kqE p r = ckE p := by
  have e : kqE p r = ckE p := by unfold kqE; rw [if_pos h]
  refine ⟨?_, e⟩
  unfold kqP; rw [e, if_neg he]
theorem kqE_ok {p : Pt} {r : Int} (h : r = 0 ∨ r = 1) (he : ckE p = 0) : kqP p r = kq p r ∧ kqE p r = 0 := by
  have e : kqE p r = 0 := by unfold kqE; rw [if_pos h, he]
  refine ⟨?_, e⟩
  unfold kqP; rw [if_pos e]
set_option maxRecDepth 100000 in
set_option maxHeartbeats 4000000 in
theorem of8_role (x : Sl) (p : Pt) (r : Int) (h0 : ¬ r = 0) (h1 : ¬ r = 1) (w : World) : Calls Tryd.prog 11 #[patV x p, .int .i64 r] w fun e w' => e = .returned (.tuple #[kqV (kqP p r), .int .i64 (kqE p r)]) ∧ Below w.heap.size w w' := by
  have HN := Lib.hid (pn_new w x p)
  have HV := Lib.hid (kqE_role (p := p) h0 h1)
  have h0b : (r != 0) = true := by simpa using h0
  have h1b : (r != 1) = true := by simpa using h1
  clear h0 h1
  unfold patV
  obtain ⟨-, -, -, -, -, y0, y1, y2, y3, y4⟩ := box5c HN.out.res
  go_enter Tryd.func11, Tryd.ntmps11
  go_wp2_with fail
  refine bodyPost_ret (v := .tuple #[.agg #[.bool false, .bool false, .bool false, .bool false, .int .i64 0], .int .i64 1]) (by rw [results_cell_tmp rfl]; go_simp) rfl ?_
  exact ⟨by rw [HV.out.1, HV.out.2]; rfl, HN.out.bel⟩
set_option maxRecDepth 100000 in
set_option maxHeartbeats 4000000 in
theorem of8_bad (x : Sl) (p : Pt) (r : Int) (hr : r = 0 ∨ r = 1) (he : ¬ ckE p = 0) (w : World) (hp : PatA w x p) (hk : Ky w) : Calls Tryd.prog 11 #[patV x p, .int .i64 r] w fun e w' => e = .returned (.tuple #[kqV (kqP p r), .int .i64 (kqE p r)]) ∧ Below w.heap.size w w' := by
  have HN := Lib.hid (pn_new w x p)
  have HV := Lib.hid (kqE_bad hr he)
  have HC := Lib.hid (fun wx (hb : Below w.heap.size w wx) => check_any x p wx (hp.keep hb) (hk.keep hb))
  have heb : (ckE p != 0) = true := by simpa using he
  generalize ckR p = e0 at HC
  generalize ckI p = e1 at HC
  generalize ckE p = e2 at HC heb HV
  clear he hp hk
  unfold patV at HC ⊢
  rcases hr with rfl | rfl
  all_goals
    go_enter Tryd.func11, Tryd.ntmps11
    go_wp2_with (go_at_call 23; refine (HC.out _ HN.out.bel).mono ?_; rintro e w1 ⟨rfl, hb1⟩; have HN1 := Lib.hid (HN.out.keep hb1); clear hb1; obtain ⟨r0, r1, r2, r3, r4, y0, y1, y2, y3, y4⟩ := box5c HN1.out.res)
    refine bodyPost_ret (v := .tuple #[.agg #[.bool false, .bool false, .bool false, .bool false, .int .i64 0], .int .i64 e2]) (by rw [results_cell_tmp rfl]; go_simp) rfl ?_
    exact ⟨by rw [HV.out.1, HV.out.2]; rfl, set5_below HN1.out.bel (by omega) _ _ _ _ _⟩
set_option maxRecDepth 100000 in
set_option maxHeartbeats 8000000 in
theorem of8_ok0 (x : Sl) (p : Pt) (he : ckE p = 0) (w : World) (hp : PatA w x p) (hk : Ky w) : Calls Tryd.prog 11 #[patV x p, .int .i64 0] w fun e w' => e = .returned (.tuple #[kqV (kqP p 0), .int .i64 (kqE p 0)]) ∧ Below w.heap.size w w' := by
  have hr := (ck_ok he).1
  have HN := Lib.hid (pn_new w x p)
  have HV := Lib.hid (kqE_ok (p := p) (r := 0) (by decide) he)
  have HC := Lib.hid (fun wx (hb : Below w.heap.size w wx) => check_any x p wx (hp.keep hb) (hk.keep hb))
  have HAN := Lib.hid (fun wx (hb : Below w.heap.size w wx) => announces_any x p 0 2 hr wx (hp.keep hb))
  have HPS := Lib.hid (fun wx (hb : Below w.heap.size w wx) => psks_any x p hr (right_bd hr).2.2.2.2.1 wx (hp.keep hb))
  have HSS := Lib.hid (kq_s p 0 (by decide))
  obtain ⟨l0, l1, -, -⟩ := right_lens hr
  have H0 := Lib.hid (fun t wx (hb : Below w.heap.size w wx) => contains_any x.s0 x.c0 p.p0 t l0 wx (hp.i0.keep hb))
  have H1 := Lib.hid (fun t wx (hb : Below w.heap.size w wx) => contains_any x.s1 x.c1 p.p1 t l1 wx (hp.i1.keep hb))
  rw [he] at HC
  generalize ckR p = r0 at HC
  generalize ckI p = r1 at HC
  have HQ : Hid (kqV (kq p 0) = .agg #[.bool (p.p0.contains 2 || annB p.ms 0 2), .bool (p.p0.contains 1), .bool (p.p1.contains 2), .bool (p.p1.contains 1), .int .i64 (met 2 7 (flat p.ms) : Nat)]) := Lib.hid (by
    have h1 := HSS.out
    have e1 : prw p 0 = p.p0 := rfl
    have e2 : prw p (1 - 0) = p.p1 := rfl
    rw [e1] at h1
    unfold kqV kq
    rw [e1, e2, h1])
  clear hr hp hk he l0 l1 HSS
  obtain ⟨nn, hnn⟩ : ∃ nn, nn = met 2 7 (flat p.ms) := ⟨_, rfl⟩
  rw [← hnn] at HPS HQ
  obtain ⟨an, han⟩ : ∃ an, an = annB p.ms 0 2 := ⟨_, rfl⟩
  rw [← han] at HAN HQ
  obtain ⟨o1, ho1⟩ : ∃ o1, o1 = p.p0.contains 1 := ⟨_, rfl⟩
  obtain ⟨t2, ht2⟩ : ∃ t2, t2 = p.p1.contains 2 := ⟨_, rfl⟩
  obtain ⟨t1, ht1⟩ : ∃ t1, t1 = p.p1.contains 1 := ⟨_, rfl⟩
  rw [← ho1, ← ht2, ← ht1] at HQ
  have HO1 := Lib.hid (H0.out 1)
  have HT2 := Lib.hid (H1.out 2)
  have HT1 := Lib.hid (H1.out 1)
  have HO2 := Lib.hid (H0.out 2)
  rw [← ho1] at HO1
  rw [← ht2] at HT2
  rw [← ht1] at HT1
  clear hnn han ho1 ht2 ht1 H0 H1
  unfold patV at HC HAN HPS ⊢
  cases ho2 : p.p0.contains 2 with
  | true =>
    rw [ho2] at HO2 HQ
    clear ho2
    go_enter Tryd.func11, Tryd.ntmps11
    go_wp2_with (go_at_call 23; refine (HC.out _ HN.out.bel).mono ?_; rintro e w1 ⟨rfl, hb1⟩; have HN1 := Lib.hid (HN.out.keep hb1); clear hb1; obtain ⟨b0, b1, b2, b3, -⟩ := box4c HN1.out.pb; have lw1 := lt_of_heap HN1.out.pb)
    go_quiet (fail)
    go_wp2_with fail
    have HN2 := Lib.hid (HN1.out.keep (dwN w1 nq))
    generalize w1.drewN nq = w2 at *
    clear b0 b1 b2 b3 lw1
    obtain ⟨b0, b1, b2, b3, -⟩ := box4c HN2.out.pb
    have lw2 := lt_of_heap HN2.out.pb
    obtain ⟨r0, r1, r2, r3, r4, y0, y1, y2, y3, y4⟩ := box5c HN2.out.res
    have lr2 := lt_of_heap HN2.out.res
    have HN3 := Lib.hid (HN2.out.keep (Below.refl _ _).drew)
    refine wp_region_noPanic ?_
    refine wp_region_held_drew (S := (fun w' => w'.cell? ⟨w.heap.size, 0, none⟩ = some (.string ⟨p.nm.toArray⟩) ∧ w'.cell? ⟨w.heap.size, 1, none⟩ = some (.slice x.s0 p.p0.length x.c0) ∧ w'.cell? ⟨w.heap.size, 2, none⟩ = some (.slice x.s1 p.p1.length x.c1) ∧ w'.cell? ⟨w.heap.size, 3, none⟩ = some (.slice x.s2 p.ms.length x.c2))) (by kernel_rfl) ?_ (fun hHeld => ?_)
    · ((try dsimp only); first | (go_simp; done) | (simp [*]; done))
    refine wpAnyH_take (i := 0) (v := ?_) rfl (by kernel_rfl) (by kernel_rfl) (by kernel_rfl) (fun _ _ _ h => h) (Or.inl ⟨by rfl, ?_⟩) (by assumption) ?_
    rotate_left
    · (intro w hSw; (try dsimp only at hSw); go_simp; try with_reducible rfl)
    try simp only [List.getElem_toArray, List.getElem_cons_zero, Act.put, List.setIfInBounds_toArray, List.set_cons_zero, List.set_cons_succ]
    refine wpAnyH_take (i := 7) (v := ?_) rfl (by kernel_rfl) (by kernel_rfl) (by kernel_rfl) (fun _ _ _ h => h) (Or.inl ⟨by rfl, ?_⟩) (by assumption) ?_
    rotate_left
    · (intro w hSw; (try dsimp only at hSw); go_simp; try with_reducible rfl)
    try simp only [List.getElem_toArray, List.getElem_cons_succ, List.getElem_cons_zero, Act.put, List.setIfInBounds_toArray, List.set_cons_zero, List.set_cons_succ]
    refine wpAnyH_take (i := 9) (v := ?_) rfl (by kernel_rfl) (by kernel_rfl) (by kernel_rfl) (fun _ _ _ h => h) (Or.inl ⟨by rfl, ?_⟩) (by assumption) ?_
    rotate_left
    · (intro w hSw; (try dsimp only at hSw); go_simp; try with_reducible rfl)
    try simp only [List.getElem_toArray, List.getElem_cons_succ, List.getElem_cons_zero, Act.put, List.setIfInBounds_toArray, List.set_cons_zero, List.set_cons_succ]
    refine wpAnyH_take (i := 11) (v := ?_) rfl (by kernel_rfl) (by kernel_rfl) (by kernel_rfl) (fun _ _ _ h => h) (Or.inl ⟨by rfl, ?_⟩) (by assumption) ?_
    rotate_left
    · (intro w hSw; (try dsimp only at hSw); go_simp; try with_reducible rfl)
    try simp only [List.getElem_toArray, List.getElem_cons_succ, List.getElem_cons_zero, Act.put, List.setIfInBounds_toArray, List.set_cons_zero, List.set_cons_succ]
    refine wpAnyH_take (i := 13) (v := ?_) rfl (by kernel_rfl) (by kernel_rfl) (by kernel_rfl) (fun _ _ _ h => h) (Or.inl ⟨by rfl, ?_⟩) (by assumption) ?_
    rotate_left
    · (intro w hSw; (try dsimp only at hSw); go_simp; try with_reducible rfl)
    try simp only [List.getElem_toArray, List.getElem_cons_succ, List.getElem_cons_zero, Act.put, List.setIfInBounds_toArray, List.set_cons_zero, List.set_cons_succ]
    refine wpAnyH_ready (rs := [1]) (by kernel_rfl) (by simp) ?_
    refine AllReadyH.cons rfl (fun K hK => ?_) AllReadyH.nil
    go_simp
    (refine (HO2.out _ HN3.out.bel).mono ?_; rintro e w9 ⟨rfl, rfl⟩)
    go_wp2_with fail
    refine hK.out _ _ ?_ (fun hHeld => ?_)
    · ((try dsimp only); first | (go_simp; done) | (simp [*]; done))
    clear hK K
    try simp only [List.getElem_toArray, List.getElem_cons_succ, List.getElem_cons_zero, Act.put, List.setIfInBounds_toArray, List.set_cons_zero, List.set_cons_succ]
    refine wpAnyH_take (i := 2) (v := ?_) rfl (by kernel_rfl) (by kernel_rfl) (by kernel_rfl) (fun _ _ _ h => h) (Or.inl ⟨by rfl, ?_⟩) (by assumption) ?_
    rotate_left
    · (intro w hSw; (try dsimp only at hSw); go_simp; try with_reducible rfl)
    try simp only [List.getElem_toArray, List.getElem_cons_succ, List.getElem_cons_zero, Act.put, List.setIfInBounds_toArray, List.set_cons_zero, List.set_cons_succ]
    refine wpAnyH_take (i := 3) (v := undef) rfl (by kernel_rfl) (by kernel_rfl) (by kernel_rfl) (fun _ _ _ h => h) (Or.inr ⟨by rfl, rfl⟩) (by assumption) ?_
    try simp only [List.getElem_toArray, List.getElem_cons_succ, List.getElem_cons_zero, Act.put, List.setIfInBounds_toArray, List.set_cons_zero, List.set_cons_succ]
    refine wpAnyH_take (i := 4) (v := undef) rfl (by kernel_rfl) (by kernel_rfl) (by kernel_rfl) (fun _ _ _ h => h) (Or.inr ⟨by rfl, rfl⟩) (by assumption) ?_
    try simp only [List.getElem_toArray, List.getElem_cons_succ, List.getElem_cons_zero, Act.put, List.setIfInBounds_toArray, List.set_cons_zero, List.set_cons_succ]
    refine wpAnyH_take (i := 5) (v := undef) rfl (by kernel_rfl) (by kernel_rfl) (by kernel_rfl) (fun _ _ _ h => h) (Or.inr ⟨by rfl, rfl⟩) (by assumption) ?_
    try simp only [List.getElem_toArray, List.getElem_cons_succ, List.getElem_cons_zero, Act.put, List.setIfInBounds_toArray, List.set_cons_zero, List.set_cons_succ]
    refine wpAnyH_take (i := 6) (v := ?_) rfl (by kernel_rfl) (by kernel_rfl) (by kernel_rfl) (fun _ _ _ h => h) (Or.inl ⟨by rfl, ?_⟩) (by assumption) ?_
    rotate_left
    · (intro w hSw; (try dsimp only at hSw); go_simp; try with_reducible rfl)
    try simp only [List.getElem_toArray, List.getElem_cons_succ, List.getElem_cons_zero, Act.put, List.setIfInBounds_toArray, List.set_cons_zero, List.set_cons_succ]
    refine wpAnyH_ready (rs := [8]) (by kernel_rfl) (by simp) ?_
    refine AllReadyH.cons rfl (fun K hK => ?_) AllReadyH.nil
    go_simp
    (refine (HO1.out _ HN3.out.bel).mono ?_; rintro e w9 ⟨rfl, rfl⟩)
    go_wp2_with fail
    refine hK.out _ _ ?_ (fun hHeld => ?_)
    · ((try dsimp only); first | (go_simp; done) | (simp [*]; done))
    clear hK K
    try simp only [List.getElem_toArray, List.getElem_cons_succ, List.getElem_cons_zero, Act.put, List.setIfInBounds_toArray, List.set_cons_zero, List.set_cons_succ]
    refine wpAnyH_ready (rs := [10]) (by kernel_rfl) (by simp) ?_
    refine AllReadyH.cons rfl (fun K hK => ?_) AllReadyH.nil
    go_simp
    (refine (HT2.out _ HN3.out.bel).mono ?_; rintro e w9 ⟨rfl, rfl⟩)
    go_wp2_with fail
    refine hK.out _ _ ?_ (fun hHeld => ?_)
    · ((try dsimp only); first | (go_simp; done) | (simp [*]; done))
    clear hK K
    try simp only [List.getElem_toArray, List.getElem_cons_succ, List.getElem_cons_zero, Act.put, List.setIfInBounds_toArray, List.set_cons_zero, List.set_cons_succ]
    refine wpAnyH_ready (rs := [12]) (by kernel_rfl) (by simp) ?_
    refine AllReadyH.cons rfl (fun K hK => ?_) AllReadyH.nil
    go_simp
    (refine (HT1.out _ HN3.out.bel).mono ?_; rintro e w9 ⟨rfl, rfl⟩)
    go_wp2_with fail
    refine hK.out _ _ ?_ (fun hHeld => ?_)
    · ((try dsimp only); first | (go_simp; done) | (simp [*]; done))
    clear hK K
    try simp only [List.getElem_toArray, List.getElem_cons_succ, List.getElem_cons_zero, Act.put, List.setIfInBounds_toArray, List.set_cons_zero, List.set_cons_succ]
    refine wpAnyH_ready (rs := [14]) (by kernel_rfl) (by simp) ?_
    refine AllReadyH.cons rfl (fun K hK => ?_) AllReadyH.nil
    go_simp
    (refine (HPS.out _ HN3.out.bel).mono ?_; rintro e w5 ⟨rfl, hb5⟩; have HN5 := Lib.hid (HN3.out.keep hb5); clear hb5; obtain ⟨g0, g1, g2, g3, -⟩ := box4c HN5.out.pb; obtain ⟨s0, s1, s2, s3, s4, z0, z1, z2, z3, z4⟩ := box5c HN5.out.res; have lw5 := lt_of_heap HN5.out.res)
    go_wp2_with fail
    refine hK.out _ _ ?_ (fun hHeld => ?_)
    · ((try dsimp only); first | (go_simp; done) | (simp [*]; done))
    clear hK K
    try simp only [List.getElem_toArray, List.getElem_cons_succ, List.getElem_cons_zero, Act.put, List.setIfInBounds_toArray, List.set_cons_zero, List.set_cons_succ]
    refine wpAnyH_take (i := 15) (v := ?_) rfl (by kernel_rfl) (by kernel_rfl) (by kernel_rfl) (fun _ _ _ h => h) (Or.inl ⟨by rfl, ?_⟩) (by assumption) ?_
    rotate_left
    · (intro w hSw; (try dsimp only at hSw); go_simp; try with_reducible rfl)
    try simp only [List.getElem_toArray, List.getElem_cons_succ, List.getElem_cons_zero, Act.put, List.setIfInBounds_toArray, List.set_cons_zero, List.set_cons_succ]
    refine wpAnyH_ready (rs := [16]) (by kernel_rfl) (by simp) ?_
    refine AllReadyH.cons rfl (fun K hK => ?_) AllReadyH.nil
    go_simp
    refine hK.out _ _ ?_ (fun hHeld => ?_)
    · ((try dsimp only); first | (go_simp; done) | (simp [*]; done))
    clear hK K
    try simp only [List.getElem_toArray, List.getElem_cons_succ, List.getElem_cons_zero, Act.put, List.setIfInBounds_toArray, List.set_cons_zero, List.set_cons_succ]
    refine wpAnyH_take (i := 17) (v := ?_) rfl (by kernel_rfl) (by kernel_rfl) (by kernel_rfl) (fun _ _ _ h => h) (Or.inl ⟨by rfl, ?_⟩) (by assumption) ?_
    rotate_left
    · (intro w hSw; (try dsimp only at hSw); go_simp; try with_reducible rfl)
    try simp only [List.getElem_toArray, List.getElem_cons_succ, List.getElem_cons_zero, Act.put, List.setIfInBounds_toArray, List.set_cons_zero, List.set_cons_succ]
    refine wpAnyH_done (by kernel_rfl) ?_ _
    refine NoPanic.normal ?_
    go_wp2_with fail
    refine bodyPost_ret (v := .tuple #[.agg #[.bool true, .bool o1, .bool t2, .bool t1, .int .i64 (nn : Nat)], .int .i64 0]) (by rw [results_cell_tmp rfl]; go_simp) rfl ?_
    exact ⟨by rw [HV.out.1, HV.out.2, HQ.out]; rfl, set5_below HN5.out.bel (by omega) _ _ _ _ _⟩
  | false =>
    rw [ho2] at HO2 HQ
    clear ho2
    go_enter Tryd.func11, Tryd.ntmps11
    go_wp2_with (go_at_call 23; refine (HC.out _ HN.out.bel).mono ?_; rintro e w1 ⟨rfl, hb1⟩; have HN1 := Lib.hid (HN.out.keep hb1); clear hb1; obtain ⟨b0, b1, b2, b3, -⟩ := box4c HN1.out.pb; have lw1 := lt_of_heap HN1.out.pb)
    go_quiet (fail)
    go_wp2_with fail
    have HN2 := Lib.hid (HN1.out.keep (dwN w1 nq))
    generalize w1.drewN nq = w2 at *
    clear b0 b1 b2 b3 lw1
    obtain ⟨b0, b1, b2, b3, -⟩ := box4c HN2.out.pb
    have lw2 := lt_of_heap HN2.out.pb
    obtain ⟨r0, r1, r2, r3, r4, y0, y1, y2, y3, y4⟩ := box5c HN2.out.res
    have lr2 := lt_of_heap HN2.out.res
    have HN3 := Lib.hid (HN2.out.keep (Below.refl _ _).drew)
    refine wp_region_noPanic ?_
    refine wp_region_held_drew (S := (fun w' => w'.cell? ⟨w.heap.size, 0, none⟩ = some (.string ⟨p.nm.toArray⟩) ∧ w'.cell? ⟨w.heap.size, 1, none⟩ = some (.slice x.s0 p.p0.length x.c0) ∧ w'.cell? ⟨w.heap.size, 2, none⟩ = some (.slice x.s1 p.p1.length x.c1) ∧ w'.cell? ⟨w.heap.size, 3, none⟩ = some (.slice x.s2 p.ms.length x.c2))) (by kernel_rfl) ?_ (fun hHeld => ?_)
    · ((try dsimp only); first | (go_simp; done) | (simp [*]; done))
    refine wpAnyH_take (i := 0) (v := ?_) rfl (by kernel_rfl) (by kernel_rfl) (by kernel_rfl) (fun _ _ _ h => h) (Or.inl ⟨by rfl, ?_⟩) (by assumption) ?_
    rotate_left
    · (intro w hSw; (try dsimp only at hSw); go_simp; try with_reducible rfl)
    try simp only [List.getElem_toArray, List.getElem_cons_zero, Act.put, List.setIfInBounds_toArray, List.set_cons_zero, List.set_cons_succ]
    refine wpAnyH_take (i := 7) (v := ?_) rfl (by kernel_rfl) (by kernel_rfl) (by kernel_rfl) (fun _ _ _ h => h) (Or.inl ⟨by rfl, ?_⟩) (by assumption) ?_
    rotate_left
    · (intro w hSw; (try dsimp only at hSw); go_simp; try with_reducible rfl)
    try simp only [List.getElem_toArray, List.getElem_cons_succ, List.getElem_cons_zero, Act.put, List.setIfInBounds_toArray, List.set_cons_zero, List.set_cons_succ]
    refine wpAnyH_take (i := 9) (v := ?_) rfl (by kernel_rfl) (by kernel_rfl) (by kernel_rfl) (fun _ _ _ h => h) (Or.inl ⟨by rfl, ?_⟩) (by assumption) ?_
    rotate_left
    · (intro w hSw; (try dsimp only at hSw); go_simp; try with_reducible rfl)
    try simp only [List.getElem_toArray, List.getElem_cons_succ, List.getElem_cons_zero, Act.put, List.setIfInBounds_toArray, List.set_cons_zero, List.set_cons_succ]
    refine wpAnyH_take (i := 11) (v := ?_) rfl (by kernel_rfl) (by kernel_rfl) (by kernel_rfl) (fun _ _ _ h => h) (Or.inl ⟨by rfl, ?_⟩) (by assumption) ?_
    rotate_left
    · (intro w hSw; (try dsimp only at hSw); go_simp; try with_reducible rfl)
    try simp only [List.getElem_toArray, List.getElem_cons_succ, List.getElem_cons_zero, Act.put, List.setIfInBounds_toArray, List.set_cons_zero, List.set_cons_succ]
    refine wpAnyH_take (i := 13) (v := ?_) rfl (by kernel_rfl) (by kernel_rfl) (by kernel_rfl) (fun _ _ _ h => h) (Or.inl ⟨by rfl, ?_⟩) (by assumption) ?_
    rotate_left
    · (intro w hSw; (try dsimp only at hSw); go_simp; try with_reducible rfl)
    try simp only [List.getElem_toArray, List.getElem_cons_succ, List.getElem_cons_zero, Act.put, List.setIfInBounds_toArray, List.set_cons_zero, List.set_cons_succ]
    refine wpAnyH_ready (rs := [1]) (by kernel_rfl) (by simp) ?_
    refine AllReadyH.cons rfl (fun K hK => ?_) AllReadyH.nil
    go_simp
    (refine (HO2.out _ HN3.out.bel).mono ?_; rintro e w9 ⟨rfl, rfl⟩)
    go_wp2_with fail
    refine hK.out _ _ ?_ (fun hHeld => ?_)
    · ((try dsimp only); first | (go_simp; done) | (simp [*]; done))
    clear hK K
    try simp only [List.getElem_toArray, List.getElem_cons_succ, List.getElem_cons_zero, Act.put, List.setIfInBounds_toArray, List.set_cons_zero, List.set_cons_succ]
    refine wpAnyH_take (i := 2) (v := ?_) rfl (by kernel_rfl) (by kernel_rfl) (by kernel_rfl) (fun _ _ _ h => h) (Or.inl ⟨by rfl, ?_⟩) (by assumption) ?_
    rotate_left
    · (intro w hSw; (try dsimp only at hSw); go_simp; try with_reducible rfl)
    try simp only [List.getElem_toArray, List.getElem_cons_succ, List.getElem_cons_zero, Act.put, List.setIfInBounds_toArray, List.set_cons_zero, List.set_cons_succ]
    refine wpAnyH_take (i := 3) (v := ?_) rfl (by kernel_rfl) (by kernel_rfl) (by kernel_rfl) (fun _ _ _ h => h) (Or.inl ⟨by rfl, ?_⟩) (by assumption) ?_
    rotate_left
    · (intro w hSw; (try dsimp only at hSw); go_simp; try with_reducible rfl)
    try simp only [List.getElem_toArray, List.getElem_cons_succ, List.getElem_cons_zero, Act.put, List.setIfInBounds_toArray, List.set_cons_zero, List.set_cons_succ]
    refine wpAnyH_take (i := 4) (v := ?_) rfl (by kernel_rfl) (by kernel_rfl) (by kernel_rfl) (fun _ _ _ h => h) (Or.inl ⟨by rfl, ?_⟩) (by assumption) ?_
    rotate_left
    · (intro w hSw; (try dsimp only at hSw); go_simp; try with_reducible rfl)
    try simp only [List.getElem_toArray, List.getElem_cons_succ, List.getElem_cons_zero, Act.put, List.setIfInBounds_toArray, List.set_cons_zero, List.set_cons_succ]
    refine wpAnyH_ready (rs := [5]) (by kernel_rfl) (by simp) ?_
    refine AllReadyH.cons rfl (fun K hK => ?_) AllReadyH.nil
    go_simp
    (refine (HAN.out _ HN3.out.bel).mono ?_; rintro e w4 ⟨rfl, hb4⟩; have HN4 := Lib.hid (HN3.out.keep hb4); clear hb4; obtain ⟨e0, e1, e2, e3, -⟩ := box4c HN4.out.pb; obtain ⟨q0, q1, q2, q3, q4, f0, f1, f2, f3, f4⟩ := box5c HN4.out.res; have lw3 := lt_of_heap HN4.out.res)
    go_wp2_with fail
    refine hK.out _ _ ?_ (fun hHeld => ?_)
    · ((try dsimp only); first | (go_simp; done) | (simp [*]; done))
    clear hK K
    try simp only [List.getElem_toArray, List.getElem_cons_succ, List.getElem_cons_zero, Act.put, List.setIfInBounds_toArray, List.set_cons_zero, List.set_cons_succ]
    refine wpAnyH_take (i := 6) (v := ?_) rfl (by kernel_rfl) (by kernel_rfl) (by kernel_rfl) (fun _ _ _ h => h) (Or.inl ⟨by rfl, ?_⟩) (by assumption) ?_
    rotate_left
    · (intro w hSw; (try dsimp only at hSw); go_simp; try with_reducible rfl)
    try simp only [List.getElem_toArray, List.getElem_cons_succ, List.getElem_cons_zero, Act.put, List.setIfInBounds_toArray, List.set_cons_zero, List.set_cons_succ]
    refine wpAnyH_ready (rs := [8]) (by kernel_rfl) (by simp) ?_
    refine AllReadyH.cons rfl (fun K hK => ?_) AllReadyH.nil
    go_simp
    (refine (HO1.out _ HN4.out.bel).mono ?_; rintro e w9 ⟨rfl, rfl⟩)
    go_wp2_with fail
    refine hK.out _ _ ?_ (fun hHeld => ?_)
    · ((try dsimp only); first | (go_simp; done) | (simp [*]; done))
    clear hK K
    try simp only [List.getElem_toArray, List.getElem_cons_succ, List.getElem_cons_zero, Act.put, List.setIfInBounds_toArray, List.set_cons_zero, List.set_cons_succ]
    refine wpAnyH_ready (rs := [10]) (by kernel_rfl) (by simp) ?_
    refine AllReadyH.cons rfl (fun K hK => ?_) AllReadyH.nil
    go_simp
    (refine (HT2.out _ HN4.out.bel).mono ?_; rintro e w9 ⟨rfl, rfl⟩)
    go_wp2_with fail
    refine hK.out _ _ ?_ (fun hHeld => ?_)
    · ((try dsimp only); first | (go_simp; done) | (simp [*]; done))
    clear hK K
    try simp only [List.getElem_toArray, List.getElem_cons_succ, List.getElem_cons_zero, Act.put, List.setIfInBounds_toArray, List.set_cons_zero, List.set_cons_succ]
    refine wpAnyH_ready (rs := [12]) (by kernel_rfl) (by simp) ?_
    refine AllReadyH.cons rfl (fun K hK => ?_) AllReadyH.nil
    go_simp
    (refine (HT1.out _ HN4.out.bel).mono ?_; rintro e w9 ⟨rfl, rfl⟩)
    go_wp2_with fail
    refine hK.out _ _ ?_ (fun hHeld => ?_)
    · ((try dsimp only); first | (go_simp; done) | (simp [*]; done))
    clear hK K
    try simp only [List.getElem_toArray, List.getElem_cons_succ, List.getElem_cons_zero, Act.put, List.setIfInBounds_toArray, List.set_cons_zero, List.set_cons_succ]
    refine wpAnyH_ready (rs := [14]) (by kernel_rfl) (by simp) ?_
    refine AllReadyH.cons rfl (fun K hK => ?_) AllReadyH.nil
    go_simp
    (refine (HPS.out _ HN4.out.bel).mono ?_; rintro e w5 ⟨rfl, hb5⟩; have HN5 := Lib.hid (HN4.out.keep hb5); clear hb5; obtain ⟨g0, g1, g2, g3, -⟩ := box4c HN5.out.pb; obtain ⟨s0, s1, s2, s3, s4, z0, z1, z2, z3, z4⟩ := box5c HN5.out.res; have lw5 := lt_of_heap HN5.out.res)
    go_wp2_with fail
    refine hK.out _ _ ?_ (fun hHeld => ?_)
    · ((try dsimp only); first | (go_simp; done) | (simp [*]; done))
    clear hK K
    try simp only [List.getElem_toArray, List.getElem_cons_succ, List.getElem_cons_zero, Act.put, List.setIfInBounds_toArray, List.set_cons_zero, List.set_cons_succ]
    refine wpAnyH_take (i := 15) (v := ?_) rfl (by kernel_rfl) (by kernel_rfl) (by kernel_rfl) (fun _ _ _ h => h) (Or.inl ⟨by rfl, ?_⟩) (by assumption) ?_
    rotate_left
    · (intro w hSw; (try dsimp only at hSw); go_simp; try with_reducible rfl)
    try simp only [List.getElem_toArray, List.getElem_cons_succ, List.getElem_cons_zero, Act.put, List.setIfInBounds_toArray, List.set_cons_zero, List.set_cons_succ]
    refine wpAnyH_ready (rs := [16]) (by kernel_rfl) (by simp) ?_
    refine AllReadyH.cons rfl (fun K hK => ?_) AllReadyH.nil
    go_simp
    refine hK.out _ _ ?_ (fun hHeld => ?_)
    · ((try dsimp only); first | (go_simp; done) | (simp [*]; done))
    clear hK K
    try simp only [List.getElem_toArray, List.getElem_cons_succ, List.getElem_cons_zero, Act.put, List.setIfInBounds_toArray, List.set_cons_zero, List.set_cons_succ]
    refine wpAnyH_take (i := 17) (v := ?_) rfl (by kernel_rfl) (by kernel_rfl) (by kernel_rfl) (fun _ _ _ h => h) (Or.inl ⟨by rfl, ?_⟩) (by assumption) ?_
    rotate_left
    · (intro w hSw; (try dsimp only at hSw); go_simp; try with_reducible rfl)
    try simp only [List.getElem_toArray, List.getElem_cons_succ, List.getElem_cons_zero, Act.put, List.setIfInBounds_toArray, List.set_cons_zero, List.set_cons_succ]
    refine wpAnyH_done (by kernel_rfl) ?_ _
    refine NoPanic.normal ?_
    go_wp2_with fail
    refine bodyPost_ret (v := .tuple #[.agg #[.bool an, .bool o1, .bool t2, .bool t1, .int .i64 (nn : Nat)], .int .i64 0]) (by rw [results_cell_tmp rfl]; go_simp) rfl ?_
    exact ⟨by rw [HV.out.1, HV.out.2, HQ.out]; rfl, set5_below HN5.out.bel (by omega) _ _ _ _ _⟩
set_option maxRecDepth 100000 in
set_option maxHeartbeats 8000000 in
theorem of8_ok1 (x : Sl) (p : Pt) (he : ckE p = 0) (w : World) (hp : PatA w x p) (hk : Ky w) : Calls Tryd.prog 11 #[patV x p, .int .i64 1] w fun e w' => e = .returned (.tuple #[kqV (kqP p 1), .int .i64 (kqE p 1)]) ∧ Below w.heap.size w w' := by
  have hr := (ck_ok he).1
  have HN := Lib.hid (pn_new w x p)
  have HV := Lib.hid (kqE_ok (p := p) (r := 1) (by decide) he)
  have HC := Lib.hid (fun wx (hb : Below w.heap.size w wx) => check_any x p wx (hp.keep hb) (hk.keep hb))
  have HAN := Lib.hid (fun wx (hb : Below w.heap.size w wx) => announces_any x p 1 2 hr wx (hp.keep hb))
  have HPS := Lib.hid (fun wx (hb : Below w.heap.size w wx) => psks_any x p hr (right_bd hr).2.2.2.2.1 wx (hp.keep hb))
  have HSS := Lib.hid (kq_s p 1 (by decide))
  obtain ⟨l0, l1, -, -⟩ := right_lens hr
  have H0 := Lib.hid (fun t wx (hb : Below w.heap.size w wx) => contains_any x.s0 x.c0 p.p0 t l0 wx (hp.i0.keep hb))
  have H1 := Lib.hid (fun t wx (hb : Below w.heap.size w wx) => contains_any x.s1 x.c1 p.p1 t l1 wx (hp.i1.keep hb))
  rw [he] at HC
  generalize ckR p = r0 at HC
  generalize ckI p = r1 at HC
  have HQ : Hid (kqV (kq p 1) = .agg #[.bool (p.p1.contains 2 || annB p.ms 1 2), .bool (p.p1.contains 1), .bool (p.p0.contains 2), .bool (p.p0.contains 1), .int .i64 (met 2 7 (flat p.ms) : Nat)]) := Lib.hid (by
    have h1 := HSS.out
    have e1 : prw p 1 = p.p1 := rfl
    have e2 : prw p (1 - 1) = p.p0 := rfl
    rw [e1] at h1
    unfold kqV kq
    rw [e1, e2, h1])
  clear hr hp hk he l0 l1 HSS
  obtain ⟨nn, hnn⟩ : ∃ nn, nn = met 2 7 (flat p.ms) := ⟨_, rfl⟩
  rw [← hnn] at HPS HQ
  obtain ⟨an, han⟩ : ∃ an, an = annB p.ms 1 2 := ⟨_, rfl⟩
  rw [← han] at HAN HQ
  obtain ⟨o1, ho1⟩ : ∃ o1, o1 = p.p1.contains 1 := ⟨_, rfl⟩
  obtain ⟨t2, ht2⟩ : ∃ t2, t2 = p.p0.contains 2 := ⟨_, rfl⟩
  obtain ⟨t1, ht1⟩ : ∃ t1, t1 = p.p0.contains 1 := ⟨_, rfl⟩
  rw [← ho1, ← ht2, ← ht1] at HQ
  have HO1 := Lib.hid (H1.out 1)
  have HT2 := Lib.hid (H0.out 2)
  have HT1 := Lib.hid (H0.out 1)
  have HO2 := Lib.hid (H1.out 2)
  rw [← ho1] at HO1
  rw [← ht2] at HT2
  rw [← ht1] at HT1
  clear hnn han ho1 ht2 ht1 H0 H1
  unfold patV at HC HAN HPS ⊢
  cases ho2 : p.p1.contains 2 with
  | true =>
    rw [ho2] at HO2 HQ
    clear ho2
    go_enter Tryd.func11, Tryd.ntmps11
    go_wp2_with (go_at_call 23; refine (HC.out _ HN.out.bel).mono ?_; rintro e w1 ⟨rfl, hb1⟩; have HN1 := Lib.hid (HN.out.keep hb1); clear hb1; obtain ⟨b0, b1, b2, b3, -⟩ := box4c HN1.out.pb; have lw1 := lt_of_heap HN1.out.pb)
    go_quiet (fail)
    go_wp2_with fail
    have HN2 := Lib.hid (HN1.out.keep (dwN w1 nq))
    generalize w1.drewN nq = w2 at *
    clear b0 b1 b2 b3 lw1
    obtain ⟨b0, b1, b2, b3, -⟩ := box4c HN2.out.pb
    have lw2 := lt_of_heap HN2.out.pb
    obtain ⟨r0, r1, r2, r3, r4, y0, y1, y2, y3, y4⟩ := box5c HN2.out.res
    have lr2 := lt_of_heap HN2.out.res
    have HN3 := Lib.hid (HN2.out.keep (Below.refl _ _).drew)
    refine wp_region_noPanic ?_
    refine wp_region_held_drew (S := (fun w' => w'.cell? ⟨w.heap.size, 0, none⟩ = some (.string ⟨p.nm.toArray⟩) ∧ w'.cell? ⟨w.heap.size, 1, none⟩ = some (.slice x.s0 p.p0.length x.c0) ∧ w'.cell? ⟨w.heap.size, 2, none⟩ = some (.slice x.s1 p.p1.length x.c1) ∧ w'.cell? ⟨w.heap.size, 3, none⟩ = some (.slice x.s2 p.ms.length x.c2))) (by kernel_rfl) ?_ (fun hHeld => ?_)
    · ((try dsimp only); first | (go_simp; done) | (simp [*]; done))
    refine wpAnyH_take (i := 0) (v := ?_) rfl (by kernel_rfl) (by kernel_rfl) (by kernel_rfl) (fun _ _ _ h => h) (Or.inl ⟨by rfl, ?_⟩) (by assumption) ?_
    rotate_left
    · (intro w hSw; (try dsimp only at hSw); go_simp; try with_reducible rfl)
    try simp only [List.getElem_toArray, List.getElem_cons_zero, Act.put, List.setIfInBounds_toArray, List.set_cons_zero, List.set_cons_succ]
    refine wpAnyH_take (i := 7) (v := ?_) rfl (by kernel_rfl) (by kernel_rfl) (by kernel_rfl) (fun _ _ _ h => h) (Or.inl ⟨by rfl, ?_⟩) (by assumption) ?_
    rotate_left
    · (intro w hSw; (try dsimp only at hSw); go_simp; try with_reducible rfl)
    try simp only [List.getElem_toArray, List.getElem_cons_succ, List.getElem_cons_zero, Act.put, List.setIfInBounds_toArray, List.set_cons_zero, List.set_cons_succ]
    refine wpAnyH_take (i := 9) (v := ?_) rfl (by kernel_rfl) (by kernel_rfl) (by kernel_rfl) (fun _ _ _ h => h) (Or.inl ⟨by rfl, ?_⟩) (by assumption) ?_
    rotate_left
    · (intro w hSw; (try dsimp only at hSw); go_simp; try with_reducible rfl)
    try simp only [List.getElem_toArray, List.getElem_cons_succ, List.getElem_cons_zero, Act.put, List.setIfInBounds_toArray, List.set_cons_zero, List.set_cons_succ]
    refine wpAnyH_take (i := 11) (v := ?_) rfl (by kernel_rfl) (by kernel_rfl) (by kernel_rfl) (fun _ _ _ h => h) (Or.inl ⟨by rfl, ?_⟩) (by assumption) ?_
    rotate_left
    · (intro w hSw; (try dsimp only at hSw); go_simp; try with_reducible rfl)
    try simp only [List.getElem_toArray, List.getElem_cons_succ, List.getElem_cons_zero, Act.put, List.setIfInBounds_toArray, List.set_cons_zero, List.set_cons_succ]
    refine wpAnyH_take (i := 13) (v := ?_) rfl (by kernel_rfl) (by kernel_rfl) (by kernel_rfl) (fun _ _ _ h => h) (Or.inl ⟨by rfl, ?_⟩) (by assumption) ?_
    rotate_left
    · (intro w hSw; (try dsimp only at hSw); go_simp; try with_reducible rfl)
    try simp only [List.getElem_toArray, List.getElem_cons_succ, List.getElem_cons_zero, Act.put, List.setIfInBounds_toArray, List.set_cons_zero, List.set_cons_succ]
    refine wpAnyH_ready (rs := [1]) (by kernel_rfl) (by simp) ?_
    refine AllReadyH.cons rfl (fun K hK => ?_) AllReadyH.nil
    go_simp
    (refine (HO2.out _ HN3.out.bel).mono ?_; rintro e w9 ⟨rfl, rfl⟩)
    go_wp2_with fail
    refine hK.out _ _ ?_ (fun hHeld => ?_)
    · ((try dsimp only); first | (go_simp; done) | (simp [*]; done))
    clear hK K
    try simp only [List.getElem_toArray, List.getElem_cons_succ, List.getElem_cons_zero, Act.put, List.setIfInBounds_toArray, List.set_cons_zero, List.set_cons_succ]
    refine wpAnyH_take (i := 2) (v := ?_) rfl (by kernel_rfl) (by kernel_rfl) (by kernel_rfl) (fun _ _ _ h => h) (Or.inl ⟨by rfl, ?_⟩) (by assumption) ?_
    rotate_left
    · (intro w hSw; (try dsimp only at hSw); go_simp; try with_reducible rfl)
    try simp only [List.getElem_toArray, List.getElem_cons_succ, List.getElem_cons_zero, Act.put, List.setIfInBounds_toArray, List.set_cons_zero, List.set_cons_succ]
    refine wpAnyH_take (i := 3) (v := undef) rfl (by kernel_rfl) (by kernel_rfl) (by kernel_rfl) (fun _ _ _ h => h) (Or.inr ⟨by rfl, rfl⟩) (by assumption) ?_
    try simp only [List.getElem_toArray, List.getElem_cons_succ, List.getElem_cons_zero, Act.put, List.setIfInBounds_toArray, List.set_cons_zero, List.set_cons_succ]
    refine wpAnyH_take (i := 4) (v := undef) rfl (by kernel_rfl) (by kernel_rfl) (by kernel_rfl) (fun _ _ _ h => h) (Or.inr ⟨by rfl, rfl⟩) (by assumption) ?_
    try simp only [List.getElem_toArray, List.getElem_cons_succ, List.getElem_cons_zero, Act.put, List.setIfInBounds_toArray, List.set_cons_zero, List.set_cons_succ]
    refine wpAnyH_take (i := 5) (v := undef) rfl (by kernel_rfl) (by kernel_rfl) (by kernel_rfl) (fun _ _ _ h => h) (Or.inr ⟨by rfl, rfl⟩) (by assumption) ?_
    try simp only [List.getElem_toArray, List.getElem_cons_succ, List.getElem_cons_zero, Act.put, List.setIfInBounds_toArray, List.set_cons_zero, List.set_cons_succ]
    refine wpAnyH_take (i := 6) (v := ?_) rfl (by kernel_rfl) (by kernel_rfl) (by kernel_rfl) (fun _ _ _ h => h) (Or.inl ⟨by rfl, ?_⟩) (by assumption) ?_
    rotate_left
    · (intro w hSw; (try dsimp only at hSw); go_simp; try with_reducible rfl)
    try simp only [List.getElem_toArray, List.getElem_cons_succ, List.getElem_cons_zero, Act.put, List.setIfInBounds_toArray, List.set_cons_zero, List.set_cons_succ]
    refine wpAnyH_ready (rs := [8]) (by kernel_rfl) (by simp) ?_
    refine AllReadyH.cons rfl (fun K hK => ?_) AllReadyH.nil
    go_simp
    (refine (HO1.out _ HN3.out.bel).mono ?_; rintro e w9 ⟨rfl, rfl⟩)
    go_wp2_with fail
    refine hK.out _ _ ?_ (fun hHeld => ?_)
    · ((try dsimp only); first | (go_simp; done) | (simp [*]; done))
    clear hK K
    try simp only [List.getElem_toArray, List.getElem_cons_succ, List.getElem_cons_zero, Act.put, List.setIfInBounds_toArray, List.set_cons_zero, List.set_cons_succ]
    refine wpAnyH_ready (rs := [10]) (by kernel_rfl) (by simp) ?_
    refine AllReadyH.cons rfl (fun K hK => ?_) AllReadyH.nil
    go_simp
    (refine (HT2.out _ HN3.out.bel).mono ?_; rintro e w9 ⟨rfl, rfl⟩)
    go_wp2_with fail
    refine hK.out _ _ ?_ (fun hHeld => ?_)
    · ((try dsimp only); first | (go_simp; done) | (simp [*]; done))
    clear hK K
    try simp only [List.getElem_toArray, List.getElem_cons_succ, List.getElem_cons_zero, Act.put, List.setIfInBounds_toArray, List.set_cons_zero, List.set_cons_succ]
    refine wpAnyH_ready (rs := [12]) (by kernel_rfl) (by simp) ?_
    refine AllReadyH.cons rfl (fun K hK => ?_) AllReadyH.nil
    go_simp
    (refine (HT1.out _ HN3.out.bel).mono ?_; rintro e w9 ⟨rfl, rfl⟩)
    go_wp2_with fail
    refine hK.out _ _ ?_ (fun hHeld => ?_)
    · ((try dsimp only); first | (go_simp; done) | (simp [*]; done))
    clear hK K
    try simp only [List.getElem_toArray, List.getElem_cons_succ, List.getElem_cons_zero, Act.put, List.setIfInBounds_toArray, List.set_cons_zero, List.set_cons_succ]
    refine wpAnyH_ready (rs := [14]) (by kernel_rfl) (by simp) ?_
    refine AllReadyH.cons rfl (fun K hK => ?_) AllReadyH.nil
    go_simp
    (refine (HPS.out _ HN3.out.bel).mono ?_; rintro e w5 ⟨rfl, hb5⟩; have HN5 := Lib.hid (HN3.out.keep hb5); clear hb5; obtain ⟨g0, g1, g2, g3, -⟩ := box4c HN5.out.pb; obtain ⟨s0, s1, s2, s3, s4, z0, z1, z2, z3, z4⟩ := box5c HN5.out.res; have lw5 := lt_of_heap HN5.out.res)
    go_wp2_with fail
    refine hK.out _ _ ?_ (fun hHeld => ?_)
    · ((try dsimp only); first | (go_simp; done) | (simp [*]; done))
    clear hK K
    try simp only [List.getElem_toArray, List.getElem_cons_succ, List.getElem_cons_zero, Act.put, List.setIfInBounds_toArray, List.set_cons_zero, List.set_cons_succ]
    refine wpAnyH_take (i := 15) (v := ?_) rfl (by kernel_rfl) (by kernel_rfl) (by kernel_rfl) (fun _ _ _ h => h) (Or.inl ⟨by rfl, ?_⟩) (by assumption) ?_
    rotate_left
    · (intro w hSw; (try dsimp only at hSw); go_simp; try with_reducible rfl)
    try simp only [List.getElem_toArray, List.getElem_cons_succ, List.getElem_cons_zero, Act.put, List.setIfInBounds_toArray, List.set_cons_zero, List.set_cons_succ]
    refine wpAnyH_ready (rs := [16]) (by kernel_rfl) (by simp) ?_
    refine AllReadyH.cons rfl (fun K hK => ?_) AllReadyH.nil
    go_simp
    refine hK.out _ _ ?_ (fun hHeld => ?_)
    · ((try dsimp only); first | (go_simp; done) | (simp [*]; done))
    clear hK K
    try simp only [List.getElem_toArray, List.getElem_cons_succ, List.getElem_cons_zero, Act.put, List.setIfInBounds_toArray, List.set_cons_zero, List.set_cons_succ]
    refine wpAnyH_take (i := 17) (v := ?_) rfl (by kernel_rfl) (by kernel_rfl) (by kernel_rfl) (fun _ _ _ h => h) (Or.inl ⟨by rfl, ?_⟩) (by assumption) ?_
    rotate_left
    · (intro w hSw; (try dsimp only at hSw); go_simp; try with_reducible rfl)
    try simp only [List.getElem_toArray, List.getElem_cons_succ, List.getElem_cons_zero, Act.put, List.setIfInBounds_toArray, List.set_cons_zero, List.set_cons_succ]
    refine wpAnyH_done (by kernel_rfl) ?_ _
    refine NoPanic.normal ?_
    go_wp2_with fail
    refine bodyPost_ret (v := .tuple #[.agg #[.bool true, .bool o1, .bool t2, .bool t1, .int .i64 (nn : Nat)], .int .i64 0]) (by rw [results_cell_tmp rfl]; go_simp) rfl ?_
    exact ⟨by rw [HV.out.1, HV.out.2, HQ.out]; rfl, set5_below HN5.out.bel (by omega) _ _ _ _ _⟩
  | false =>
    rw [ho2] at HO2 HQ
    clear ho2
    go_enter Tryd.func11, Tryd.ntmps11
    go_wp2_with (go_at_call 23; refine (HC.out _ HN.out.bel).mono ?_; rintro e w1 ⟨rfl, hb1⟩; have HN1 := Lib.hid (HN.out.keep hb1); clear hb1; obtain ⟨b0, b1, b2, b3, -⟩ := box4c HN1.out.pb; have lw1 := lt_of_heap HN1.out.pb)
    go_quiet (fail)
    go_wp2_with fail
    have HN2 := Lib.hid (HN1.out.keep (dwN w1 nq))
    generalize w1.drewN nq = w2 at *
    clear b0 b1 b2 b3 lw1
    obtain ⟨b0, b1, b2, b3, -⟩ := box4c HN2.out.pb
    have lw2 := lt_of_heap HN2.out.pb
    obtain ⟨r0, r1, r2, r3, r4, y0, y1, y2, y3, y4⟩ := box5c HN2.out.res
    have lr2 := lt_of_heap HN2.out.res
    have HN3 := Lib.hid (HN2.out.keep (Below.refl _ _).drew)
    refine wp_region_noPanic ?_
    refine wp_region_held_drew (S := (fun w' => w'.cell? ⟨w.heap.size, 0, none⟩ = some (.string ⟨p.nm.toArray⟩) ∧ w'.cell? ⟨w.heap.size, 1, none⟩ = some (.slice x.s0 p.p0.length x.c0) ∧ w'.cell? ⟨w.heap.size, 2, none⟩ = some (.slice x.s1 p.p1.length x.c1) ∧ w'.cell? ⟨w.heap.size, 3, none⟩ = some (.slice x.s2 p.ms.length x.c2))) (by kernel_rfl) ?_ (fun hHeld => ?_)
    · ((try dsimp only); first | (go_simp; done) | (simp [*]; done))
    refine wpAnyH_take (i := 0) (v := ?_) rfl (by kernel_rfl) (by kernel_rfl) (by kernel_rfl) (fun _ _ _ h => h) (Or.inl ⟨by rfl, ?_⟩) (by assumption) ?_
    rotate_left
    · (intro w hSw; (try dsimp only at hSw); go_simp; try with_reducible rfl)
    try simp only [List.getElem_toArray, List.getElem_cons_zero, Act.put, List.setIfInBounds_toArray, List.set_cons_zero, List.set_cons_succ]
    refine wpAnyH_take (i := 7) (v := ?_) rfl (by kernel_rfl) (by kernel_rfl) (by kernel_rfl) (fun _ _ _ h => h) (Or.inl ⟨by rfl, ?_⟩) (by assumption) ?_
    rotate_left
    · (intro w hSw; (try dsimp only at hSw); go_simp; try with_reducible rfl)
    try simp only [List.getElem_toArray, List.getElem_cons_succ, List.getElem_cons_zero, Act.put, List.setIfInBounds_toArray, List.set_cons_zero, List.set_cons_succ]
    refine wpAnyH_take (i := 9) (v := ?_) rfl (by kernel_rfl) (by kernel_rfl) (by kernel_rfl) (fun _ _ _ h => h) (Or.inl ⟨by rfl, ?_⟩) (by assumption) ?_
    rotate_left
    · (intro w hSw; (try dsimp only at hSw); go_simp; try with_reducible rfl)
    try simp only [List.getElem_toArray, List.getElem_cons_succ, List.getElem_cons_zero, Act.put, List.setIfInBounds_toArray, List.set_cons_zero, List.set_cons_succ]
    refine wpAnyH_take (i := 11) (v := ?_) rfl (by kernel_rfl) (by kernel_rfl) (by kernel_rfl) (fun _ _ _ h => h) (Or.inl ⟨by rfl, ?_⟩) (by assumption) ?_
    rotate_left
    · (intro w hSw; (try dsimp only at hSw); go_simp; try with_reducible rfl)
    try simp only [List.getElem_toArray, List.getElem_cons_succ, List.getElem_cons_zero, Act.put, List.setIfInBounds_toArray, List.set_cons_zero, List.set_cons_succ]
    refine wpAnyH_take (i := 13) (v := ?_) rfl (by kernel_rfl) (by kernel_rfl) (by kernel_rfl) (fun _ _ _ h => h) (Or.inl ⟨by rfl, ?_⟩) (by assumption) ?_
    rotate_left
    · (intro w hSw; (try dsimp only at hSw); go_simp; try with_reducible rfl)
    try simp only [List.getElem_toArray, List.getElem_cons_succ, List.getElem_cons_zero, Act.put, List.setIfInBounds_toArray, List.set_cons_zero, List.set_cons_succ]
    refine wpAnyH_ready (rs := [1]) (by kernel_rfl) (by simp) ?_
    refine AllReadyH.cons rfl (fun K hK => ?_) AllReadyH.nil
    go_simp
    (refine (HO2.out _ HN3.out.bel).mono ?_; rintro e w9 ⟨rfl, rfl⟩)
    go_wp2_with fail
    refine hK.out _ _ ?_ (fun hHeld => ?_)
    · ((try dsimp only); first | (go_simp; done) | (simp [*]; done))
    clear hK K
    try simp only [List.getElem_toArray, List.getElem_cons_succ, List.getElem_cons_zero, Act.put, List.setIfInBounds_toArray, List.set_cons_zero, List.set_cons_succ]
    refine wpAnyH_take (i := 2) (v := ?_) rfl (by kernel_rfl) (by kernel_rfl) (by kernel_rfl) (fun _ _ _ h => h) (Or.inl ⟨by rfl, ?_⟩) (by assumption) ?_
    rotate_left
    · (intro w hSw; (try dsimp only at hSw); go_simp; try with_reducible rfl)
    try simp only [List.getElem_toArray, List.getElem_cons_succ, List.getElem_cons_zero, Act.put, List.setIfInBounds_toArray, List.set_cons_zero, List.set_cons_succ]
    refine wpAnyH_take (i := 3) (v := ?_) rfl (by kernel_rfl) (by kernel_rfl) (by kernel_rfl) (fun _ _ _ h => h) (Or.inl ⟨by rfl, ?_⟩) (by assumption) ?_
    rotate_left
    · (intro w hSw; (try dsimp only at hSw); go_simp; try with_reducible rfl)
    try simp only [List.getElem_toArray, List.getElem_cons_succ, List.getElem_cons_zero, Act.put, List.setIfInBounds_toArray, List.set_cons_zero, List.set_cons_succ]
    refine wpAnyH_take (i := 4) (v := ?_) rfl (by kernel_rfl) (by kernel_rfl) (by kernel_rfl) (fun _ _ _ h => h) (Or.inl ⟨by rfl, ?_⟩) (by assumption) ?_
    rotate_left
    · (intro w hSw; (try dsimp only at hSw); go_simp; try with_reducible rfl)
    try simp only [List.getElem_toArray, List.getElem_cons_succ, List.getElem_cons_zero, Act.put, List.setIfInBounds_toArray, List.set_cons_zero, List.set_cons_succ]
    refine wpAnyH_ready (rs := [5]) (by kernel_rfl) (by simp) ?_
    refine AllReadyH.cons rfl (fun K hK => ?_) AllReadyH.nil
    go_simp
    (refine (HAN.out _ HN3.out.bel).mono ?_; rintro e w4 ⟨rfl, hb4⟩; have HN4 := Lib.hid (HN3.out.keep hb4); clear hb4; obtain ⟨e0, e1, e2, e3, -⟩ := box4c HN4.out.pb; obtain ⟨q0, q1, q2, q3, q4, f0, f1, f2, f3, f4⟩ := box5c HN4.out.res; have lw3 := lt_of_heap HN4.out.res)
    go_wp2_with fail
    refine hK.out _ _ ?_ (fun hHeld => ?_)
    · ((try dsimp only); first | (go_simp; done) | (simp [*]; done))
    clear hK K
    try simp only [List.getElem_toArray, List.getElem_cons_succ, List.getElem_cons_zero, Act.put, List.setIfInBounds_toArray, List.set_cons_zero, List.set_cons_succ]
    refine wpAnyH_take (i := 6) (v := ?_) rfl (by kernel_rfl) (by kernel_rfl) (by kernel_rfl) (fun _ _ _ h => h) (Or.inl ⟨by rfl, ?_⟩) (by assumption) ?_
    rotate_left
    · (intro w hSw; (try dsimp only at hSw); go_simp; try with_reducible rfl)
    try simp only [List.getElem_toArray, List.getElem_cons_succ, List.getElem_cons_zero, Act.put, List.setIfInBounds_toArray, List.set_cons_zero, List.set_cons_succ]
    refine wpAnyH_ready (rs := [8]) (by kernel_rfl) (by simp) ?_
    refine AllReadyH.cons rfl (fun K hK => ?_) AllReadyH.nil
    go_simp
    (refine (HO1.out _ HN4.out.bel).mono ?_; rintro e w9 ⟨rfl, rfl⟩)
    go_wp2_with fail
    refine hK.out _ _ ?_ (fun hHeld => ?_)
    · ((try dsimp only); first | (go_simp; done) | (simp [*]; done))
    clear hK K
    try simp only [List.getElem_toArray, List.getElem_cons_succ, List.getElem_cons_zero, Act.put, List.setIfInBounds_toArray, List.set_cons_zero, List.set_cons_succ]
    refine wpAnyH_ready (rs := [10]) (by kernel_rfl) (by simp) ?_
    refine AllReadyH.cons rfl (fun K hK => ?_) AllReadyH.nil
    go_simp
    (refine (HT2.out _ HN4.out.bel).mono ?_; rintro e w9 ⟨rfl, rfl⟩)
    go_wp2_with fail
    refine hK.out _ _ ?_ (fun hHeld => ?_)
    · ((try dsimp only); first | (go_simp; done) | (simp [*]; done))
    clear hK K
    try simp only [List.getElem_toArray, List.getElem_cons_succ, List.getElem_cons_zero, Act.put, List.setIfInBounds_toArray, List.set_cons_zero, List.set_cons_succ]
    refine wpAnyH_ready (rs := [12]) (by kernel_rfl) (by simp) ?_
    refine AllReadyH.cons rfl (fun K hK => ?_) AllReadyH.nil
    go_simp
    (refine (HT1.out _ HN4.out.bel).mono ?_; rintro e w9 ⟨rfl, rfl⟩)
    go_wp2_with fail
    refine hK.out _ _ ?_ (fun hHeld => ?_)
    · ((try dsimp only); first | (go_simp; done) | (simp [*]; done))
    clear hK K
    try simp only [List.getElem_toArray, List.getElem_cons_succ, List.getElem_cons_zero, Act.put, List.setIfInBounds_toArray, List.set_cons_zero, List.set_cons_succ]
    refine wpAnyH_ready (rs := [14]) (by kernel_rfl) (by simp) ?_
    refine AllReadyH.cons rfl (fun K hK => ?_) AllReadyH.nil
    go_simp
    (refine (HPS.out _ HN4.out.bel).mono ?_; rintro e w5 ⟨rfl, hb5⟩; have HN5 := Lib.hid (HN4.out.keep hb5); clear hb5; obtain ⟨g0, g1, g2, g3, -⟩ := box4c HN5.out.pb; obtain ⟨s0, s1, s2, s3, s4, z0, z1, z2, z3, z4⟩ := box5c HN5.out.res; have lw5 := lt_of_heap HN5.out.res)
    go_wp2_with fail
    refine hK.out _ _ ?_ (fun hHeld => ?_)
    · ((try dsimp only); first | (go_simp; done) | (simp [*]; done))
    clear hK K
    try simp only [List.getElem_toArray, List.getElem_cons_succ, List.getElem_cons_zero, Act.put, List.setIfInBounds_toArray, List.set_cons_zero, List.set_cons_succ]
    refine wpAnyH_take (i := 15) (v := ?_) rfl (by kernel_rfl) (by kernel_rfl) (by kernel_rfl) (fun _ _ _ h => h) (Or.inl ⟨by rfl, ?_⟩) (by assumption) ?_
    rotate_left
    · (intro w hSw; (try dsimp only at hSw); go_simp; try with_reducible rfl)
    try simp only [List.getElem_toArray, List.getElem_cons_succ, List.getElem_cons_zero, Act.put, List.setIfInBounds_toArray, List.set_cons_zero, List.set_cons_succ]
    refine wpAnyH_ready (rs := [16]) (by kernel_rfl) (by simp) ?_
    refine AllReadyH.cons rfl (fun K hK => ?_) AllReadyH.nil
    go_simp
    refine hK.out _ _ ?_ (fun hHeld => ?_)
    · ((try dsimp only); first | (go_simp; done) | (simp [*]; done))
    clear hK K
    try simp only [List.getElem_toArray, List.getElem_cons_succ, List.getElem_cons_zero, Act.put, List.setIfInBounds_toArray, List.set_cons_zero, List.set_cons_succ]
    refine wpAnyH_take (i := 17) (v := ?_) rfl (by kernel_rfl) (by kernel_rfl) (by kernel_rfl) (fun _ _ _ h => h) (Or.inl ⟨by rfl, ?_⟩) (by assumption) ?_
    rotate_left
    · (intro w hSw; (try dsimp only at hSw); go_simp; try with_reducible rfl)
    try simp only [List.getElem_toArray, List.getElem_cons_succ, List.getElem_cons_zero, Act.put, List.setIfInBounds_toArray, List.set_cons_zero, List.set_cons_succ]
    refine wpAnyH_done (by kernel_rfl) ?_ _
    refine NoPanic.normal ?_
    go_wp2_with fail
    refine bodyPost_ret (v := .tuple #[.agg #[.bool an, .bool o1, .bool t2, .bool t1, .int .i64 (nn : Nat)], .int .i64 0]) (by rw [results_cell_tmp rfl]; go_simp) rfl ?_
    exact ⟨by rw [HV.out.1, HV.out.2, HQ.out]; rfl, set5_below HN5.out.bel (by omega) _ _ _ _ _⟩
theorem of8_any (x : Sl) (p : Pt) (r : Int) (w : World) (hp : PatA w x p) (hk : Ky w) : Calls Tryd.prog 11 #[patV x p, .int .i64 r] w fun e w' => e = .returned (.tuple #[kqV (kqP p r), .int .i64 (kqE p r)]) ∧ Below w.heap.size w w' := by
  by_cases h0 : r = 0
  · subst h0
    by_cases he : ckE p = 0
    · exact of8_ok0 x p he w hp hk
    · exact of8_bad x p 0 (by decide) he w hp hk
  · by_cases h1 : r = 1
    · subst h1
      by_cases he : ckE p = 0
      · exact of8_ok1 x p he w hp hk
      · exact of8_bad x p 1 (by decide) he w hp hk
    · exact of8_role x p r h0 h1 w
end Go.Proofs.YtjnijppghgemeaaDoor
