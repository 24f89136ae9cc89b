/- Layer 11: the walks of MixKey, MixBoth, Split. -/
import Derived.Test.YtgjhhipkfglpgaaDoorKd
import Derived.Test.YtgjhhipkfglpgaaDoorKe
namespace Go.Proofs.YtgjhhipkfglpgaaDoor
open Go.RowKit

theorem St.set5 {w0 wi : World} {b g bm cap lim p j : Nat} {L : List Nd} (h : St w0 wi b g bm cap lim L) (hp : b ≠ p ∧ g ≠ p ∧ bm ≠ p) (hw : w0.heap.size ≤ p) (u : Value) : St w0 (wi.setCell ⟨p, j, none⟩ u) b g bm cap lim L :=
  ⟨h.ar.setAt hp.1 hp.2.1 hp.2.2 u, h.bel.setCell hw _, h.hb, h.hg, h.hm⟩
theorem Sb.kst {w0 w W W' : World} {s : Sf} {b g bm cap lim : Nat} {L : List Nd} (h : Sb w W s) (hA : St w0 W b g bm cap lim L) (hk : Kept W W' b g bm) : Sb w W' s := h.kept hA.ar hk
set_option maxRecDepth 100000 in
set_option maxHeartbeats 4000000 in
theorem mixKey_any (w0 : World) (b g bm cap lim : Nat) (L : List Nd) (s : Sf) (x : Int) (w : World) (hA : St w0 w b g bm cap lim L) (hsh : Shp w0) (hs : i64ok s.ck) (hx : i64ok x) :
    Calls Tryd.prog 12 #[syV s, .pointer (some ⟨b, 0, none⟩), .int .i64 x] w (StPost w0 b g bm lim (yL lim L s.ck x 2) (.tuple #[syV (mxS lim L s x), .int .i64 (yE lim L s.ck x 2)]) w) := by
  obtain ⟨W0, hW0⟩ : ∃ W, W = (w.alloc (.cells #[.int .i64 s.ck, .int .i64 s.h, .int .i64 s.c.k, .bool s.c.h, .int .u64 s.c.n] 35)).alloc (.cells #[.int .i64 0, .int .i64 0, .int .i64 0, .bool false, .int .u64 0] 35) := ⟨_, rfl⟩
  have HB0 : Hid (Below w.heap.size w W0) := Lib.hid (by rw [hW0]; exact two_below _ _ _)
  have HC0 : Hid (Sb w W0 s) := Lib.hid (by rw [hW0]; exact Sb.new w s)
  have HW : Hid (w0.heap.size ≤ w.heap.size) := Lib.hid hA.bel.size
  have HA0 := Lib.hid (hA.keep HB0.out)
  have HKY := Lib.hid (keys_any w0 b g bm cap lim L s x 2 W0 HA0.out hsh hs hx (by omega))
  unfold syV at HKY
  rw [hW0] at HKY
  clear hA hsh hs hx
  unfold syV
  go_enter Tryd.func12, Tryd.ntmps12
  go_wp2_with fail
  go_at_call 25
  refine HKY.out.mono ?_
  rw [← hW0]
  rintro e w3 ⟨g', cap', v, rfl, hA3, hg3, hk3, hv1, hv2⟩
  have HQ : Hid (w.heap.size + 2 ≤ W0.heap.size) := Lib.hid (by rw [hW0]; simp)
  clear hW0 HKY
  have HC3 := Lib.hid (HC0.out.kst HA0.out hk3)
  have HK3 := Lib.hid (Kept.from HB0.out hk3)
  have HG3 := Lib.hid (grow_from HB0.out.size hg3)
  have HA3 := Lib.hid hA3
  have HE : Hid (mxS lim L s x = if yE lim L s.ck x 2 = 0 then ⟨yR lim L s.ck x 0, s.h, ⟨yR lim L s.ck x 1, true, 0⟩⟩ else sZ) := Lib.hid rfl
  by_cases her : yE lim L s.ck x 2 = 0
  · obtain ⟨q, rfl, hq1, hq2⟩ := hv1 her
    rw [if_pos her] at HE
    have HER := Lib.hid her
    rw [her]
    have k0 : w3.cell? ⟨q, 0, none⟩ = some (.int .i64 (yR lim L s.ck x 0)) := (cell_of_row w3 q 0 _ _ _ hq2).trans (kyRow_at (by omega))
    have k1 : w3.cell? ⟨q, 1, none⟩ = some (.int .i64 (yR lim L s.ck x 1)) := (cell_of_row w3 q 1 _ _ _ hq2).trans (kyRow_at (by omega))
    have lq := lt_of_heap hq2
    have q0 : q ≠ w.heap.size := by have := HQ.out; omega
    clear hA3 hg3 hk3 HC0 HA0 HB0 hv1 hv2 hq1 hq2 her
    generalize yL lim L s.ck x 2 = M at *
    generalize yE lim L s.ck x 2 = er at *
    generalize yR lim L s.ck x 0 = r0 at *
    generalize yR lim L s.ck x 1 = r1 at *
    generalize mxS lim L s x = S' at *
    have HN := Lib.hid (cnew_any r1 w3.drew)
    unfold cfV at HN
    go_wp2_with fail
    refine wp_region_noPanic ?_
    refine wp_region_held_drew (S := fun w' => w'.cell? ⟨q, 0, none⟩ = some (.int .i64 r0) ∧ w'.cell? ⟨q, 1, none⟩ = some (.int .i64 r1)) (by kernel_rfl) ?_ (fun hHeld => ?_)
    · first | exact trivial | ((try dsimp only); first | (go_simp; done) | (simp [*]; done))
    refine wpAnyH_take (i := 0) (v := ?_) rfl (by kernel_rfl) (by kernel_rfl) (by kernel_rfl) (fun _ _ _ h => h) (Or.inl ⟨by rfl, ?_⟩) (by assumption) ?_
    rotate_left
    · (intro w hSw; (try dsimp only at hSw); go_simp; try with_reducible rfl)
    try simp only [List.getElem_toArray, List.getElem_cons_zero, Act.put, List.setIfInBounds_toArray, List.set_cons_zero, List.set_cons_succ]
    refine wpAnyH_take (i := 1) (v := ?_) rfl (by kernel_rfl) (by kernel_rfl) (by kernel_rfl) (fun _ _ _ h => h) (Or.inl ⟨by rfl, ?_⟩) (by assumption) ?_
    rotate_left
    · (intro w hSw; (try dsimp only at hSw); go_simp; try with_reducible rfl)
    try simp only [List.getElem_toArray, List.getElem_cons_succ, List.getElem_cons_zero, Act.put, List.setIfInBounds_toArray, List.set_cons_zero, List.set_cons_succ]
    refine wpAnyH_take (i := 2) (v := ?_) rfl (by kernel_rfl) (by kernel_rfl) (by kernel_rfl) (fun _ _ _ h => h) (Or.inl ⟨by rfl, ?_⟩) (by assumption) ?_
    rotate_left
    · (intro w hSw; (try dsimp only at hSw); go_simp; try with_reducible rfl)
    try simp only [List.getElem_toArray, List.getElem_cons_succ, List.getElem_cons_zero, Act.put, List.setIfInBounds_toArray, List.set_cons_zero, List.set_cons_succ]
    refine wpAnyH_take (i := 3) (v := ?_) rfl (by kernel_rfl) (by kernel_rfl) (by kernel_rfl) (fun _ _ _ h => h) (Or.inl ⟨by rfl, ?_⟩) (by assumption) ?_
    rotate_left
    · (intro w hSw; (try dsimp only at hSw); go_simp; try with_reducible rfl)
    try simp only [List.getElem_toArray, List.getElem_cons_succ, List.getElem_cons_zero, Act.put, List.setIfInBounds_toArray, List.set_cons_zero, List.set_cons_succ]
    refine wpAnyH_take (i := 4) (v := ?_) rfl (by kernel_rfl) (by kernel_rfl) (by kernel_rfl) (fun _ _ _ h => h) (Or.inl ⟨by rfl, ?_⟩) (by assumption) ?_
    rotate_left
    · (intro w hSw; (try dsimp only at hSw); go_simp; try with_reducible rfl)
    try simp only [List.getElem_toArray, List.getElem_cons_succ, List.getElem_cons_zero, Act.put, List.setIfInBounds_toArray, List.set_cons_zero, List.set_cons_succ]
    refine wpAnyH_take (i := 5) (v := ?_) rfl (by kernel_rfl) (by kernel_rfl) (by kernel_rfl) (fun _ _ _ h => h) (Or.inl ⟨by rfl, ?_⟩) (by assumption) ?_
    rotate_left
    · (intro w hSw; (try dsimp only at hSw); go_simp; try with_reducible rfl)
    try simp only [List.getElem_toArray, List.getElem_cons_succ, List.getElem_cons_zero, Act.put, List.setIfInBounds_toArray, List.set_cons_zero, List.set_cons_succ]
    refine wpAnyH_take (i := 7) (v := ?_) rfl (by kernel_rfl) (by kernel_rfl) (by kernel_rfl) (fun _ _ _ h => h) (Or.inl ⟨by rfl, ?_⟩) (by assumption) ?_
    rotate_left
    · (intro w hSw; (try dsimp only at hSw); go_simp; try with_reducible rfl)
    try simp only [List.getElem_toArray, List.getElem_cons_succ, List.getElem_cons_zero, Act.put, List.setIfInBounds_toArray, List.set_cons_zero, List.set_cons_succ]
    refine wpAnyH_ready (rs := [6]) (by kernel_rfl) (by simp) ?_
    refine AllReadyH.cons rfl (fun K hK => ?_) AllReadyH.nil
    go_simp
    (go_at_call 19; refine HN.out.mono ?_; rintro e w4 ⟨rfl, hb4⟩; have HB4 := Lib.hid ((Below.refl w3.heap.size w3).drew.trans hb4); have k0 := (bcell HB4.out q 0 lq).trans k0; have k1 := (bcell HB4.out q 1 lq).trans k1; have HC4 := Lib.hid (HC3.out.keep HB4.out); obtain ⟨c0, c1, c2, c3, c4⟩ := sy_cells HC4.out.bx; obtain ⟨z0, z1, z2, z3, z4⟩ := sy_cells HC4.out.rs; have l1 := lt_of_heap HC4.out.rs; have l0 : w.heap.size < w4.heap.size := (by omega); have zf : ∀ j, w4.frozen? ⟨w.heap.size + 1, j, none⟩ = false := fun j => frozen_of_row _ _ _ _ _ HC4.out.rs; have cf : ∀ j, w4.frozen? ⟨w.heap.size, j, none⟩ = false := fun j => frozen_of_row _ _ _ _ _ HC4.out.bx)
    go_wp2_with fail
    refine hK.out _ _ ?_ (fun hHeld => ?_)
    · first | exact trivial | ((try dsimp only); first | (go_simp; done) | (simp [*]; done))
    clear hK K
    try simp only [List.getElem_toArray, List.getElem_cons_succ, List.getElem_cons_zero, Act.put, List.setIfInBounds_toArray, List.set_cons_zero, List.set_cons_succ]
    refine wpAnyH_ready (rs := [8]) (by kernel_rfl) (by simp) ?_
    refine AllReadyH.cons rfl (fun K hK => ?_) AllReadyH.nil
    go_simp
    refine hK.out _ _ ?_ (fun hHeld => ?_)
    · first | exact trivial | ((try dsimp only); first | (go_simp; done) | (simp [*]; done))
    clear hK K
    try simp only [List.getElem_toArray, List.getElem_cons_succ, List.getElem_cons_zero, Act.put, List.setIfInBounds_toArray, List.set_cons_zero, List.set_cons_succ]
    refine wpAnyH_take (i := 9) (v := ?_) rfl (by kernel_rfl) (by kernel_rfl) (by kernel_rfl) (fun _ _ _ h => h) (Or.inl ⟨by rfl, ?_⟩) (by assumption) ?_
    rotate_left
    · (intro w hSw; (try dsimp only at hSw); go_simp; try with_reducible rfl)
    try simp only [List.getElem_toArray, List.getElem_cons_succ, List.getElem_cons_zero, Act.put, List.setIfInBounds_toArray, List.set_cons_zero, List.set_cons_succ]
    refine wpAnyH_ready (rs := [10]) (by kernel_rfl) (by simp) ?_
    refine AllReadyH.cons rfl (fun K hK => ?_) AllReadyH.nil
    go_simp
    refine hK.out _ _ ?_ (fun hHeld => ?_)
    · first | exact trivial | ((try dsimp only); first | (go_simp; done) | (simp [*]; done))
    clear hK K
    try simp only [List.getElem_toArray, List.getElem_cons_succ, List.getElem_cons_zero, Act.put, List.setIfInBounds_toArray, List.set_cons_zero, List.set_cons_succ]
    refine wpAnyH_done (by kernel_rfl) ?_ _
    refine NoPanic.normal ?_
    go_wp2_with fail
    refine bodyPost_ret (v := .tuple #[.agg #[.int .i64 r0, .int .i64 s.h, .int .i64 r1, .bool true, .int .u64 0], .int .i64 0]) (by simp [results, Tryd.results12, go_sem, z0, z1, z2, z3, z4]) rfl ?_
    have HA4 := Lib.hid (HA3.out.keep HB4.out)
    have HK4 := Lib.hid (HK3.out.more HB4.out)
    obtain ⟨⟨p1, p2, p3⟩, p4, p5, p6⟩ := HC4.out.apart HA4.out.ar
    refine ⟨g', cap', by rw [HE.out, HER.out], ?_, HG3.out, ?_⟩
    · exact (((((((((HA4.out.set5 ⟨p1, p2, p3⟩ HW.out _).set5 ⟨p1, p2, p3⟩ HW.out _).set5 ⟨p1, p2, p3⟩ HW.out _).set5 ⟨p1, p2, p3⟩ HW.out _).set5 ⟨p4, p5, p6⟩ (Nat.le_trans HW.out (Nat.le_succ _)) _).set5 ⟨p4, p5, p6⟩ (Nat.le_trans HW.out (Nat.le_succ _)) _).set5 ⟨p4, p5, p6⟩ (Nat.le_trans HW.out (Nat.le_succ _)) _).set5 ⟨p4, p5, p6⟩ (Nat.le_trans HW.out (Nat.le_succ _)) _).set5 ⟨p4, p5, p6⟩ (Nat.le_trans HW.out (Nat.le_succ _)) _)
    · exact (((((((((HK4.out.setAt (Nat.le_refl _) _).setAt (Nat.le_refl _) _).setAt (Nat.le_refl _) _).setAt (Nat.le_refl _) _).setAt (Nat.le_succ _) _).setAt (Nat.le_succ _) _).setAt (Nat.le_succ _) _).setAt (Nat.le_succ _) _).setAt (Nat.le_succ _) _)
  · have hne : (yE lim L s.ck x 2 != 0) = true := by simpa using her
    obtain rfl := hv2 her
    have HER := Lib.hid her
    clear hA3 hg3 hk3 HC0 HA0 HB0 hv1 hv2 her
    generalize yL lim L s.ck x 2 = M at *
    generalize yE lim L s.ck x 2 = er at *
    obtain ⟨c0, c1, c2, c3, c4⟩ := sy_cells HC3.out.bx
    obtain ⟨z0, z1, z2, z3, z4⟩ := sy_cells HC3.out.rs
    have l1 := lt_of_heap HC3.out.rs
    have l0 : w.heap.size < w3.heap.size := (by omega)
    have zf : ∀ j, w3.frozen? ⟨w.heap.size + 1, j, none⟩ = false := fun j => frozen_of_row _ _ _ _ _ HC3.out.rs
    have cf : ∀ j, w3.frozen? ⟨w.heap.size, j, none⟩ = false := fun j => frozen_of_row _ _ _ _ _ HC3.out.bx
    go_wp2_with fail
    refine bodyPost_ret (v := .tuple #[.agg #[.int .i64 0, .int .i64 0, .int .i64 0, .bool false, .int .u64 0], .int .i64 er]) (by simp [results, Tryd.results12, go_sem, z0, z1, z2, z3, z4]) rfl ?_
    obtain ⟨⟨p1, p2, p3⟩, p4, p5, p6⟩ := HC3.out.apart HA3.out.ar
    refine ⟨g', cap', by rw [HE.out, if_neg HER.out]; rfl, ?_, HG3.out, ?_⟩
    · exact (((((HA3.out.set5 ⟨p4, p5, p6⟩ (Nat.le_trans HW.out (Nat.le_succ _)) _).set5 ⟨p4, p5, p6⟩ (Nat.le_trans HW.out (Nat.le_succ _)) _).set5 ⟨p4, p5, p6⟩ (Nat.le_trans HW.out (Nat.le_succ _)) _).set5 ⟨p4, p5, p6⟩ (Nat.le_trans HW.out (Nat.le_succ _)) _).set5 ⟨p4, p5, p6⟩ (Nat.le_trans HW.out (Nat.le_succ _)) _)
    · exact (((((HK3.out.setAt (Nat.le_succ _) _).setAt (Nat.le_succ _) _).setAt (Nat.le_succ _) _).setAt (Nat.le_succ _) _).setAt (Nat.le_succ _) _)
theorem mkR_ok {lim : Nat} {L : List Nd} {d : Nd} (h : L.length ≤ lim) (hm : lim ≤ 65536) : i64ok (mkR lim L d) := by
  unfold mkR
  split
  · split
    · rename_i i hi
      have := (ix_some hi).1
      exact i64ok_of (n := L.length) ⟨by omega, by omega⟩ (by omega)
    · split
      · simp [i64ok]
      · unfold i64ok; omega
  · simp [i64ok]
theorem cell_keep {w w' : World} {p j : Nat} {o : Obj} (h : w.heap[p]? = some o) (h' : w'.heap[p]? = some o) : w'.cell? ⟨p, j, none⟩ = w.cell? ⟨p, j, none⟩ := by
  simp only [World.cell?, h, h']
theorem yA_len {lim : Nat} {L : List Nd} {ck x : Int} : ∀ n m, n ≤ m → (yL lim L ck x n).length ≤ (yL lim L ck x m).length
  | n, 0, h => by obtain rfl : n = 0 := by omega
                  exact Nat.le_refl _
  | n, m + 1, h => by
    by_cases e : n = m + 1
    · subst e; exact Nat.le_refl _
    · refine Nat.le_trans (yA_len n m (by omega)) ?_
      by_cases h0 : yE lim L ck x m = 0
      · rw [(y_succ h0).1]
        unfold mkL; split
        · split
          · exact Nat.le_refl _
          · split
            · exact Nat.le_refl _
            · simp
        · exact Nat.le_refl _
      · rw [(y_stuck h0 (m + 1) (by omega)).1]; exact Nat.le_refl _
theorem yR_ok {lim : Nat} {L : List Nd} {ck x : Int} {n m : Nat} (h : (yL lim L ck x m).length ≤ lim) (hm : lim ≤ 65536) (hn : n ≤ m) : i64ok (yR lim L ck x n) :=
  mkR_ok (Nat.le_trans (yA_len n m hn) h) hm
set_option maxRecDepth 100000 in
set_option maxHeartbeats 4000000 in
theorem mixBoth_any (w0 : World) (b g bm cap lim : Nat) (L : List Nd) (s : Sf) (x : Int) (w : World) (hA : St w0 w b g bm cap lim L) (hsh : Shp w0) (hs : s.ok) (hx : i64ok x) :
    Calls Tryd.prog 13 #[syV s, .pointer (some ⟨b, 0, none⟩), .int .i64 x] w (StPost w0 b g bm lim (mbL lim L s x) (.tuple #[syV (mbS lim L s x), .int .i64 (mbE lim L s x)]) w) := by
  obtain ⟨W0, hW0⟩ : ∃ W, W = (w.alloc (.cells #[.int .i64 s.ck, .int .i64 s.h, .int .i64 s.c.k, .bool s.c.h, .int .u64 s.c.n] 35)).alloc (.cells #[.int .i64 0, .int .i64 0, .int .i64 0, .bool false, .int .u64 0] 35) := ⟨_, rfl⟩
  have HB0 : Hid (Below w.heap.size w W0) := Lib.hid (by rw [hW0]; exact two_below _ _ _)
  have HC0 : Hid (Sb w W0 s) := Lib.hid (by rw [hW0]; exact Sb.new w s)
  have HW : Hid (w0.heap.size ≤ w.heap.size) := Lib.hid hA.bel.size
  have HA0 := Lib.hid (hA.keep HB0.out)
  have HKY := Lib.hid (keys_any w0 b g bm cap lim L s x 3 W0 HA0.out hsh hs.1 hx (by omega))
  unfold syV at HKY
  rw [hW0] at HKY
  have HSH := Lib.hid hsh
  have HSO := Lib.hid hs.2.1
  clear hA hsh hs hx
  unfold syV
  go_enter Tryd.func13, Tryd.ntmps13
  go_wp2_with fail
  go_at_call 25
  refine HKY.out.mono ?_
  rw [← hW0]
  rintro e w3 ⟨g', cap', v, rfl, hA3, hg3, hk3, hv1, hv2⟩
  have HQ : Hid (w.heap.size + 2 ≤ W0.heap.size) := Lib.hid (by rw [hW0]; simp)
  clear hW0 HKY
  have HC3 := Lib.hid (HC0.out.kst HA0.out hk3)
  have HK3 := Lib.hid (Kept.from HB0.out hk3)
  have HG3 := Lib.hid (grow_from HB0.out.size hg3)
  have HA3 := Lib.hid hA3
  have HEL : Hid (mbL lim L s x = if yE lim L s.ck x 3 = 0 then mhL lim (yL lim L s.ck x 3) ⟨yR lim L s.ck x 0, s.h, ⟨yR lim L s.ck x 2, true, 0⟩⟩ (yR lim L s.ck x 1) else yL lim L s.ck x 3) := Lib.hid rfl
  have HEE : Hid (mbE lim L s x = if yE lim L s.ck x 3 = 0 then mhE lim (yL lim L s.ck x 3) ⟨yR lim L s.ck x 0, s.h, ⟨yR lim L s.ck x 2, true, 0⟩⟩ (yR lim L s.ck x 1) else yE lim L s.ck x 3) := Lib.hid rfl
  have HES : Hid (mbS lim L s x = if yE lim L s.ck x 3 = 0 then mhS lim (yL lim L s.ck x 3) ⟨yR lim L s.ck x 0, s.h, ⟨yR lim L s.ck x 2, true, 0⟩⟩ (yR lim L s.ck x 1) else sZ) := Lib.hid rfl
  by_cases her : yE lim L s.ck x 3 = 0
  · obtain ⟨q, rfl, hq1, hq2⟩ := hv1 her
    rw [if_pos her] at HEL HEE HES
    rw [her]
    have HR1 : Hid (i64ok (yR lim L s.ck x 1)) := Lib.hid (yR_ok hA3.ar.len hA3.ar.max (by omega))
    have k0 : w3.cell? ⟨q, 0, none⟩ = some (.int .i64 (yR lim L s.ck x 0)) := (cell_of_row w3 q 0 _ _ _ hq2).trans (kyRow_at (by omega))
    have k1 : w3.cell? ⟨q, 1, none⟩ = some (.int .i64 (yR lim L s.ck x 1)) := (cell_of_row w3 q 1 _ _ _ hq2).trans (kyRow_at (by omega))
    have k2 : w3.cell? ⟨q, 2, none⟩ = some (.int .i64 (yR lim L s.ck x 2)) := (cell_of_row w3 q 2 _ _ _ hq2).trans (kyRow_at (by omega))
    have lq := lt_of_heap hq2
    have q0 : q ≠ w.heap.size := by have := HQ.out; omega
    have q1 : q ≠ w.heap.size + 1 := by have := HQ.out; omega
    have HQB3 := Lib.hid hq2
    generalize kyRow lim L s.ck x 3 3 = KR at *
    clear hA3 hg3 hk3 HC0 HA0 HB0 hv1 hv2 hq1 hq2 her
    generalize yL lim L s.ck x 3 = M at *
    generalize yR lim L s.ck x 0 = r0 at *
    generalize yR lim L s.ck x 1 = r1 at *
    generalize yR lim L s.ck x 2 = r2 at *
    have HMH := Lib.hid (fun (wi : World) (g2 cap2 : Nat) (h : St w0 wi b g2 bm cap2 lim M) => (mixHash_any b g2 bm cap2 lim M ⟨r0, s.h, ⟨r2, true, 0⟩⟩ r1 wi h.ar (h.shp HSH.out) HSO.out HR1.out).mono fun e w' hp => hp.st h)
    generalize mhL lim M ⟨r0, s.h, ⟨r2, true, 0⟩⟩ r1 = M2 at *
    generalize mhE lim M ⟨r0, s.h, ⟨r2, true, 0⟩⟩ r1 = e2 at *
    generalize mhS lim M ⟨r0, s.h, ⟨r2, true, 0⟩⟩ r1 = S2 at *
    unfold syV at HMH
    have HN := Lib.hid (cnew_any r2 w3.drew)
    unfold cfV at HN
    go_wp2_with fail
    refine wp_region_noPanic ?_
    refine wp_region_held_drew (S := fun w' => w'.cell? ⟨q, 0, none⟩ = some (.int .i64 r0) ∧ w'.cell? ⟨q, 1, none⟩ = some (.int .i64 r1) ∧ w'.cell? ⟨q, 2, none⟩ = some (.int .i64 r2)) (by kernel_rfl) ?_ (fun hHeld => ?_)
    · first | exact trivial | ((try dsimp only); first | (go_simp; done) | (simp [*]; done))
    refine wpAnyH_take (i := 0) (v := ?_) rfl (by kernel_rfl) (by kernel_rfl) (by kernel_rfl) (fun _ _ _ h => h) (Or.inl ⟨by rfl, ?_⟩) (by assumption) ?_
    rotate_left
    · (intro w hSw; (try dsimp only at hSw); go_simp; try with_reducible rfl)
    try simp only [List.getElem_toArray, List.getElem_cons_zero, Act.put, List.setIfInBounds_toArray, List.set_cons_zero, List.set_cons_succ]
    refine wpAnyH_take (i := 1) (v := ?_) rfl (by kernel_rfl) (by kernel_rfl) (by kernel_rfl) (fun _ _ _ h => h) (Or.inl ⟨by rfl, ?_⟩) (by assumption) ?_
    rotate_left
    · (intro w hSw; (try dsimp only at hSw); go_simp; try with_reducible rfl)
    try simp only [List.getElem_toArray, List.getElem_cons_succ, List.getElem_cons_zero, Act.put, List.setIfInBounds_toArray, List.set_cons_zero, List.set_cons_succ]
    refine wpAnyH_take (i := 2) (v := ?_) rfl (by kernel_rfl) (by kernel_rfl) (by kernel_rfl) (fun _ _ _ h => h) (Or.inl ⟨by rfl, ?_⟩) (by assumption) ?_
    rotate_left
    · (intro w hSw; (try dsimp only at hSw); go_simp; try with_reducible rfl)
    try simp only [List.getElem_toArray, List.getElem_cons_succ, List.getElem_cons_zero, Act.put, List.setIfInBounds_toArray, List.set_cons_zero, List.set_cons_succ]
    refine wpAnyH_take (i := 3) (v := ?_) rfl (by kernel_rfl) (by kernel_rfl) (by kernel_rfl) (fun _ _ _ h => h) (Or.inl ⟨by rfl, ?_⟩) (by assumption) ?_
    rotate_left
    · (intro w hSw; (try dsimp only at hSw); go_simp; try with_reducible rfl)
    try simp only [List.getElem_toArray, List.getElem_cons_succ, List.getElem_cons_zero, Act.put, List.setIfInBounds_toArray, List.set_cons_zero, List.set_cons_succ]
    refine wpAnyH_take (i := 4) (v := ?_) rfl (by kernel_rfl) (by kernel_rfl) (by kernel_rfl) (fun _ _ _ h => h) (Or.inl ⟨by rfl, ?_⟩) (by assumption) ?_
    rotate_left
    · (intro w hSw; (try dsimp only at hSw); go_simp; try with_reducible rfl)
    try simp only [List.getElem_toArray, List.getElem_cons_succ, List.getElem_cons_zero, Act.put, List.setIfInBounds_toArray, List.set_cons_zero, List.set_cons_succ]
    refine wpAnyH_take (i := 5) (v := ?_) rfl (by kernel_rfl) (by kernel_rfl) (by kernel_rfl) (fun _ _ _ h => h) (Or.inl ⟨by rfl, ?_⟩) (by assumption) ?_
    rotate_left
    · (intro w hSw; (try dsimp only at hSw); go_simp; try with_reducible rfl)
    try simp only [List.getElem_toArray, List.getElem_cons_succ, List.getElem_cons_zero, Act.put, List.setIfInBounds_toArray, List.set_cons_zero, List.set_cons_succ]
    refine wpAnyH_take (i := 7) (v := ?_) rfl (by kernel_rfl) (by kernel_rfl) (by kernel_rfl) (fun _ _ _ h => h) (Or.inl ⟨by rfl, ?_⟩) (by assumption) ?_
    rotate_left
    · (intro w hSw; (try dsimp only at hSw); go_simp; try with_reducible rfl)
    try simp only [List.getElem_toArray, List.getElem_cons_succ, List.getElem_cons_zero, Act.put, List.setIfInBounds_toArray, List.set_cons_zero, List.set_cons_succ]
    refine wpAnyH_ready (rs := [6]) (by kernel_rfl) (by simp) ?_
    refine AllReadyH.cons rfl (fun K hK => ?_) AllReadyH.nil
    go_simp
    (go_at_call 19; refine HN.out.mono ?_; rintro e w4 ⟨rfl, hb4⟩; have HB4 := Lib.hid ((Below.refl w3.heap.size w3).drew.trans hb4); have k0 := (bcell HB4.out q 0 lq).trans k0; have k1 := (bcell HB4.out q 1 lq).trans k1; have k2 := (bcell HB4.out q 2 lq).trans k2; have HC4 := Lib.hid (HC3.out.keep HB4.out); obtain ⟨c0, c1, c2, c3, c4⟩ := sy_cells HC4.out.bx; obtain ⟨z0, z1, z2, z3, z4⟩ := sy_cells HC4.out.rs; have l1 := lt_of_heap HC4.out.rs; have l0 : w.heap.size < w4.heap.size := (by omega); have zf : ∀ j, w4.frozen? ⟨w.heap.size + 1, j, none⟩ = false := fun j => frozen_of_row _ _ _ _ _ HC4.out.rs; have cf : ∀ j, w4.frozen? ⟨w.heap.size, j, none⟩ = false := fun j => frozen_of_row _ _ _ _ _ HC4.out.bx)
    go_wp2_with fail
    refine hK.out _ _ ?_ (fun hHeld => ?_)
    · first | exact trivial | ((try dsimp only); first | (go_simp; done) | (simp [*]; done))
    clear hK K
    try simp only [List.getElem_toArray, List.getElem_cons_succ, List.getElem_cons_zero, Act.put, List.setIfInBounds_toArray, List.set_cons_zero, List.set_cons_succ]
    refine wpAnyH_ready (rs := [8]) (by kernel_rfl) (by simp) ?_
    refine AllReadyH.cons rfl (fun K hK => ?_) AllReadyH.nil
    go_simp
    refine hK.out _ _ ?_ (fun hHeld => ?_)
    · first | exact trivial | ((try dsimp only); first | (go_simp; done) | (simp [*]; done))
    clear hK K
    try simp only [List.getElem_toArray, List.getElem_cons_succ, List.getElem_cons_zero, Act.put, List.setIfInBounds_toArray, List.set_cons_zero, List.set_cons_succ]
    refine wpAnyH_take (i := 9) (v := ?_) rfl (by kernel_rfl) (by kernel_rfl) (by kernel_rfl) (fun _ _ _ h => h) (Or.inl ⟨by rfl, ?_⟩) (by assumption) ?_
    rotate_left
    · (intro w hSw; (try dsimp only at hSw); go_simp; try with_reducible rfl)
    try simp only [List.getElem_toArray, List.getElem_cons_succ, List.getElem_cons_zero, Act.put, List.setIfInBounds_toArray, List.set_cons_zero, List.set_cons_succ]
    refine wpAnyH_ready (rs := [10]) (by kernel_rfl) (by simp) ?_
    refine AllReadyH.cons rfl (fun K hK => ?_) AllReadyH.nil
    go_simp
    refine hK.out _ _ ?_ (fun hHeld => ?_)
    · first | exact trivial | ((try dsimp only); first | (go_simp; done) | (simp [*]; done))
    clear hK K
    try simp only [List.getElem_toArray, List.getElem_cons_succ, List.getElem_cons_zero, Act.put, List.setIfInBounds_toArray, List.set_cons_zero, List.set_cons_succ]
    refine wpAnyH_done (by kernel_rfl) ?_ _
    refine NoPanic.normal ?_
    have HA4 := Lib.hid (HA3.out.keep HB4.out)
    have HK4 := Lib.hid (HK3.out.more HB4.out)
    have HP4 := Lib.hid (HC4.out.apart HA4.out.ar)
    have HA5 : Hid (St w0 ((((w4.setCell ⟨w.heap.size, 0, none⟩ (.int .i64 r0)).setCell ⟨w.heap.size, 2, none⟩ (.int .i64 r2)).setCell ⟨w.heap.size, 3, none⟩ (.bool true)).setCell ⟨w.heap.size, 4, none⟩ (.int .u64 0)) b g' bm cap' lim M) := Lib.hid (by
      obtain ⟨⟨p1, p2, p3⟩, p4, p5, p6⟩ := HP4.out
      exact ((((HA4.out.set5 ⟨p1, p2, p3⟩ HW.out _).set5 ⟨p1, p2, p3⟩ HW.out _).set5 ⟨p1, p2, p3⟩ HW.out _).set5 ⟨p1, p2, p3⟩ HW.out _))
    have HK5 : Hid (Kept w ((((w4.setCell ⟨w.heap.size, 0, none⟩ (.int .i64 r0)).setCell ⟨w.heap.size, 2, none⟩ (.int .i64 r2)).setCell ⟨w.heap.size, 3, none⟩ (.bool true)).setCell ⟨w.heap.size, 4, none⟩ (.int .u64 0)) b g bm) := Lib.hid ((((HK4.out.setAt (Nat.le_refl _) _).setAt (Nat.le_refl _) _).setAt (Nat.le_refl _) _).setAt (Nat.le_refl _) _)
    have HR5 : Hid (((((w4.setCell ⟨w.heap.size, 0, none⟩ (.int .i64 r0)).setCell ⟨w.heap.size, 2, none⟩ (.int .i64 r2)).setCell ⟨w.heap.size, 3, none⟩ (.bool true)).setCell ⟨w.heap.size, 4, none⟩ (.int .u64 0)).heap[w.heap.size + 1]? = some (.cells #[.int .i64 0, .int .i64 0, .int .i64 0, .bool false, .int .u64 0] 35 (0, 0))) := Lib.hid (by
      rw [Below.heap_setCell _ _ _ _ (by simp), Below.heap_setCell _ _ _ _ (by simp), Below.heap_setCell _ _ _ _ (by simp), Below.heap_setCell _ _ _ _ (by simp)]; exact HC4.out.rs)
    have HX5 : Hid (((((w4.setCell ⟨w.heap.size, 0, none⟩ (.int .i64 r0)).setCell ⟨w.heap.size, 2, none⟩ (.int .i64 r2)).setCell ⟨w.heap.size, 3, none⟩ (.bool true)).setCell ⟨w.heap.size, 4, none⟩ (.int .u64 0)).heap[w.heap.size]? = some (.cells #[.int .i64 r0, .int .i64 s.h, .int .i64 r2, .bool true, .int .u64 0] 35 (0, 0))) := Lib.hid (by
      have hx := HC4.out.bx
      simp only [World.setCell, Array.getElem?_modify, hx]; rfl)
    have HQ5 : Hid (((((w4.setCell ⟨w.heap.size, 0, none⟩ (.int .i64 r0)).setCell ⟨w.heap.size, 2, none⟩ (.int .i64 r2)).setCell ⟨w.heap.size, 3, none⟩ (.bool true)).setCell ⟨w.heap.size, 4, none⟩ (.int .u64 0)).cell? ⟨q, 1, none⟩ = some (.int .i64 r1)) := Lib.hid hHeld.2.1
    have HQB5 : Hid (((((w4.setCell ⟨w.heap.size, 0, none⟩ (.int .i64 r0)).setCell ⟨w.heap.size, 2, none⟩ (.int .i64 r2)).setCell ⟨w.heap.size, 3, none⟩ (.bool true)).setCell ⟨w.heap.size, 4, none⟩ (.int .u64 0)).heap[q]? = some (.cells KR 3 (0, 0))) := Lib.hid (by
      rw [Below.heap_setCell _ _ _ _ q0, Below.heap_setCell _ _ _ _ q0, Below.heap_setCell _ _ _ _ q0, Below.heap_setCell _ _ _ _ q0]; exact below_box HB4.out HQB3.out)
    clear hHeld k0 k1 k2 c0 c1 c2 c3 c4 z0 z1 z2 z3 z4 zf cf l0 l1 HP4 hb4 HC3 HN
    go_wp2_with fail
    generalize ((((w4.setCell ⟨w.heap.size, 0, none⟩ (.int .i64 r0)).setCell ⟨w.heap.size, 2, none⟩ (.int .i64 r2)).setCell ⟨w.heap.size, 3, none⟩ (.bool true)).setCell ⟨w.heap.size, 4, none⟩ (.int .u64 0)) = W5 at *
    clear HC4 HA4 HK4
    have HW5 : Hid (w.heap.size ≤ W5.heap.size) := Lib.hid HK5.out.size
    have HM5 := Lib.hid (HMH.out W5.drew _ _ (HA5.out.keep (Below.refl _ _).drew))
    have k1 := HQ5.out
    obtain ⟨c0, c1, c2, c3, c4⟩ := sy_cells HX5.out
    have l0 := lt_of_heap HX5.out
    clear HMH
    refine wp_region_noPanic ?_
    refine wp_region_held_drew (S := fun w' => w'.cell? ⟨w.heap.size, 0, none⟩ = some (.int .i64 r0) ∧ w'.cell? ⟨w.heap.size, 1, none⟩ = some (.int .i64 s.h) ∧ w'.cell? ⟨w.heap.size, 2, none⟩ = some (.int .i64 r2) ∧ w'.cell? ⟨w.heap.size, 3, none⟩ = some (.bool true) ∧ w'.cell? ⟨w.heap.size, 4, none⟩ = some (.int .u64 0) ∧ w'.cell? ⟨q, 1, none⟩ = some (.int .i64 r1)) (by kernel_rfl) ?_ (fun hHeld => ?_)
    · first | exact trivial | ((try dsimp only); first | (go_simp; done) | (simp [*]; done))
    refine wpAnyH_take (i := 0) (v := ?_) rfl (by kernel_rfl) (by kernel_rfl) (by kernel_rfl) (fun _ _ _ h => h) (Or.inl ⟨by rfl, ?_⟩) (by assumption) ?_
    rotate_left
    · (intro w hSw; (try dsimp only at hSw); go_simp; try with_reducible rfl)
    try simp only [List.getElem_toArray, List.getElem_cons_zero, Act.put, List.setIfInBounds_toArray, List.set_cons_zero, List.set_cons_succ]
    refine wpAnyH_take (i := 1) (v := ?_) rfl (by kernel_rfl) (by kernel_rfl) (by kernel_rfl) (fun _ _ _ h => h) (Or.inl ⟨by rfl, ?_⟩) (by assumption) ?_
    rotate_left
    · (intro w hSw; (try dsimp only at hSw); go_simp; try with_reducible rfl)
    try simp only [List.getElem_toArray, List.getElem_cons_succ, List.getElem_cons_zero, Act.put, List.setIfInBounds_toArray, List.set_cons_zero, List.set_cons_succ]
    refine wpAnyH_take (i := 2) (v := ?_) rfl (by kernel_rfl) (by kernel_rfl) (by kernel_rfl) (fun _ _ _ h => h) (Or.inl ⟨by rfl, ?_⟩) (by assumption) ?_
    rotate_left
    · (intro w hSw; (try dsimp only at hSw); go_simp; try with_reducible rfl)
    try simp only [List.getElem_toArray, List.getElem_cons_succ, List.getElem_cons_zero, Act.put, List.setIfInBounds_toArray, List.set_cons_zero, List.set_cons_succ]
    refine wpAnyH_take (i := 3) (v := ?_) rfl (by kernel_rfl) (by kernel_rfl) (by kernel_rfl) (fun _ _ _ h => h) (Or.inl ⟨by rfl, ?_⟩) (by assumption) ?_
    rotate_left
    · (intro w hSw; (try dsimp only at hSw); go_simp; try with_reducible rfl)
    try simp only [List.getElem_toArray, List.getElem_cons_succ, List.getElem_cons_zero, Act.put, List.setIfInBounds_toArray, List.set_cons_zero, List.set_cons_succ]
    refine wpAnyH_take (i := 4) (v := ?_) rfl (by kernel_rfl) (by kernel_rfl) (by kernel_rfl) (fun _ _ _ h => h) (Or.inl ⟨by rfl, ?_⟩) (by assumption) ?_
    rotate_left
    · (intro w hSw; (try dsimp only at hSw); go_simp; try with_reducible rfl)
    try simp only [List.getElem_toArray, List.getElem_cons_succ, List.getElem_cons_zero, Act.put, List.setIfInBounds_toArray, List.set_cons_zero, List.set_cons_succ]
    refine wpAnyH_ready (rs := [5]) (by kernel_rfl) (by simp) ?_
    refine AllReadyH.cons rfl (fun K hK => ?_) AllReadyH.nil
    go_simp
    (go_at_call 11; refine HM5.out.mono ?_; clear c0 c1 c2 c3 c4 k1 l0; rintro e w6 ⟨g6, cap6, rfl, hA6, hg6, hk6⟩; have hk6' := Kept.from (W := W5.drew) (Below.refl _ W5).drew hk6; have HR6 := Lib.hid (HA5.out.ar.boxKept hk6' HR5.out (by decide) (by decide)); have HX6 := Lib.hid (HA5.out.ar.boxKept hk6' HX5.out (by decide) (by decide)); have HQ6 := Lib.hid ((cell_keep HQB5.out (HA5.out.ar.boxKept hk6' HQB5.out (by decide) (by decide))).trans HQ5.out); obtain ⟨c0, c1, c2, c3, c4⟩ := sy_cells HX6.out; have k1 := HQ6.out; have HG5 := Lib.hid (grow_two HW5.out HG3.out hg6); have HK6 := Lib.hid (Kept.two HK5.out hk6' HG3.out); have HA6 := Lib.hid hA6; clear hA6 hg6 hk6 hk6'; obtain ⟨z0, z1, z2, z3, z4⟩ := sy_cells HR6.out; have l1 := lt_of_heap HR6.out; have zf : ∀ j, w6.frozen? ⟨w.heap.size + 1, j, none⟩ = false := (fun j => frozen_of_row _ _ _ _ _ HR6.out); have HF6 := Lib.hid (HA6.out.ar.far HR6.out (by decide) (by decide)))
    go_wp2_with fail
    refine hK.out _ _ ?_ (fun hHeld => ?_)
    · first | exact trivial | ((try dsimp only); first | (go_simp; done) | (simp [*]; done))
    clear hK K
    try simp only [List.getElem_toArray, List.getElem_cons_succ, List.getElem_cons_zero, Act.put, List.setIfInBounds_toArray, List.set_cons_zero, List.set_cons_succ]
    refine wpAnyH_take (i := 6) (v := ?_) rfl (by kernel_rfl) (by kernel_rfl) (by kernel_rfl) (fun _ _ _ h => h) (Or.inl ⟨by rfl, ?_⟩) (by assumption) ?_
    rotate_left
    · (intro w hSw; (try dsimp only at hSw); go_simp; try with_reducible rfl)
    try simp only [List.getElem_toArray, List.getElem_cons_succ, List.getElem_cons_zero, Act.put, List.setIfInBounds_toArray, List.set_cons_zero, List.set_cons_succ]
    refine wpAnyH_take (i := 7) (v := ?_) rfl (by kernel_rfl) (by kernel_rfl) (by kernel_rfl) (fun _ _ _ h => h) (Or.inl ⟨by rfl, ?_⟩) (by assumption) ?_
    rotate_left
    · (intro w hSw; (try dsimp only at hSw); go_simp; try with_reducible rfl)
    try simp only [List.getElem_toArray, List.getElem_cons_succ, List.getElem_cons_zero, Act.put, List.setIfInBounds_toArray, List.set_cons_zero, List.set_cons_succ]
    refine wpAnyH_ready (rs := [8]) (by kernel_rfl) (by simp) ?_
    refine AllReadyH.cons rfl (fun K hK => ?_) AllReadyH.nil
    go_simp
    refine hK.out _ _ ?_ (fun hHeld => ?_)
    · first | exact trivial | ((try dsimp only); first | (go_simp; done) | (simp [*]; done))
    clear hK K
    try simp only [List.getElem_toArray, List.getElem_cons_succ, List.getElem_cons_zero, Act.put, List.setIfInBounds_toArray, List.set_cons_zero, List.set_cons_succ]
    refine wpAnyH_take (i := 9) (v := ?_) rfl (by kernel_rfl) (by kernel_rfl) (by kernel_rfl) (fun _ _ _ h => h) (Or.inl ⟨by rfl, ?_⟩) (by assumption) ?_
    rotate_left
    · (intro w hSw; (try dsimp only at hSw); go_simp; try with_reducible rfl)
    try simp only [List.getElem_toArray, List.getElem_cons_succ, List.getElem_cons_zero, Act.put, List.setIfInBounds_toArray, List.set_cons_zero, List.set_cons_succ]
    refine wpAnyH_done (by kernel_rfl) ?_ _
    refine NoPanic.normal ?_
    clear hHeld
    go_wp2_with fail
    refine bodyPost_ret (v := .tuple #[.agg #[.int .i64 S2.ck, .int .i64 S2.h, .int .i64 S2.c.k, .bool S2.c.h, .int .u64 S2.c.n], .int .i64 e2]) (by simp [results, Tryd.results13, go_sem, z0, z1, z2, z3, z4]) rfl ?_
    obtain ⟨p4, p5, p6⟩ : b ≠ w.heap.size + 1 ∧ g6 ≠ w.heap.size + 1 ∧ bm ≠ w.heap.size + 1 := ⟨Ne.symm HF6.out.1, Ne.symm HF6.out.2.1, Ne.symm HF6.out.2.2⟩
    refine ⟨g6, cap6, by rw [HES.out, HEE.out], ?_, HG5.out, ?_⟩
    · rw [HEL.out]; exact (((((HA6.out.set5 ⟨p4, p5, p6⟩ (Nat.le_trans HW.out (Nat.le_succ _)) _).set5 ⟨p4, p5, p6⟩ (Nat.le_trans HW.out (Nat.le_succ _)) _).set5 ⟨p4, p5, p6⟩ (Nat.le_trans HW.out (Nat.le_succ _)) _).set5 ⟨p4, p5, p6⟩ (Nat.le_trans HW.out (Nat.le_succ _)) _).set5 ⟨p4, p5, p6⟩ (Nat.le_trans HW.out (Nat.le_succ _)) _)
    · exact (((((HK6.out.setAt (Nat.le_succ _) _).setAt (Nat.le_succ _) _).setAt (Nat.le_succ _) _).setAt (Nat.le_succ _) _).setAt (Nat.le_succ _) _)
  · have hne : (yE lim L s.ck x 3 != 0) = true := by simpa using her
    obtain rfl := hv2 her
    rw [if_neg her] at HEL HEE HES
    have HER := Lib.hid her
    clear hA3 hg3 hk3 HC0 HA0 HB0 hv1 hv2 her
    generalize yL lim L s.ck x 3 = M at *
    generalize yE lim L s.ck x 3 = er at *
    obtain ⟨c0, c1, c2, c3, c4⟩ := sy_cells HC3.out.bx
    obtain ⟨z0, z1, z2, z3, z4⟩ := sy_cells HC3.out.rs
    have l1 := lt_of_heap HC3.out.rs
    have l0 : w.heap.size < w3.heap.size := (by omega)
    have zf : ∀ j, w3.frozen? ⟨w.heap.size + 1, j, none⟩ = false := fun j => frozen_of_row _ _ _ _ _ HC3.out.rs
    have cf : ∀ j, w3.frozen? ⟨w.heap.size, j, none⟩ = false := fun j => frozen_of_row _ _ _ _ _ HC3.out.bx
    go_wp2_with fail
    refine bodyPost_ret (v := .tuple #[.agg #[.int .i64 0, .int .i64 0, .int .i64 0, .bool false, .int .u64 0], .int .i64 er]) (by simp [results, Tryd.results13, go_sem, z0, z1, z2, z3, z4]) rfl ?_
    obtain ⟨⟨p1, p2, p3⟩, p4, p5, p6⟩ := HC3.out.apart HA3.out.ar
    refine ⟨g', cap', by rw [HES.out, HEE.out]; rfl, ?_, HG3.out, ?_⟩
    · rw [HEL.out]; exact (((((HA3.out.set5 ⟨p4, p5, p6⟩ (Nat.le_trans HW.out (Nat.le_succ _)) _).set5 ⟨p4, p5, p6⟩ (Nat.le_trans HW.out (Nat.le_succ _)) _).set5 ⟨p4, p5, p6⟩ (Nat.le_trans HW.out (Nat.le_succ _)) _).set5 ⟨p4, p5, p6⟩ (Nat.le_trans HW.out (Nat.le_succ _)) _).set5 ⟨p4, p5, p6⟩ (Nat.le_trans HW.out (Nat.le_succ _)) _)
    · exact (((((HK3.out.setAt (Nat.le_succ _) _).setAt (Nat.le_succ _) _).setAt (Nat.le_succ _) _).setAt (Nat.le_succ _) _).setAt (Nat.le_succ _) _)
end Go.Proofs.YtgjhhipkfglpgaaDoor
