/- Layer 10: the reference's walk of Open. -/
import Derived.Test.YtonpjogaamgceaaDoorJg
namespace Go.Proofs.YtonpjogaamgceaaDoor
open Go.RowKit

/-- The boxes of a call of the reference's Open that w began. -/
structure Eb (w W : World) (lim : Nat) (g cap n : Nat) (c : Cf) : Prop where
  ba : W.heap[w.heap.size]? = some (.cells #[.int .i64 lim, .slice (some ⟨g, 0, none⟩) n cap] 30 (0, 0))
  bc : W.heap[w.heap.size + 1]? = some (.cells #[.int .i64 c.k, .bool c.h, .int .u64 c.n] 36 (0, 0))
  rc : W.heap[w.heap.size + 1 + 1]? = some (.cells #[.int .i64 0, .bool false, .int .u64 0] 36 (0, 0))
theorem Eb.keep {w W W' : World} {lim g cap n : Nat} {c : Cf} (h : Eb w W lim g cap n c) (hb : Below W.heap.size W W') : Eb w W' lim g cap n c :=
  ⟨(hb.block _ (lt_of_heap h.ba)).trans h.ba, (hb.block _ (lt_of_heap h.bc)).trans h.bc, (hb.block _ (lt_of_heap h.rc)).trans h.rc⟩
def ebW (w : World) (lim : Nat) (g cap n : Nat) (c : Cf) : World := ((w.alloc (.cells #[.int .i64 lim, .slice (some ⟨g, 0, none⟩) n cap] 30)).alloc (.cells #[.int .i64 c.k, .bool c.h, .int .u64 c.n] 36)).alloc (.cells #[.int .i64 0, .bool false, .int .u64 0] 36)
theorem ebW_below (w : World) (lim : Nat) (g cap n : Nat) (c : Cf) : Below w.heap.size w (ebW w lim g cap n c) :=
  (((Below.refl _ _).alloc (Nat.le_refl _) _).alloc (by simp) _).alloc (by simp; omega) _
theorem Eb.new (w : World) (lim : Nat) (g cap n : Nat) (c : Cf) : Eb w (ebW w lim g cap n c) lim g cap n c := by
  unfold ebW
  refine ⟨?_, ?_, ?_⟩
  · rw [Below.heap_alloc _ _ _ (by simp; omega), Below.heap_alloc _ _ _ (by simp)]; exact heap_alloc_new w _
  · rw [Below.heap_alloc _ _ _ (by simp)]
    have := heap_alloc_new (w.alloc (.cells #[.int .i64 lim, .slice (some ⟨g, 0, none⟩) n cap] 30)) (.cells #[.int .i64 c.k, .bool c.h, .int .u64 c.n] 36)
    rwa [World.size_alloc] at this
  · have := heap_alloc_new ((w.alloc (.cells #[.int .i64 lim, .slice (some ⟨g, 0, none⟩) n cap] 30)).alloc (.cells #[.int .i64 c.k, .bool c.h, .int .u64 c.n] 36)) (.cells #[.int .i64 0, .bool false, .int .u64 0] 36)
    rwa [World.size_alloc, World.size_alloc] at this
theorem below_set3 {w w' : World} {q : Nat} (h : Below w.heap.size w w') (h2 : w.heap.size ≤ q) (v0 v1 v2 : Value) : Below w.heap.size w (((w'.setCell ⟨q, 0, none⟩ v0).setCell ⟨q, 1, none⟩ v1).setCell ⟨q, 2, none⟩ v2) :=
  ((h.setCell h2 _).setCell h2 _).setCell h2 _
theorem rn_cells {W : World} {p : Nat} {k n a b c : Int} (h : W.heap[p]? = some (.cells #[.int .i64 k, .int .u64 n, .int .i64 a, .int .i64 b, .int .i64 c] 66 (0, 0))) : W.cell? ⟨p, 0, none⟩ = some (.int .i64 k) ∧ W.cell? ⟨p, 1, none⟩ = some (.int .u64 n) ∧ W.cell? ⟨p, 2, none⟩ = some (.int .i64 a) ∧ W.cell? ⟨p, 3, none⟩ = some (.int .i64 b) ∧ W.cell? ⟨p, 4, none⟩ = some (.int .i64 c) :=
  ⟨(cell_of_row W p 0 _ _ _ h).trans rfl, (cell_of_row W p 1 _ _ _ h).trans rfl, (cell_of_row W p 2 _ _ _ h).trans rfl, (cell_of_row W p 3 _ _ _ h).trans rfl, (cell_of_row W p 4 _ _ _ h).trans rfl⟩

set_option maxRecDepth 100000 in
set_option maxHeartbeats 4000000 in
theorem refOpen_any (lim : Nat) (g cap : Nat) (L : List Nd) (c : Cf) (ad x : Int) (w : World) (hr : rowAt w g L) (hg : g < w.heap.size) (hn : u64ok c.n) :
    Calls Tryd.prog 17 #[.agg #[.int .i64 lim, .slice (some ⟨g, 0, none⟩) L.length cap], cfV c, .int .i64 ad, .int .i64 x] w (OpenPost L c ad x w) := by
  obtain ⟨W0, hW0⟩ : ∃ W, W = ebW w lim g cap L.length c := ⟨_, rfl⟩
  have HB0 : Hid (Below w.heap.size w W0) := Lib.hid (by rw [hW0]; exact ebW_below w lim g cap L.length c)
  have HC0 : Hid (Eb w W0 lim g cap L.length c) := Lib.hid (by rw [hW0]; exact Eb.new w lim g cap L.length c)
  have HCK := Lib.hid (may_any lim (some ⟨g, 0, none⟩) L.length cap c ad x W0)
  have HR := Lib.hid hr; clear hr
  rw [hW0] at HCK
  unfold ebW at HCK hW0
  unfold cfV at HCK ⊢
  go_enter Tryd.func17, Tryd.ntmps17
  go_wp2_with fail
  go_at_call 31
  refine HCK.out.mono ?_
  rintro e w1 ⟨rfl, hb1⟩
  rw [← hW0] at hb1
  have HB1 := Lib.hid (HB0.out.trans (hb1.mono HB0.out.size))
  have HC1 := Lib.hid (HC0.out.keep hb1)
  clear hW0 hb1 HB0 HC0 HCK
  obtain ⟨a0, a1⟩ := ra_cells HC1.out.ba
  obtain ⟨c0, c1, c2⟩ := rc_cells HC1.out.bc
  obtain ⟨z0, z1, z2⟩ := rc_cells HC1.out.rc
  have l2 := lt_of_heap HC1.out.rc
  have l1 : w.heap.size + 1 < w1.heap.size := by omega
  have l0 : w.heap.size < w1.heap.size := by omega
  have zf : ∀ j, w1.frozen? ⟨w.heap.size + 1 + 1, j, none⟩ = false := fun j => frozen_of_row _ _ _ _ _ HC1.out.rc
  rcases chk_cases L.length c ad x with hk | hk
  · have hk0 : chk L.length c ad x ≠ 0 := by rcases hk with h | h <;> rw [h] <;> decide
    obtain ⟨e2, e3, e4⟩ := op_err hk0
    have hk1 : (chk L.length c ad x != 0) = true := by simpa using hk0
    have HP := Lib.hid (fun w' hb => openPost_of (w := w) (w' := w') e3 e2 e4 hb)
    clear hk hk0 e2 e3 e4
    generalize chk L.length c ad x = q at *
    go_wp2_with fail
    refine bodyPost_ret (v := .tuple #[.agg #[.int .i64 0, .bool false, .int .u64 0], .int .i64 0, .int .i64 q]) (by simp [results, Tryd.results17, go_sem, z0, z1, z2]) rfl ?_
    exact HP.out _ (below_set3 HB1.out (by omega) _ _ _)
  · rw [hk]
    cases hh : c.h
    · obtain ⟨e2, e3, e4⟩ := op_none hk hh
      have HP := Lib.hid (fun w' hb => openPost_of (w := w) (w' := w') e3 e2 e4 hb)
      clear hk e2 e3 e4
      rw [hh] at c1
      obtain ⟨ck, ch, cn⟩ := c
      simp only at c0 c1 c2 hh
      subst hh
      go_wp2_with fail
      refine bodyPost_ret (v := .tuple #[.agg #[.int .i64 ck, .bool false, .int .u64 cn], .int .i64 x, .int .i64 0]) (by simp [results, Tryd.results17, go_sem, z0, z1, z2]) rfl ?_
      exact HP.out _ (below_set3 HB1.out (by omega) _ _ _)
    · obtain ⟨⟨q1, q2⟩, q3⟩ := chk_zero hk
      have hcl : c.n ≠ lastU := (q3 hh).2
      have HNO := Lib.hid (fun hb => op_no (L := L) (x := x) hk hh hb)
      have HYES := Lib.hid (fun hb => op_yes (L := L) (x := x) hk hh hb)
      have hx := hasB_iff.1 q2
      obtain ⟨i, rfl⟩ := Int.eq_ofNat_of_zero_le hx.1
      have hi : i < L.length := by omega
      have hi0 : (0 : Int) ≤ (i : Int) := by omega
      have hi1 : (i : Int) < (L.length : Int) := by omega
      obtain ⟨ri0, ri1, ri2, ri3, ri4⟩ := (HR.out.keep (HB1.out.block g hg)) i hi
      have hgw : g < w1.heap.size := Nat.lt_of_lt_of_le hg HB1.out.size
      obtain ⟨ck, ch, cn⟩ := c
      simp only at c0 c1 c2 hh hn hcl
      subst hh
      have hcw : IntKind.u64.wrap (cn + 1) = cn + 1 := by
        have h1 := hn.1; have h2 := hn.2; unfold lastU at hcl; rw [IntKind.wrap_u64]; omega
      have hnd : nd L (i : Int) = L.getD i zN := by unfold nd; rw [Int.toNat_natCast]
      rw [hnd] at HNO HYES
      clear hk q1 q2 q3 hcl hn hnd hx
      generalize L.getD i zN = d at *
      obtain ⟨dk, dn, da, db, dc⟩ := d
      simp only at ri0 ri1 ri2 ri3 ri4
      have HNX : Hid (nxt ⟨ck, true, cn⟩ = ⟨ck, true, cn + 1⟩) := Lib.hid rfl
      have HSZ : Hid (∀ o v0 v1 v2, Below w.heap.size w ((((w1.setCell ⟨w.heap.size + 1 + 1, 0, none⟩ v0).setCell ⟨w.heap.size + 1 + 1, 1, none⟩ v1).setCell ⟨w.heap.size + 1 + 1, 2, none⟩ v2).alloc o)) := Lib.hid (fun o v0 v1 v2 => (below_set3 HB1.out (by omega) v0 v1 v2).alloc (below_set3 HB1.out (by omega) v0 v1 v2).size o)
      by_cases hdk : dk = 7
      rotate_left
      · have hbdk : (dk != 7) = true := by simpa using hdk
        have HX := Lib.hid hdk; clear hdk
        obtain ⟨o2, o3, o4⟩ := HNO.out (by unfold opB; simp [HX.out])
        have HP := Lib.hid (fun w' hb => openPost_of (w := w) (w' := w') o3 o2 o4 hb)
        clear o2 o3 o4
        go_wp2_with fail
        refine bodyPost_ret (v := .tuple #[.agg #[.int .i64 0, .bool false, .int .u64 0], .int .i64 0, .int .i64 7]) (by simp [results, Tryd.results17, go_sem, z0, z1, z2, l2]) rfl ?_
        exact HP.out _ (HSZ.out _ _ _ _)
      subst hdk
      by_cases hdn : dn = cn
      rotate_left
      · have hbdn : (dn != cn) = true := by simpa using hdn
        have HX := Lib.hid hdn; clear hdn
        obtain ⟨o2, o3, o4⟩ := HNO.out (by unfold opB; simp [HX.out])
        have HP := Lib.hid (fun w' hb => openPost_of (w := w) (w' := w') o3 o2 o4 hb)
        clear o2 o3 o4
        go_wp2_with fail
        refine bodyPost_ret (v := .tuple #[.agg #[.int .i64 0, .bool false, .int .u64 0], .int .i64 0, .int .i64 7]) (by simp [results, Tryd.results17, go_sem, z0, z1, z2, l2]) rfl ?_
        exact HP.out _ (HSZ.out _ _ _ _)
      subst hdn
      by_cases hda : da = ck
      rotate_left
      · have hbda : (da != ck) = true := by simpa using hda
        have HX := Lib.hid hda; clear hda
        obtain ⟨o2, o3, o4⟩ := HNO.out (by unfold opB; simp [HX.out])
        have HP := Lib.hid (fun w' hb => openPost_of (w := w) (w' := w') o3 o2 o4 hb)
        clear o2 o3 o4
        go_wp2_with fail
        refine bodyPost_ret (v := .tuple #[.agg #[.int .i64 0, .bool false, .int .u64 0], .int .i64 0, .int .i64 7]) (by simp [results, Tryd.results17, go_sem, z0, z1, z2, l2]) rfl ?_
        exact HP.out _ (HSZ.out _ _ _ _)
      subst hda
      by_cases hdb : db = ad
      rotate_left
      · have hbdb : (db != ad) = true := by simpa using hdb
        have HX := Lib.hid hdb; clear hdb
        obtain ⟨o2, o3, o4⟩ := HNO.out (by unfold opB; simp [HX.out])
        have HP := Lib.hid (fun w' hb => openPost_of (w := w) (w' := w') o3 o2 o4 hb)
        clear o2 o3 o4
        go_wp2_with fail
        refine bodyPost_ret (v := .tuple #[.agg #[.int .i64 0, .bool false, .int .u64 0], .int .i64 0, .int .i64 7]) (by simp [results, Tryd.results17, go_sem, z0, z1, z2, l2]) rfl ?_
        exact HP.out _ (HSZ.out _ _ _ _)
      subst hdb
      obtain ⟨o2, o3, o4⟩ := HYES.out (by unfold opB; simp)
      rw [HNX.out] at o4
      have HP := Lib.hid (fun w' hb => openPost_of (w := w) (w' := w') o3 o2 o4 hb)
      clear o2 o3 o4
      have HN3 := Lib.hid (heap_alloc_new w1 (.cells #[.int .i64 7, .int .u64 dn, .int .i64 da, .int .i64 db, .int .i64 dc] 66))
      have HX3 : Hid (Below w1.heap.size w1 (w1.alloc (.cells #[.int .i64 7, .int .u64 dn, .int .i64 da, .int .i64 db, .int .i64 dc] 66))) := Lib.hid ((Below.refl _ _).alloc (Nat.le_refl _) _)
      have HB3 := Lib.hid (HB1.out.trans (HX3.out.mono HB1.out.size))
      have HC3 := Lib.hid (HC1.out.keep HX3.out)
      go_wp2_with fail
      clear a0 a1 c0 c1 c2 z0 z1 z2 l0 l1 l2 zf ri0 ri1 ri2 ri3 ri4 HX3
      generalize w1.alloc (.cells #[.int .i64 7, .int .u64 dn, .int .i64 da, .int .i64 db, .int .i64 dc] 66) = W3 at *
      have hpn : w.heap.size + 1 + 1 < w1.heap.size := lt_of_heap HC1.out.rc
      have hn1 : w1.heap.size ≠ w.heap.size + 1 + 1 := by omega
      obtain ⟨a0, a1⟩ := ra_cells HC3.out.ba
      obtain ⟨c0, c1, c2⟩ := rc_cells HC3.out.bc
      obtain ⟨z0, z1, z2⟩ := rc_cells HC3.out.rc
      have l2 := lt_of_heap HC3.out.rc
      have l1 : w.heap.size + 1 < W3.heap.size := by omega
      have l0 : w.heap.size < W3.heap.size := by omega
      have zf : ∀ j, W3.frozen? ⟨w.heap.size + 1 + 1, j, none⟩ = false := fun j => frozen_of_row _ _ _ _ _ HC3.out.rc
      obtain ⟨n0, n1, n2, n3, n4⟩ := rn_cells HN3.out
      have ln := lt_of_heap HN3.out
      simp only at c0 c1 c2
      refine wp_region_noPanic ?_
      refine wp_region_held_drew (S := (fun W => W.cell? ⟨w1.heap.size, 4, none⟩ = some (.int .i64 dc) ∧ W.cell? ⟨w.heap.size + 1, 0, none⟩ = some (.int .i64 da) ∧ W.cell? ⟨w.heap.size + 1, 1, none⟩ = some (.bool true) ∧ W.cell? ⟨w.heap.size + 1, 2, none⟩ = some (.int .u64 dn))) (by kernel_rfl) ?_ (fun hHeld => ?_)
      · ((try dsimp only); first | (go_simp; done) | (simp [*]; done))
      refine wpAnyH_take (i := 0) (v := ?_) rfl (by kernel_rfl) (by kernel_rfl) (by kernel_rfl) (fun _ _ _ h => h) (Or.inl ⟨by rfl, ?_⟩) (by assumption) ?_
      rotate_left
      · (intro w hSw; (try dsimp only at hSw); go_simp; try with_reducible rfl)
      try simp only [List.getElem_toArray, List.getElem_cons_zero, Act.put, List.setIfInBounds_toArray, List.set_cons_zero, List.set_cons_succ]
      refine wpAnyH_take (i := 1) (v := ?_) rfl (by kernel_rfl) (by kernel_rfl) (by kernel_rfl) (fun _ _ _ h => h) (Or.inl ⟨by rfl, ?_⟩) (by assumption) ?_
      rotate_left
      · (intro w hSw; (try dsimp only at hSw); go_simp; try with_reducible rfl)
      try simp only [List.getElem_toArray, List.getElem_cons_succ, List.getElem_cons_zero, Act.put, List.setIfInBounds_toArray, List.set_cons_zero, List.set_cons_succ]
      refine wpAnyH_take (i := 2) (v := ?_) rfl (by kernel_rfl) (by kernel_rfl) (by kernel_rfl) (fun _ _ _ h => h) (Or.inl ⟨by rfl, ?_⟩) (by assumption) ?_
      rotate_left
      · (intro w hSw; (try dsimp only at hSw); go_simp; try with_reducible rfl)
      try simp only [List.getElem_toArray, List.getElem_cons_succ, List.getElem_cons_zero, Act.put, List.setIfInBounds_toArray, List.set_cons_zero, List.set_cons_succ]
      refine wpAnyH_take (i := 3) (v := ?_) rfl (by kernel_rfl) (by kernel_rfl) (by kernel_rfl) (fun _ _ _ h => h) (Or.inl ⟨by rfl, ?_⟩) (by assumption) ?_
      rotate_left
      · (intro w hSw; (try dsimp only at hSw); go_simp; try with_reducible rfl)
      try simp only [List.getElem_toArray, List.getElem_cons_succ, List.getElem_cons_zero, Act.put, List.setIfInBounds_toArray, List.set_cons_zero, List.set_cons_succ]
      refine wpAnyH_take (i := 4) (v := ?_) rfl (by kernel_rfl) (by kernel_rfl) (by kernel_rfl) (fun _ _ _ h => h) (Or.inl ⟨by rfl, ?_⟩) (by assumption) ?_
      rotate_left
      · (intro w hSw; (try dsimp only at hSw); go_simp; try with_reducible rfl)
      try simp only [List.getElem_toArray, List.getElem_cons_succ, List.getElem_cons_zero, Act.put, List.setIfInBounds_toArray, List.set_cons_zero, List.set_cons_succ]
      refine wpAnyH_take (i := 5) (v := ?_) rfl (by kernel_rfl) (by kernel_rfl) (by kernel_rfl) (fun _ _ _ h => h) (Or.inl ⟨by rfl, ?_⟩) (by assumption) ?_
      rotate_left
      · (intro w hSw; (try dsimp only at hSw); go_simp; try with_reducible rfl)
      try simp only [List.getElem_toArray, List.getElem_cons_succ, List.getElem_cons_zero, Act.put, List.setIfInBounds_toArray, List.set_cons_zero, List.set_cons_succ]
      refine wpAnyH_take (i := 6) (v := ?_) rfl (by kernel_rfl) (by kernel_rfl) (by kernel_rfl) (fun _ _ _ h => h) (Or.inl ⟨by rfl, ?_⟩) (by assumption) ?_
      rotate_left
      · (intro w hSw; (try dsimp only at hSw); go_simp; try with_reducible rfl)
      try simp only [List.getElem_toArray, List.getElem_cons_succ, List.getElem_cons_zero, Act.put, List.setIfInBounds_toArray, List.set_cons_zero, List.set_cons_succ]
      refine wpAnyH_take (i := 7) (v := ?_) rfl (by kernel_rfl) (by kernel_rfl) (by kernel_rfl) (fun _ _ _ h => h) (Or.inl ⟨by rfl, ?_⟩) (by assumption) ?_
      rotate_left
      · (intro w hSw; (try dsimp only at hSw); go_simp; try with_reducible rfl)
      try simp only [List.getElem_toArray, List.getElem_cons_succ, List.getElem_cons_zero, Act.put, List.setIfInBounds_toArray, List.set_cons_zero, List.set_cons_succ]
      refine wpAnyH_ready (rs := [8]) (by kernel_rfl) (by simp) ?_
      refine AllReadyH.cons rfl (fun K hK => ?_) AllReadyH.nil
      go_simp
      refine hK.out _ _ ?_ (fun hHeld => ?_)
      · ((try dsimp only); first | (go_simp; done) | (simp [*]; done))
      clear hK K
      try simp only [List.getElem_toArray, List.getElem_cons_succ, List.getElem_cons_zero, Act.put, List.setIfInBounds_toArray, List.set_cons_zero, List.set_cons_succ]
      refine wpAnyH_take (i := 9) (v := ?_) rfl (by kernel_rfl) (by kernel_rfl) (by kernel_rfl) (fun _ _ _ h => h) (Or.inl ⟨by rfl, ?_⟩) (by assumption) ?_
      rotate_left
      · (intro w hSw; (try dsimp only at hSw); go_simp; try with_reducible rfl)
      try simp only [List.getElem_toArray, List.getElem_cons_succ, List.getElem_cons_zero, Act.put, List.setIfInBounds_toArray, List.set_cons_zero, List.set_cons_succ]
      refine wpAnyH_take (i := 10) (v := ?_) rfl (by kernel_rfl) (by kernel_rfl) (by kernel_rfl) (fun _ _ _ h => h) (Or.inl ⟨by rfl, ?_⟩) (by assumption) ?_
      rotate_left
      · (intro w hSw; (try dsimp only at hSw); go_simp; try with_reducible rfl)
      try simp only [List.getElem_toArray, List.getElem_cons_succ, List.getElem_cons_zero, Act.put, List.setIfInBounds_toArray, List.set_cons_zero, List.set_cons_succ]
      refine wpAnyH_done (by kernel_rfl) ?_ _
      refine NoPanic.normal ?_
      go_wp2_with fail
      refine bodyPost_ret (v := .tuple #[.agg #[.int .i64 da, .bool true, .int .u64 (dn + 1)], .int .i64 dc, .int .i64 0]) (by simp [results, Tryd.results17, go_sem, z0, z1, z2]) rfl ?_
      exact HP.out _ (below_set3 HB3.out (by omega) _ _ _).drew
end Go.Proofs.YtonpjogaamgceaaDoor
