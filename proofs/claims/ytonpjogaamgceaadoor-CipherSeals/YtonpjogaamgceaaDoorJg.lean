/- Layer 10: the reference's walk of Seal. -/
import Derived.Test.YtonpjogaamgceaaDoorJf
namespace Go.Proofs.YtonpjogaamgceaaDoor
open Go.RowKit

theorem mkL_err {lim : Nat} {L : List Nd} {d : Nd} (h : mkE lim L d ≠ 0) : mkL lim L d = L := by
  cases hr : right L d
  · exact (mk_wrong hr).1
  · cases hi : ix d L with
    | some i => exact (mk_old hr hi).1
    | none =>
      by_cases hl : lim ≤ L.length
      · exact (mk_full hr hi hl).1
      · rw [(mk_new hr hi (by omega)).2.2] at h; exact absurd rfl h
/-- The boxes of a call of the reference's that w began: its arena, its cipher, and those of both results. -/
structure Db (w W : World) (lim : Nat) (g cap n : Nat) (c : Cf) : Prop where
  ba : W.heap[w.heap.size]? = some (.cells #[.int .i64 lim, .slice (some ⟨g, 0, none⟩) n cap] 30 (0, 0))
  bc : W.heap[w.heap.size + 1]? = some (.cells #[.int .i64 c.k, .bool c.h, .int .u64 c.n] 36 (0, 0))
  ra : W.heap[w.heap.size + 1 + 1]? = some (.cells #[.int .i64 0, .slice none 0 0] 30 (0, 0))
  rc : W.heap[w.heap.size + 1 + 1 + 1]? = some (.cells #[.int .i64 0, .bool false, .int .u64 0] 36 (0, 0))
theorem Db.keep {w W W' : World} {lim g cap n : Nat} {c : Cf} (h : Db w W lim g cap n c) (hb : Below W.heap.size W W') : Db w W' lim g cap n c :=
  ⟨(hb.block _ (lt_of_heap h.ba)).trans h.ba, (hb.block _ (lt_of_heap h.bc)).trans h.bc, (hb.block _ (lt_of_heap h.ra)).trans h.ra, (hb.block _ (lt_of_heap h.rc)).trans h.rc⟩
def dbW (w : World) (lim : Nat) (g cap n : Nat) (c : Cf) : World := (((w.alloc (.cells #[.int .i64 lim, .slice (some ⟨g, 0, none⟩) n cap] 30)).alloc (.cells #[.int .i64 c.k, .bool c.h, .int .u64 c.n] 36)).alloc (.cells #[.int .i64 0, .slice none 0 0] 30)).alloc (.cells #[.int .i64 0, .bool false, .int .u64 0] 36)
theorem dbW_below (w : World) (lim : Nat) (g cap n : Nat) (c : Cf) : Below w.heap.size w (dbW w lim g cap n c) :=
  ((((Below.refl _ _).alloc (Nat.le_refl _) _).alloc (by simp) _).alloc (by simp; omega) _).alloc (by simp; omega) _
theorem Db.new (w : World) (lim : Nat) (g cap n : Nat) (c : Cf) : Db w (dbW w lim g cap n c) lim g cap n c := by
  unfold dbW
  refine ⟨?_, ?_, ?_, ?_⟩
  · rw [Below.heap_alloc _ _ _ (by simp; omega), Below.heap_alloc _ _ _ (by simp; omega), Below.heap_alloc _ _ _ (by simp)]; exact heap_alloc_new w _
  · rw [Below.heap_alloc _ _ _ (by simp), Below.heap_alloc _ _ _ (by simp)]
    have := heap_alloc_new (w.alloc (.cells #[.int .i64 lim, .slice (some ⟨g, 0, none⟩) n cap] 30)) (.cells #[.int .i64 c.k, .bool c.h, .int .u64 c.n] 36)
    rwa [World.size_alloc] at this
  · rw [Below.heap_alloc _ _ _ (by simp)]
    have := heap_alloc_new ((w.alloc (.cells #[.int .i64 lim, .slice (some ⟨g, 0, none⟩) n cap] 30)).alloc (.cells #[.int .i64 c.k, .bool c.h, .int .u64 c.n] 36)) (.cells #[.int .i64 0, .slice none 0 0] 30)
    rwa [World.size_alloc, World.size_alloc] at this
  · have := heap_alloc_new (((w.alloc (.cells #[.int .i64 lim, .slice (some ⟨g, 0, none⟩) n cap] 30)).alloc (.cells #[.int .i64 c.k, .bool c.h, .int .u64 c.n] 36)).alloc (.cells #[.int .i64 0, .slice none 0 0] 30)) (.cells #[.int .i64 0, .bool false, .int .u64 0] 36)
    rwa [World.size_alloc, World.size_alloc, World.size_alloc] at this
/-- A row through the stores into two boxes of three and two cells. -/
theorem row_set {w : World} {g p q : Nat} {L : List Nd} (h : rowAt w g L) (h1 : g ≠ p) (h2 : g ≠ q) (u0 u1 v0 v1 v2 : Value) : rowAt (((((w.setCell ⟨p, 0, none⟩ u0).setCell ⟨p, 1, none⟩ u1).setCell ⟨q, 0, none⟩ v0).setCell ⟨q, 1, none⟩ v1).setCell ⟨q, 2, none⟩ v2) g L :=
  h.keep (by rw [Below.heap_setCell _ _ _ _ h2, Below.heap_setCell _ _ _ _ h2, Below.heap_setCell _ _ _ _ h2, Below.heap_setCell _ _ _ _ h1, Below.heap_setCell _ _ _ _ h1])
theorem rowAt.dr {w : World} {g : Nat} {L : List Nd} (h : rowAt w g L) : rowAt w.drew g L := h.keep rfl
theorem below_set {w w' : World} {p q : Nat} (h : Below w.heap.size w w') (h1 : w.heap.size ≤ p) (h2 : w.heap.size ≤ q) (u0 u1 v0 v1 v2 : Value) : Below w.heap.size w (((((w'.setCell ⟨p, 0, none⟩ u0).setCell ⟨p, 1, none⟩ u1).setCell ⟨q, 0, none⟩ v0).setCell ⟨q, 1, none⟩ v1).setCell ⟨q, 2, none⟩ v2) :=
  ((((h.setCell h1 _).setCell h1 _).setCell h2 _).setCell h2 _).setCell h2 _

def RefSeal (g lim : Nat) (L : List Nd) (c : Cf) (ad p : Int) (w : World) (e : Ending) (w' : World) : Prop :=
  ∃ g' cap', e = .returned (.tuple #[.agg #[.int .i64 lim, .slice (some ⟨g', 0, none⟩) (slL lim L c ad p).length cap'], cfV (slC lim L c ad p), .int .i64 (slR lim L c ad p), .int .i64 (slE lim L c ad p)]) ∧ rowAt w' g' (slL lim L c ad p) ∧ g' < w'.heap.size ∧ Below w.heap.size w w' ∧ (g' = g ∨ w.heap.size ≤ g')
theorem refSeal_same {g cap lim : Nat} {L : List Nd} {c : Cf} {ad p : Int} {r er : Int} {c' : Cf} {w w' : World} (h1 : slL lim L c ad p = L) (h2 : slR lim L c ad p = r) (h3 : slE lim L c ad p = er) (h4 : slC lim L c ad p = c') (hr : rowAt w g L) (hg : g < w.heap.size) (hb : Below w.heap.size w w') :
    RefSeal g lim L c ad p w (.returned (.tuple #[.agg #[.int .i64 lim, .slice (some ⟨g, 0, none⟩) L.length cap], cfV c', .int .i64 r, .int .i64 er])) w' :=
  ⟨g, cap, by rw [h1, h2, h3, h4], by rw [h1]; exact hr.keep (hb.block g hg), Nat.lt_of_lt_of_le hg hb.size, hb, Or.inl rfl⟩

set_option maxRecDepth 100000 in
set_option maxHeartbeats 4000000 in
theorem refSeal_any (lim : Nat) (g cap : Nat) (L : List Nd) (hw : WFp L) (hm : L.length ≤ 65536) (c : Cf) (ad p : Int) (w : World) (hr : rowAt w g L) (hg : g < w.heap.size) (hn : u64ok c.n) :
    Calls Tryd.prog 13 #[.agg #[.int .i64 lim, .slice (some ⟨g, 0, none⟩) L.length cap], cfV c, .int .i64 ad, .int .i64 p] w (RefSeal g lim L c ad p w) := by
  obtain ⟨W0, hW0⟩ : ∃ W, W = dbW w lim g cap L.length c := ⟨_, rfl⟩
  have HB0 : Hid (Below w.heap.size w W0) := Lib.hid (by rw [hW0]; exact dbW_below w lim g cap L.length c)
  have HC0 : Hid (Db w W0 lim g cap L.length c) := Lib.hid (by rw [hW0]; exact Db.new w lim g cap L.length c)
  have HCK := Lib.hid (may_any lim (some ⟨g, 0, none⟩) L.length cap c ad p W0)
  have HR := Lib.hid hr; clear hr
  have HW := Lib.hid hw; clear hw
  rw [hW0] at HCK
  unfold dbW at HCK hW0
  unfold cfV at HCK ⊢
  go_enter Tryd.func13, Tryd.ntmps13
  go_wp2_with fail
  go_at_call 31
  refine HCK.out.mono ?_
  rintro e w1 ⟨rfl, hb1⟩
  rw [← hW0] at hb1
  have HB1 := Lib.hid (HB0.out.trans (hb1.mono HB0.out.size))
  have HC1 := Lib.hid (HC0.out.keep hb1)
  clear hW0 hb1 HB0 HC0 HCK
  obtain ⟨a0, a1⟩ := ra_cells HC1.out.ba
  obtain ⟨c0, c1, c2⟩ := rc_cells HC1.out.bc
  obtain ⟨y0, y1⟩ := ra_cells HC1.out.ra
  obtain ⟨z0, z1, z2⟩ := rc_cells HC1.out.rc
  have l3 := lt_of_heap HC1.out.rc
  have l2 : w.heap.size + 1 + 1 < w1.heap.size := by omega
  have l1 : w.heap.size + 1 < w1.heap.size := by omega
  have l0 : w.heap.size < w1.heap.size := by omega
  have yf : ∀ j, w1.frozen? ⟨w.heap.size + 1 + 1, j, none⟩ = false := fun j => frozen_of_row _ _ _ _ _ HC1.out.ra
  have zf : ∀ j, w1.frozen? ⟨w.heap.size + 1 + 1 + 1, j, none⟩ = false := fun j => frozen_of_row _ _ _ _ _ HC1.out.rc
  rcases chk_cases L.length c ad p with hk | hk
  · have hk0 : chk L.length c ad p ≠ 0 := by rcases hk with h | h <;> rw [h] <;> decide
    obtain ⟨e1, e2, e3, e4⟩ := chk_err (lim := lim) hk0
    have hk1 : (chk L.length c ad p != 0) = true := by simpa using hk0
    have HP := Lib.hid (fun w' hb => refSeal_same (w' := w') (cap := cap) e1 e3 e2 e4 HR.out hg hb)
    clear hk hk0 e1 e2 e3 e4
    generalize chk L.length c ad p = q at *
    go_wp2_with fail
    refine bodyPost_ret (v := .tuple #[.agg #[.int .i64 lim, .slice (some ⟨g, 0, none⟩) L.length cap], .agg #[.int .i64 0, .bool false, .int .u64 0], .int .i64 0, .int .i64 q]) (by simp [results, Tryd.results13, go_sem, y0, y1, z0, z1, z2]) rfl ?_
    exact HP.out _ (below_set HB1.out (by omega) (by omega) _ _ _ _ _)
  · rw [hk]
    cases hh : c.h
    · obtain ⟨e1, e2, e3, e4⟩ := sl_none (lim := lim) hk hh
      have HP := Lib.hid (fun w' hb => refSeal_same (w' := w') (cap := cap) e1 e3 e2 e4 HR.out hg hb)
      clear hk e1 e2 e3 e4
      rw [hh] at c1
      obtain ⟨ck, ch, cn⟩ := c
      simp only at c0 c1 c2 hh
      subst hh
      go_wp2_with fail
      refine wp_region_noPanic ?_
      refine wp_region_held_drew (S := (fun W => (W.cell? ⟨w.heap.size, 0, none⟩ = some (.int .i64 lim) ∧ W.cell? ⟨w.heap.size, 1, none⟩ = some (.slice (some ⟨g, 0, none⟩) L.length cap)) ∧ W.cell? ⟨w.heap.size + 1, 0, none⟩ = some (.int .i64 ck) ∧ W.cell? ⟨w.heap.size + 1, 1, none⟩ = some (.bool false) ∧ W.cell? ⟨w.heap.size + 1, 2, none⟩ = some (.int .u64 cn))) (by kernel_rfl) ?_ (fun hHeld => ?_)
      · ((try dsimp only); first | (go_simp; done) | (simp [*]; done))
      refine wpAnyH_take (i := 0) (v := ?_) rfl (by kernel_rfl) (by kernel_rfl) (by kernel_rfl) (fun _ _ _ h => h) (Or.inl ⟨by rfl, ?_⟩) (by assumption) ?_
      rotate_left
      · (intro w hSw; (try dsimp only at hSw); go_simp; try with_reducible rfl)
      try simp only [List.getElem_toArray, List.getElem_cons_zero, Act.put, List.setIfInBounds_toArray, List.set_cons_zero, List.set_cons_succ]
      refine wpAnyH_take (i := 1) (v := ?_) rfl (by kernel_rfl) (by kernel_rfl) (by kernel_rfl) (fun _ _ _ h => h) (Or.inl ⟨by rfl, ?_⟩) (by assumption) ?_
      rotate_left
      · (intro w hSw; (try dsimp only at hSw); go_simp; try with_reducible rfl)
      try simp only [List.getElem_toArray, List.getElem_cons_succ, List.getElem_cons_zero, Act.put, List.setIfInBounds_toArray, List.set_cons_zero, List.set_cons_succ]
      refine wpAnyH_take (i := 2) (v := ?_) rfl (by kernel_rfl) (by kernel_rfl) (by kernel_rfl) (fun _ _ _ h => h) (Or.inl ⟨by rfl, ?_⟩) (by assumption) ?_
      rotate_left
      · (intro w hSw; (try dsimp only at hSw); go_simp; try with_reducible rfl)
      try simp only [List.getElem_toArray, List.getElem_cons_succ, List.getElem_cons_zero, Act.put, List.setIfInBounds_toArray, List.set_cons_zero, List.set_cons_succ]
      refine wpAnyH_ready (rs := [3]) (by kernel_rfl) (by simp) ?_
      refine AllReadyH.cons rfl (fun K hK => ?_) AllReadyH.nil
      go_simp
      refine hK.out _ _ ?_ (fun hHeld => ?_)
      · ((try dsimp only); first | (go_simp; done) | (simp [*]; done))
      clear hK K
      try simp only [List.getElem_toArray, List.getElem_cons_succ, List.getElem_cons_zero, Act.put, List.setIfInBounds_toArray, List.set_cons_zero, List.set_cons_succ]
      refine wpAnyH_ready (rs := [4]) (by kernel_rfl) (by simp) ?_
      refine AllReadyH.cons rfl (fun K hK => ?_) AllReadyH.nil
      go_simp
      refine hK.out _ _ ?_ (fun hHeld => ?_)
      · ((try dsimp only); first | (go_simp; done) | (simp [*]; done))
      clear hK K
      try simp only [List.getElem_toArray, List.getElem_cons_succ, List.getElem_cons_zero, Act.put, List.setIfInBounds_toArray, List.set_cons_zero, List.set_cons_succ]
      refine wpAnyH_take (i := 5) (v := ?_) rfl (by kernel_rfl) (by kernel_rfl) (by kernel_rfl) (fun _ _ _ h => h) (Or.inl ⟨by rfl, ?_⟩) (by assumption) ?_
      rotate_left
      · (intro w hSw; (try dsimp only at hSw); go_simp; try with_reducible rfl)
      try simp only [List.getElem_toArray, List.getElem_cons_succ, List.getElem_cons_zero, Act.put, List.setIfInBounds_toArray, List.set_cons_zero, List.set_cons_succ]
      refine wpAnyH_take (i := 6) (v := ?_) rfl (by kernel_rfl) (by kernel_rfl) (by kernel_rfl) (fun _ _ _ h => h) (Or.inl ⟨by rfl, ?_⟩) (by assumption) ?_
      rotate_left
      · (intro w hSw; (try dsimp only at hSw); go_simp; try with_reducible rfl)
      try simp only [List.getElem_toArray, List.getElem_cons_succ, List.getElem_cons_zero, Act.put, List.setIfInBounds_toArray, List.set_cons_zero, List.set_cons_succ]
      refine wpAnyH_done (by kernel_rfl) ?_ _
      refine NoPanic.normal ?_
      go_wp2_with fail
      refine bodyPost_ret (v := .tuple #[.agg #[.int .i64 lim, .slice (some ⟨g, 0, none⟩) L.length cap], .agg #[.int .i64 ck, .bool false, .int .u64 cn], .int .i64 p, .int .i64 0]) (by simp [results, Tryd.results13, go_sem, y0, y1, z0, z1, z2]) rfl ?_
      exact HP.out _ (below_set HB1.out (by omega) (by omega) _ _ _ _ _).drew
    · obtain ⟨e1, e2, e3, e4⟩ := sl_mk (lim := lim) hk hh
      have hcl : c.n ≠ lastU := ((chk_zero hk).2 hh).2
      have HE1 := Lib.hid e1
      have HE2 := Lib.hid e2
      have HE3 := Lib.hid e3
      have HE4 := Lib.hid e4
      have HME := Lib.hid (mkL_err (lim := lim) (L := L) (d := slN c ad p))
      have HMR := Lib.hid (mkR_err (lim := lim) (L := L) (d := slN c ad p))
      have HMK := Lib.hid (refMj_any lim g cap L HW.out hm (slN c ad p).k (slN c ad p).n (slN c ad p).a (slN c ad p).b (slN c ad p).c w1 (HR.out.keep (HB1.out.block g hg)) (Nat.lt_of_lt_of_le hg HB1.out.size))
      have hgw : g < w1.heap.size := Nat.lt_of_lt_of_le hg HB1.out.size
      clear hk e1 e2 e3 e4
      obtain ⟨ck, ch, cn⟩ := c
      simp only at c0 c1 c2 hh hn hcl
      subst hh
      have hcw : IntKind.u64.wrap (cn + 1) = cn + 1 := by
        have h1 := hn.1; have h2 := hn.2; unfold lastU at hcl; rw [IntKind.wrap_u64]; omega
      simp only [slN] at HMK HE1 HE2 HE3 HE4 HME HMR
      clear hcl hn
      go_wp2_with fail
      go_at_call 26
      refine HMK.out.mono ?_
      rintro e w2 ⟨g', cap', rfl, hrow, hlt, hb2, hge⟩
      have HX : Hid (Below w2.heap.size w2 (w2.alloc (.cells #[.int .i64 lim, .slice (some ⟨g', 0, none⟩) (mkL lim L ⟨7, cn, ck, ad, p⟩).length cap'] 30))) := Lib.hid ((Below.refl _ _).alloc (Nat.le_refl _) _)
      have HN3 := Lib.hid (heap_alloc_new w2 (.cells #[.int .i64 lim, .slice (some ⟨g', 0, none⟩) (mkL lim L ⟨7, cn, ck, ad, p⟩).length cap'] 30))
      have HB2 := Lib.hid (HB1.out.trans (hb2.mono HB1.out.size))
      have hb3 := hb2.trans (HX.out.mono hb2.size)
      have HB3 := Lib.hid (HB1.out.trans (hb3.mono HB1.out.size))
      have HC2 := Lib.hid (HC1.out.keep hb2)
      have HC3 := Lib.hid (HC1.out.keep hb3)
      have HR3 := Lib.hid (hrow.keep (HX.out.block g' hlt))
      have HL3 : Hid (g' < (w2.alloc (.cells #[.int .i64 lim, .slice (some ⟨g', 0, none⟩) (mkL lim L ⟨7, cn, ck, ad, p⟩).length cap'] 30)).heap.size) := Lib.hid (Nat.lt_of_lt_of_le hlt HX.out.size)
      have HG3 : Hid (g' = g ∨ w.heap.size + 4 ≤ g') := Lib.hid (hge.imp id fun h => by have := lt_of_heap HC1.out.rc; omega)
      have hpn : w.heap.size + 1 + 1 + 1 < w2.heap.size := by have := lt_of_heap (HC1.out.keep hb2).rc; omega
      clear hrow hlt hb2 hb3 hge HX HMK a0 a1 c0 c1 c2 y0 y1 z0 z1 z2 l0 l1 l2 l3 yf zf
      obtain ⟨a0, a1⟩ := ra_cells HC2.out.ba
      obtain ⟨c0, c1, c2⟩ := rc_cells HC2.out.bc
      obtain ⟨y0, y1⟩ := ra_cells HC2.out.ra
      obtain ⟨z0, z1, z2⟩ := rc_cells HC2.out.rc
      have l3 := lt_of_heap HC2.out.rc
      have l2 : w.heap.size + 1 + 1 < w2.heap.size := by omega
      have l1 : w.heap.size + 1 < w2.heap.size := by omega
      have l0 : w.heap.size < w2.heap.size := by omega
      have yf : ∀ j, w2.frozen? ⟨w.heap.size + 1 + 1, j, none⟩ = false := fun j => frozen_of_row _ _ _ _ _ HC2.out.ra
      have zf : ∀ j, w2.frozen? ⟨w.heap.size + 1 + 1 + 1, j, none⟩ = false := fun j => frozen_of_row _ _ _ _ _ HC2.out.rc
      simp only at c0 c1 c2
      generalize mkL lim L ⟨7, cn, ck, ad, p⟩ = M at *
      generalize mkR lim L ⟨7, cn, ck, ad, p⟩ = r at *
      have HNX : Hid (mkE lim L ⟨7, cn, ck, ad, p⟩ = 0 → slC lim L ⟨ck, true, cn⟩ ad p = ⟨ck, true, cn + 1⟩) := Lib.hid (fun h => by rw [HE4.out]; exact if_pos h)
      have HNY : Hid (mkE lim L ⟨7, cn, ck, ad, p⟩ ≠ 0 → slC lim L ⟨ck, true, cn⟩ ad p = cZ) := Lib.hid (fun h => by rw [HE4.out]; exact if_neg h)
      clear HE4
      generalize mkE lim L ⟨7, cn, ck, ad, p⟩ = er at *
      by_cases her : er = 0
      · subst her
        go_wp2_with fail
        generalize w2.alloc (.cells #[.int .i64 lim, .slice (some ⟨g', 0, none⟩) M.length cap'] 30) = W3 at *
        clear a0 a1 c0 c1 c2 y0 y1 z0 z1 z2 l0 l1 l2 l3 yf zf
        obtain ⟨a0, a1⟩ := ra_cells HC3.out.ba
        obtain ⟨c0, c1, c2⟩ := rc_cells HC3.out.bc
        obtain ⟨y0, y1⟩ := ra_cells HC3.out.ra
        obtain ⟨z0, z1, z2⟩ := rc_cells HC3.out.rc
        have l3 := lt_of_heap HC3.out.rc
        have l2 : w.heap.size + 1 + 1 < W3.heap.size := by omega
        have l1 : w.heap.size + 1 < W3.heap.size := by omega
        have l0 : w.heap.size < W3.heap.size := by omega
        have yf : ∀ j, W3.frozen? ⟨w.heap.size + 1 + 1, j, none⟩ = false := fun j => frozen_of_row _ _ _ _ _ HC3.out.ra
        have zf : ∀ j, W3.frozen? ⟨w.heap.size + 1 + 1 + 1, j, none⟩ = false := fun j => frozen_of_row _ _ _ _ _ HC3.out.rc
        obtain ⟨n0, n1⟩ := ra_cells HN3.out
        have ln := lt_of_heap HN3.out
        simp only at c0 c1 c2
        refine wp_region_noPanic ?_
        refine wp_region_held_drew (S := (fun W => (W.cell? ⟨w2.heap.size, 0, none⟩ = some (.int .i64 lim) ∧ W.cell? ⟨w2.heap.size, 1, none⟩ = some (.slice (some ⟨g', 0, none⟩) M.length cap')) ∧ W.cell? ⟨w.heap.size + 1, 0, none⟩ = some (.int .i64 ck) ∧ W.cell? ⟨w.heap.size + 1, 1, none⟩ = some (.bool true) ∧ W.cell? ⟨w.heap.size + 1, 2, none⟩ = some (.int .u64 cn))) (by kernel_rfl) ?_ (fun hHeld => ?_)
        · ((try dsimp only); first | (go_simp; done) | (simp [*]; done))
        refine wpAnyH_take (i := 0) (v := ?_) rfl (by kernel_rfl) (by kernel_rfl) (by kernel_rfl) (fun _ _ _ h => h) (Or.inl ⟨by rfl, ?_⟩) (by assumption) ?_
        rotate_left
        · (intro w hSw; (try dsimp only at hSw); go_simp; try with_reducible rfl)
        try simp only [List.getElem_toArray, List.getElem_cons_zero, Act.put, List.setIfInBounds_toArray, List.set_cons_zero, List.set_cons_succ]
        refine wpAnyH_take (i := 1) (v := ?_) rfl (by kernel_rfl) (by kernel_rfl) (by kernel_rfl) (fun _ _ _ h => h) (Or.inl ⟨by rfl, ?_⟩) (by assumption) ?_
        rotate_left
        · (intro w hSw; (try dsimp only at hSw); go_simp; try with_reducible rfl)
        try simp only [List.getElem_toArray, List.getElem_cons_succ, List.getElem_cons_zero, Act.put, List.setIfInBounds_toArray, List.set_cons_zero, List.set_cons_succ]
        refine wpAnyH_take (i := 2) (v := ?_) rfl (by kernel_rfl) (by kernel_rfl) (by kernel_rfl) (fun _ _ _ h => h) (Or.inl ⟨by rfl, ?_⟩) (by assumption) ?_
        rotate_left
        · (intro w hSw; (try dsimp only at hSw); go_simp; try with_reducible rfl)
        try simp only [List.getElem_toArray, List.getElem_cons_succ, List.getElem_cons_zero, Act.put, List.setIfInBounds_toArray, List.set_cons_zero, List.set_cons_succ]
        refine wpAnyH_take (i := 3) (v := ?_) rfl (by kernel_rfl) (by kernel_rfl) (by kernel_rfl) (fun _ _ _ h => h) (Or.inl ⟨by rfl, ?_⟩) (by assumption) ?_
        rotate_left
        · (intro w hSw; (try dsimp only at hSw); go_simp; try with_reducible rfl)
        try simp only [List.getElem_toArray, List.getElem_cons_succ, List.getElem_cons_zero, Act.put, List.setIfInBounds_toArray, List.set_cons_zero, List.set_cons_succ]
        refine wpAnyH_take (i := 4) (v := ?_) rfl (by kernel_rfl) (by kernel_rfl) (by kernel_rfl) (fun _ _ _ h => h) (Or.inl ⟨by rfl, ?_⟩) (by assumption) ?_
        rotate_left
        · (intro w hSw; (try dsimp only at hSw); go_simp; try with_reducible rfl)
        try simp only [List.getElem_toArray, List.getElem_cons_succ, List.getElem_cons_zero, Act.put, List.setIfInBounds_toArray, List.set_cons_zero, List.set_cons_succ]
        refine wpAnyH_take (i := 5) (v := ?_) rfl (by kernel_rfl) (by kernel_rfl) (by kernel_rfl) (fun _ _ _ h => h) (Or.inl ⟨by rfl, ?_⟩) (by assumption) ?_
        rotate_left
        · (intro w hSw; (try dsimp only at hSw); go_simp; try with_reducible rfl)
        try simp only [List.getElem_toArray, List.getElem_cons_succ, List.getElem_cons_zero, Act.put, List.setIfInBounds_toArray, List.set_cons_zero, List.set_cons_succ]
        refine wpAnyH_take (i := 6) (v := ?_) rfl (by kernel_rfl) (by kernel_rfl) (by kernel_rfl) (fun _ _ _ h => h) (Or.inl ⟨by rfl, ?_⟩) (by assumption) ?_
        rotate_left
        · (intro w hSw; (try dsimp only at hSw); go_simp; try with_reducible rfl)
        try simp only [List.getElem_toArray, List.getElem_cons_succ, List.getElem_cons_zero, Act.put, List.setIfInBounds_toArray, List.set_cons_zero, List.set_cons_succ]
        refine wpAnyH_take (i := 7) (v := ?_) rfl (by kernel_rfl) (by kernel_rfl) (by kernel_rfl) (fun _ _ _ h => h) (Or.inl ⟨by rfl, ?_⟩) (by assumption) ?_
        rotate_left
        · (intro w hSw; (try dsimp only at hSw); go_simp; try with_reducible rfl)
        try simp only [List.getElem_toArray, List.getElem_cons_succ, List.getElem_cons_zero, Act.put, List.setIfInBounds_toArray, List.set_cons_zero, List.set_cons_succ]
        refine wpAnyH_ready (rs := [8]) (by kernel_rfl) (by simp) ?_
        refine AllReadyH.cons rfl (fun K hK => ?_) AllReadyH.nil
        go_simp
        refine hK.out _ _ ?_ (fun hHeld => ?_)
        · ((try dsimp only); first | (go_simp; done) | (simp [*]; done))
        clear hK K
        try simp only [List.getElem_toArray, List.getElem_cons_succ, List.getElem_cons_zero, Act.put, List.setIfInBounds_toArray, List.set_cons_zero, List.set_cons_succ]
        refine wpAnyH_ready (rs := [9]) (by kernel_rfl) (by simp) ?_
        refine AllReadyH.cons rfl (fun K hK => ?_) AllReadyH.nil
        go_simp
        refine hK.out _ _ ?_ (fun hHeld => ?_)
        · ((try dsimp only); first | (go_simp; done) | (simp [*]; done))
        clear hK K
        try simp only [List.getElem_toArray, List.getElem_cons_succ, List.getElem_cons_zero, Act.put, List.setIfInBounds_toArray, List.set_cons_zero, List.set_cons_succ]
        refine wpAnyH_take (i := 10) (v := ?_) rfl (by kernel_rfl) (by kernel_rfl) (by kernel_rfl) (fun _ _ _ h => h) (Or.inl ⟨by rfl, ?_⟩) (by assumption) ?_
        rotate_left
        · (intro w hSw; (try dsimp only at hSw); go_simp; try with_reducible rfl)
        try simp only [List.getElem_toArray, List.getElem_cons_succ, List.getElem_cons_zero, Act.put, List.setIfInBounds_toArray, List.set_cons_zero, List.set_cons_succ]
        refine wpAnyH_take (i := 11) (v := ?_) rfl (by kernel_rfl) (by kernel_rfl) (by kernel_rfl) (fun _ _ _ h => h) (Or.inl ⟨by rfl, ?_⟩) (by assumption) ?_
        rotate_left
        · (intro w hSw; (try dsimp only at hSw); go_simp; try with_reducible rfl)
        try simp only [List.getElem_toArray, List.getElem_cons_succ, List.getElem_cons_zero, Act.put, List.setIfInBounds_toArray, List.set_cons_zero, List.set_cons_succ]
        refine wpAnyH_done (by kernel_rfl) ?_ _
        refine NoPanic.normal ?_
        go_wp2_with fail
        refine bodyPost_ret (v := .tuple #[.agg #[.int .i64 lim, .slice (some ⟨g', 0, none⟩) M.length cap'], .agg #[.int .i64 ck, .bool true, .int .u64 (cn + 1)], .int .i64 r, .int .i64 0]) (by simp [results, Tryd.results13, go_sem, y0, y1, z0, z1, z2]) rfl ?_
        refine ⟨g', cap', ?_, ?_, ?_, (below_set HB3.out (by omega) (by omega) _ _ _ _ _).drew, HG3.out.imp id (fun h => by omega)⟩
        · rw [HNX.out trivial, HE3.out, HE2.out, HE1.out]; rfl
        · rw [HE1.out]
          exact (row_set HR3.out (by have := HG3.out; omega) (by have := HG3.out; omega) _ _ _ _ _).dr
        · simpa [World.setCell] using HL3.out
      · have hne : (er != 0) = true := by simpa using her
        have HER := Lib.hid her
        clear her
        have hr0 : r = 0 := HMR.out HER.out
        subst hr0
        have hM := HME.out HER.out
        have HSZ := fun u0 u1 v0 v1 v2 o => (below_set HB2.out (p := w.heap.size + 1 + 1) (q := w.heap.size + 1 + 1 + 1) (by omega) (by omega) u0 u1 v0 v1 v2).alloc (below_set HB2.out (p := w.heap.size + 1 + 1) (q := w.heap.size + 1 + 1 + 1) (by omega) (by omega) u0 u1 v0 v1 v2).size o
        have HM := Lib.hid hM; clear hM
        go_wp2_with fail
        refine bodyPost_ret (v := .tuple #[.agg #[.int .i64 lim, .slice (some ⟨g, 0, none⟩) L.length cap], .agg #[.int .i64 0, .bool false, .int .u64 0], .int .i64 0, .int .i64 er]) (by simp [results, Tryd.results13, go_sem, y0, y1, z0, z1, z2, l2, l3]) rfl ?_
        exact refSeal_same (by rw [HE1.out, HM.out]) HE3.out HE2.out (HNY.out HER.out) HR.out hg (HSZ _ _ _ _ _ _)
end Go.Proofs.YtonpjogaamgceaaDoor
