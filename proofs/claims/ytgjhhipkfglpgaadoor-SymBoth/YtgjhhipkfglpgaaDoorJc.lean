/- Layer 10: the walk of Seal. -/
import Derived.Test.YtgjhhipkfglpgaaDoorJb
namespace Go.Proofs.YtgjhhipkfglpgaaDoor
open Go.RowKit

def SealPost (b g bm lim : Nat) (L : List Nd) (c : Cf) (ad p : Int) (w : World) (e : Ending) (w' : World) : Prop :=
  ∃ g' cap', e = .returned (.tuple #[cfV (slC lim L c ad p), .int .i64 (slR lim L c ad p), .int .i64 (slE lim L c ad p)]) ∧ Ar w' b g' bm cap' lim (slL lim L c ad p) ∧ (g' = g ∨ w.heap.size ≤ g') ∧ Kept w w' b g bm
theorem sealPost_same {b g bm cap lim : Nat} {L : List Nd} {c : Cf} {ad p : Int} {r er : Int} {c' : Cf} {w w' : World} (h1 : slL lim L c ad p = L) (h2 : slR lim L c ad p = r) (h3 : slE lim L c ad p = er) (h4 : slC lim L c ad p = c') (hA : Ar w b g bm cap lim L) (hb : Below w.heap.size w w') :
    SealPost b g bm lim L c ad p w (.returned (.tuple #[cfV c', .int .i64 r, .int .i64 er])) w' :=
  ⟨g, cap, by rw [h2, h3, h4], by rw [h1]; exact hA.below hb, Or.inl rfl, Kept.of hb⟩
/-- The receiver's box, and the result's, in a call that w began. -/
structure Cb (w W : World) (c : Cf) : Prop where
  bx : W.heap[w.heap.size]? = some (.cells #[.int .i64 c.k, .bool c.h, .int .u64 c.n] 33 (0, 0))
  rs : W.heap[w.heap.size + 1]? = some (.cells #[.int .i64 0, .bool false, .int .u64 0] 33 (0, 0))
theorem cf_cells {w : World} {p : Nat} {k n : Int} {h : Bool} (e : w.heap[p]? = some (.cells #[.int .i64 k, .bool h, .int .u64 n] 33 (0, 0))) : w.cell? ⟨p, 0, none⟩ = some (.int .i64 k) ∧ w.cell? ⟨p, 1, none⟩ = some (.bool h) ∧ w.cell? ⟨p, 2, none⟩ = some (.int .u64 n) :=
  ⟨(cell_of_row w p 0 _ _ _ e).trans rfl, (cell_of_row w p 1 _ _ _ e).trans rfl, (cell_of_row w p 2 _ _ _ e).trans rfl⟩
theorem ra_cells {w : World} {p : Nat} {u v : Value} (e : w.heap[p]? = some (.cells #[u, v] 28 (0, 0))) : w.cell? ⟨p, 0, none⟩ = some u ∧ w.cell? ⟨p, 1, none⟩ = some v :=
  ⟨(cell_of_row w p 0 _ _ _ e).trans rfl, (cell_of_row w p 1 _ _ _ e).trans rfl⟩
theorem Cb.new (w : World) (c : Cf) : Cb w ((w.alloc (.cells #[.int .i64 c.k, .bool c.h, .int .u64 c.n] 33)).alloc (.cells #[.int .i64 0, .bool false, .int .u64 0] 33)) c := by
  refine ⟨?_, ?_⟩
  · rw [Below.heap_alloc _ _ _ (by simp)]; exact heap_alloc_new w _
  · have := heap_alloc_new (w.alloc (.cells #[.int .i64 c.k, .bool c.h, .int .u64 c.n] 33)) (.cells #[.int .i64 0, .bool false, .int .u64 0] 33)
    rwa [World.size_alloc] at this
theorem Cb.keep {w W W' : World} {c : Cf} (h : Cb w W c) (hb : Below W.heap.size W W') : Cb w W' c :=
  ⟨(hb.block _ (lt_of_heap h.bx)).trans h.bx, (hb.block _ (lt_of_heap h.rs)).trans h.rs⟩
theorem Cb.kept {w W W' : World} {c : Cf} {b g bm : Nat} (h : Cb w W c) (hk : Kept W W' b g bm) (h1 : b < w.heap.size) (h2 : g < w.heap.size) (h3 : bm < w.heap.size) : Cb w W' c :=
  ⟨(hk.block _ (lt_of_heap h.bx) (by omega) (by omega) (by omega)).trans h.bx, (hk.block _ (lt_of_heap h.rs) (by omega) (by omega) (by omega)).trans h.rs⟩

theorem set3_block (w : World) (p k : Nat) (u v x : Value) (h : k ≠ p) : (((w.setCell ⟨p, 0, none⟩ u).setCell ⟨p, 1, none⟩ v).setCell ⟨p, 2, none⟩ x).heap[k]? = w.heap[k]? := by
  rw [Below.heap_setCell _ _ _ _ h]; exact set2_block w p k u v h
theorem set3_size (w : World) (p : Nat) (u v x : Value) : (((w.setCell ⟨p, 0, none⟩ u).setCell ⟨p, 1, none⟩ v).setCell ⟨p, 2, none⟩ x).heap.size = w.heap.size := by simp [World.setCell]
theorem Kept.set3 {w w3 : World} {b g bm p : Nat} (h : Kept w w3 b g bm) (hp : w.heap.size ≤ p) (u v x : Value) : Kept w (((w3.setCell ⟨p, 0, none⟩ u).setCell ⟨p, 1, none⟩ v).setCell ⟨p, 2, none⟩ x) b g bm :=
  ⟨h.os, h.tape, h.output, by rw [set3_size]; exact h.size, fun k hk h1 h2 h3 => (set3_block _ _ _ _ _ _ (by omega)).trans (h.block k hk h1 h2 h3)⟩
theorem Kept.more {w w3 w4 : World} {b g bm : Nat} (h : Kept w w3 b g bm) (hb : Below w3.heap.size w3 w4) : Kept w w4 b g bm :=
  ⟨hb.os.trans h.os, hb.tape.trans h.tape, hb.output.trans h.output, Nat.le_trans h.size hb.size, fun k hk h1 h2 h3 => (hb.block k (Nat.lt_of_lt_of_le hk h.size)).trans (h.block k hk h1 h2 h3)⟩
theorem Ar.set3 {w : World} {b g bm cap lim p : Nat} {L : List Nd} (h : Ar w b g bm cap lim L) (h1 : b ≠ p) (h2 : g ≠ p) (h3 : bm ≠ p) (u v x : Value) : Ar (((w.setCell ⟨p, 0, none⟩ u).setCell ⟨p, 1, none⟩ v).setCell ⟨p, 2, none⟩ x) b g bm cap lim L :=
  h.keep (set3_block _ _ _ _ _ _ h1) (set3_block _ _ _ _ _ _ h2) (set3_block _ _ _ _ _ _ h3)

set_option maxRecDepth 100000 in
set_option maxHeartbeats 2000000 in
theorem seal_any (b g bm cap lim : Nat) (L : List Nd) (c : Cf) (ad p : Int) (w : World) (hA : Ar w b g bm cap lim L) (hsh : Shp w) (hc : u64ok c.n) :
    Calls Tryd.prog 26 #[cfV c, .pointer (some ⟨b, 0, none⟩), .int .i64 ad, .int .i64 p] w (SealPost b g bm lim L c ad p w) := by
  have hbl : b < w.heap.size := hA.blt
  have hgl : g < w.heap.size := hA.glt
  have hml : bm < w.heap.size := hA.mlt
  obtain ⟨W0, hW0⟩ : ∃ W, W = (w.alloc (.cells #[.int .i64 c.k, .bool c.h, .int .u64 c.n] 33)).alloc (.cells #[.int .i64 0, .bool false, .int .u64 0] 33) := ⟨_, rfl⟩
  have HB0 : Hid (Below w.heap.size w W0) := Lib.hid (by rw [hW0]; exact ((Below.refl _ _).alloc (Nat.le_refl _) _).alloc (by simp) _)
  have HC0 : Hid (Cb w W0 c) := Lib.hid (by rw [hW0]; exact Cb.new w c)
  have HCK := Lib.hid (check_any b (some ⟨g, 0, none⟩) L.length cap c ad p W0 (hA.below HB0.out).c0 (Nat.lt_of_lt_of_le hbl HB0.out.size))
  have HA := Lib.hid hA; clear hA
  have HS := Lib.hid hsh; clear hsh
  have HN := Lib.hid hc; clear hc
  rw [hW0] at HCK
  unfold cfV at HCK ⊢
  go_enter Tryd.func26, Tryd.ntmps26
  go_wp2_with fail
  go_at_call 32
  refine HCK.out.mono ?_
  rintro e w1 ⟨rfl, hb1⟩
  rw [← hW0] at hb1
  have HB1 := Lib.hid (HB0.out.trans (hb1.mono HB0.out.size))
  have HC1 := Lib.hid (HC0.out.keep hb1)
  clear hW0 hb1 HB0 HC0 HCK
  obtain ⟨c0, c1, c2⟩ := cf_cells HC1.out.bx
  obtain ⟨z0, z1, z2⟩ := cf_cells HC1.out.rs
  have l1 := lt_of_heap HC1.out.rs
  have l0 : w.heap.size < w1.heap.size := by omega
  have zf : ∀ j, w1.frozen? ⟨w.heap.size + 1, j, none⟩ = false := fun j => frozen_of_row _ _ _ _ _ HC1.out.rs
  rcases chk_cases L.length c ad p with hk | hk
  · have hk0 : chk L.length c ad p ≠ 0 := by rcases hk with h | h <;> rw [h] <;> decide
    obtain ⟨e1, e2, e3, e4⟩ := chk_err (lim := lim) hk0
    have hk1 : (chk L.length c ad p != 0) = true := by simpa using hk0
    have HP := Lib.hid (fun w' hb => sealPost_same (w' := w') e1 e3 e2 e4 HA.out hb)
    clear hk hk0 e1 e2 e3 e4
    generalize chk L.length c ad p = q at *
    go_wp2_with fail
    refine bodyPost_ret (v := .tuple #[.agg #[.int .i64 0, .bool false, .int .u64 0], .int .i64 0, .int .i64 q]) (by simp [results, Tryd.results26, go_sem, z0, z1, z2]) rfl ?_
    exact HP.out _ (((HB1.out.setCell (Nat.le_succ _) _).setCell (Nat.le_succ _) _).setCell (Nat.le_succ _) _)
  · rw [hk]
    cases hh : c.h
    · obtain ⟨e1, e2, e3, e4⟩ := sl_none (lim := lim) hk hh
      have HP := Lib.hid (fun w' hb => sealPost_same (w' := w') e1 e3 e2 e4 HA.out hb)
      clear hk e1 e2 e3 e4
      rw [hh] at c1
      obtain ⟨ck, ch, cn⟩ := c
      simp only at c0 c1 c2 hh
      subst hh
      go_wp2_with fail
      refine bodyPost_ret (v := .tuple #[.agg #[.int .i64 ck, .bool false, .int .u64 cn], .int .i64 p, .int .i64 0]) (by simp [results, Tryd.results26, go_sem, z0, z1, z2]) rfl ?_
      exact HP.out _ (((HB1.out.setCell (Nat.le_succ _) _).setCell (Nat.le_succ _) _).setCell (Nat.le_succ _) _)
    · obtain ⟨e1, e2, e3, e4⟩ := sl_mk (lim := lim) hk hh
      obtain ⟨⟨q1, q2⟩, q3⟩ := chk_zero hk
      obtain ⟨q4, q5⟩ := q3 hh
      have HSE := Lib.hid (sealed_any c ad p w1)
      have HOK : Hid ((slN c ad p).ok) := Lib.hid (by
        have a1 := hasB_iff.1 q1
        have a2 := hasB_iff.1 q2
        have a3 := hasB_iff.1 q4
        have := HA.out.small
        exact slN_ok ⟨i64ok_of a3 this, HN.out⟩ (i64ok_of a1 this) (i64ok_of a2 this))
      have HMK := Lib.hid (fun w' (h : Below w.heap.size w w') => mk_any b g bm cap lim L (slN c ad p).k (slN c ad p).n (slN c ad p).a (slN c ad p).b (slN c ad p).c w' (HA.out.below h) (HS.out.below h) HOK.out)
      have HE1 := Lib.hid e1
      have HE2 := Lib.hid e2
      have HE3 := Lib.hid e3
      have HE4 := Lib.hid e4
      have HNX := Lib.hid (fun w' => next_any c HN.out q5 hh w')
      clear hk e1 e2 e3 e4 q1 q2 q3 q4 q5
      obtain ⟨ck, ch, cn⟩ := c
      simp only at c0 c1 c2 hh
      subst hh
      unfold cfV at HSE HNX
      generalize slN ⟨ck, true, cn⟩ ad p = d at *
      obtain ⟨dk, dn, da, db, dc⟩ := d
      unfold agg at HSE
      simp only at HSE HMK
      go_wp2_with fail
      go_at_call 33
      refine HSE.out.mono ?_
      rintro e w2 ⟨rfl, hb2⟩
      have HB2 := Lib.hid (HB1.out.trans (hb2.mono HB1.out.size))
      have HC2 := Lib.hid (HC1.out.keep hb2)
      clear hb2 HSE c0 c1 c2 z0 z1 z2 zf l1 l0
      go_wp2_with fail
      go_at_call 18
      refine (HMK.out w2 HB2.out).mono ?_
      rintro e w3 ⟨g', cap', rfl, hA3, hg3, hk3⟩
      have HC3 := Lib.hid (HC2.out.kept hk3 hbl hgl hml)
      have HK3 := Lib.hid (Kept.from HB2.out hk3)
      have HG3 : Hid (g' = g ∨ w.heap.size + 2 ≤ g') := Lib.hid (hg3.imp id fun h => Nat.le_trans (lt_of_heap HC2.out.rs) h)
      have HA3 := Lib.hid hA3
      clear hA3 hg3 hk3 HMK
      obtain ⟨c0, c1, c2⟩ := cf_cells HC3.out.bx
      obtain ⟨z0, z1, z2⟩ := cf_cells HC3.out.rs
      have l1 := lt_of_heap HC3.out.rs
      have l0 : w.heap.size < w3.heap.size := by omega
      have zf : ∀ j, w3.frozen? ⟨w.heap.size + 1, j, none⟩ = false := fun j => frozen_of_row _ _ _ _ _ HC3.out.rs
      have HRS : Hid (mkE lim L ⟨dk, dn, da, db, dc⟩ ≠ 0 → mkR lim L ⟨dk, dn, da, db, dc⟩ = 0) := Lib.hid mkR_err
      have HEC := Lib.hid (mkE_cases lim L ⟨dk, dn, da, db, dc⟩)
      generalize mkL lim L ⟨dk, dn, da, db, dc⟩ = M at *
      generalize mkR lim L ⟨dk, dn, da, db, dc⟩ = r at *
      generalize mkE lim L ⟨dk, dn, da, db, dc⟩ = er at *
      by_cases her : er = 0
      · subst her
        have HNX3 := Lib.hid (HNX.out w3)
        clear HNX
        go_wp2_with fail
        go_at_call 34
        refine HNX3.out.mono ?_
        rintro e w4 ⟨rfl, hb4⟩
        have HC4 := Lib.hid (HC3.out.keep hb4)
        have HA4 := Lib.hid (HA3.out.below hb4)
        have HK4 := Lib.hid (HK3.out.more hb4)
        clear hb4 HNX3 c0 c1 c2 z0 z1 z2 l0 l1 zf
        obtain ⟨z0, z1, z2⟩ := cf_cells HC4.out.rs
        have l1 := lt_of_heap HC4.out.rs
        have zf : ∀ j, w4.frozen? ⟨w.heap.size + 1, j, none⟩ = false := fun j => frozen_of_row _ _ _ _ _ HC4.out.rs
        generalize hnx : nxt ⟨ck, true, cn⟩ = c' at *
        obtain ⟨ck', ch', cn'⟩ := c'
        go_wp2_with fail
        refine bodyPost_ret (v := .tuple #[.agg #[.int .i64 ck', .bool ch', .int .u64 cn'], .int .i64 r, .int .i64 0]) (by simp [results, Tryd.results26, go_sem, z0, z1, z2]) rfl ?_
        refine ⟨g', cap', ?_, ?_, HG3.out.imp id (fun h => by omega), HK4.out.set3 (Nat.le_succ _) _ _ _⟩
        · rw [HE4.out, HE3.out, HE2.out, if_pos trivial]; rfl
        · rw [HE1.out]
          exact HA4.out.set3 (by omega) (by have := HG3.out; omega) (by omega) _ _ _
      · have hne : (er != 0) = true := by simpa using her
        have HR0 := Lib.hid (HRS.out her)
        have HER := Lib.hid her
        clear her
        go_wp2_with fail
        refine bodyPost_ret (v := .tuple #[.agg #[.int .i64 0, .bool false, .int .u64 0], .int .i64 0, .int .i64 er]) (by simp [results, Tryd.results26, go_sem, z0, z1, z2]) rfl ?_
        refine ⟨g', cap', ?_, ?_, HG3.out.imp id (fun h => by omega), HK3.out.set3 (Nat.le_succ _) _ _ _⟩
        · rw [HE4.out, HE3.out, HE2.out, HR0.out, if_neg HER.out]; rfl
        · rw [HE1.out]
          exact HA3.out.set3 (by omega) (by have := HG3.out; omega) (by omega) _ _ _
end Go.Proofs.YtgjhhipkfglpgaaDoor
