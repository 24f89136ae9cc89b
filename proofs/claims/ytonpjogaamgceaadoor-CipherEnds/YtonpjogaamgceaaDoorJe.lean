/- Layer 10: the walk of Rekey. -/
import Derived.Test.YtonpjogaamgceaaDoorJc
namespace Go.Proofs.YtonpjogaamgceaaDoor
open Go.RowKit

theorem Kept.set1 {w w3 : World} {b g bm p : Nat} (h : Kept w w3 b g bm) (hp : w.heap.size ≤ p) (u : Value) : Kept w (w3.setCell ⟨p, 0, none⟩ u) b g bm :=
  ⟨h.os, h.tape, h.output, by simpa [World.setCell] using h.size, fun k hk h1 h2 h3 => (Below.heap_setCell _ _ _ _ (by simp only; omega)).trans (h.block k hk h1 h2 h3)⟩
theorem Ar.set1 {w : World} {b g bm cap lim p : Nat} {L : List Nd} (h : Ar w b g bm cap lim L) (h1 : b ≠ p) (h2 : g ≠ p) (h3 : bm ≠ p) (u : Value) : Ar (w.setCell ⟨p, 0, none⟩ u) b g bm cap lim L :=
  h.keep (Below.heap_setCell _ _ _ _ h1) (Below.heap_setCell _ _ _ _ h2) (Below.heap_setCell _ _ _ _ h3)

def RekeyPost (b g bm lim : Nat) (L : List Nd) (c : Cf) (w : World) (e : Ending) (w' : World) : Prop :=
  ∃ g' cap', e = .returned (.tuple #[cfV (rkC lim L c), .int .i64 (rkE lim L c)]) ∧ Ar w' b g' bm cap' lim (rkL lim L c) ∧ (g' = g ∨ w.heap.size ≤ g') ∧ Kept w w' b g bm

set_option maxRecDepth 100000 in
set_option maxHeartbeats 2000000 in
theorem rekey_any (b g bm cap lim : Nat) (L : List Nd) (c : Cf) (w : World) (hA : Ar w b g bm cap lim L) (hsh : Shp w) (hc : c.ok) :
    Calls Tryd.prog 18 #[cfV c, .pointer (some ⟨b, 0, none⟩)] w (RekeyPost b g bm lim L c w) := by
  have hbl : b < w.heap.size := hA.blt
  have hgl : g < w.heap.size := hA.glt
  have hml : bm < w.heap.size := hA.mlt
  obtain ⟨W0, hW0⟩ : ∃ W, W = (w.alloc (.cells #[.int .i64 c.k, .bool c.h, .int .u64 c.n] 25)).alloc (.cells #[.int .i64 0, .bool false, .int .u64 0] 25) := ⟨_, rfl⟩
  have HB0 : Hid (Below w.heap.size w W0) := Lib.hid (by rw [hW0]; exact ((Below.refl _ _).alloc (Nat.le_refl _) _).alloc (by simp) _)
  have HC0 : Hid (Cb w W0 c) := Lib.hid (by rw [hW0]; exact Cb.new w c)
  have HA := Lib.hid hA; clear hA
  have HS := Lib.hid hsh; clear hsh
  have HOK := Lib.hid (rkN_ok hc); clear hc
  have HU1 : Hid (rkL lim L c = if c.h = true then mkL lim L (rkN c) else L) := Lib.hid rfl
  have HU2 : Hid (rkE lim L c = if c.h = true then mkE lim L (rkN c) else 10) := Lib.hid rfl
  have HU3 : Hid (rkC lim L c = if c.h = true then (if mkE lim L (rkN c) = 0 then ⟨mkR lim L (rkN c), true, c.n⟩ else cZ) else cZ) := Lib.hid rfl
  obtain ⟨c0, c1, c2⟩ := cf_cells HC0.out.bx
  obtain ⟨z0, z1, z2⟩ := cf_cells HC0.out.rs
  have l1 := lt_of_heap HC0.out.rs
  have l0 : w.heap.size < W0.heap.size := by omega
  have zf : ∀ j, W0.frozen? ⟨w.heap.size + 1, j, none⟩ = false := fun j => frozen_of_row _ _ _ _ _ HC0.out.rs
  obtain ⟨ck, ch, cn⟩ := c
  simp only at c0 c1 c2
  unfold cfV
  cases ch
  · go_enter Tryd.func18, Tryd.ntmps18
    go_wp2_with fail
    refine bodyPost_ret (v := .tuple #[.agg #[.int .i64 0, .bool false, .int .u64 0], .int .i64 10]) (by simp [results, Tryd.results18, go_sem]) rfl ?_
    simp only [Bool.false_eq_true, if_false] at HU1 HU2 HU3
    exact ⟨g, cap, by rw [HU3.out, HU2.out]; rfl, by rw [HU1.out]; exact HA.out.below (((Below.refl _ _).alloc (Nat.le_refl _) _).alloc (by simp) _), Or.inl rfl, Kept.of (((Below.refl _ _).alloc (Nat.le_refl _) _).alloc (by simp) _)⟩
  · have HMK := Lib.hid (mk_any b g bm cap lim L 6 4 ck 0 0 W0 (HA.out.below HB0.out) (HS.out.below HB0.out) HOK.out)
    have HU4 : Hid (mkE lim L ⟨6, 4, ck, 0, 0⟩ = 0 → rkC lim L ⟨ck, true, cn⟩ = ⟨mkR lim L ⟨6, 4, ck, 0, 0⟩, true, cn⟩) := Lib.hid (fun h => by rw [HU3.out, if_pos rfl]; exact if_pos h)
    have HU5 : Hid (mkE lim L ⟨6, 4, ck, 0, 0⟩ ≠ 0 → rkC lim L ⟨ck, true, cn⟩ = cZ) := Lib.hid (fun h => by rw [HU3.out, if_pos rfl]; exact if_neg h)
    clear HU3
    simp only [if_true, rkN] at HU1 HU2
    rw [hW0] at HMK
    clear c0 c1 c2 z0 z1 z2 zf l1 l0
    go_enter Tryd.func18, Tryd.ntmps18
    go_wp2_with fail
    go_at_call 24
    refine HMK.out.mono ?_
    rintro e w3 ⟨g', cap', rfl, hA3, hg3, hk3⟩
    rw [← hW0] at hg3 hk3
    have HC3 := Lib.hid (HC0.out.kept hk3 hbl hgl hml)
    have HK3 := Lib.hid (Kept.from HB0.out hk3)
    have HG3 : Hid (g' = g ∨ w.heap.size + 2 ≤ g') := Lib.hid (hg3.imp id fun h => Nat.le_trans (lt_of_heap HC0.out.rs) h)
    have HA3 := Lib.hid hA3
    clear hA3 hg3 hk3 HMK
    obtain ⟨c0, c1, c2⟩ := cf_cells HC3.out.bx
    obtain ⟨z0, z1, z2⟩ := cf_cells HC3.out.rs
    simp only at c0 c1 c2
    have l1 := lt_of_heap HC3.out.rs
    have l0 : w.heap.size < w3.heap.size := by omega
    have zf : ∀ j, w3.frozen? ⟨w.heap.size + 1, j, none⟩ = false := fun j => frozen_of_row _ _ _ _ _ HC3.out.rs
    have yf : ∀ j, w3.frozen? ⟨w.heap.size, j, none⟩ = false := fun j => frozen_of_row _ _ _ _ _ HC3.out.bx
    generalize mkL lim L ⟨6, 4, ck, 0, 0⟩ = M at *
    generalize mkR lim L ⟨6, 4, ck, 0, 0⟩ = r at *
    generalize mkE lim L ⟨6, 4, ck, 0, 0⟩ = er at *
    by_cases her : er = 0
    · subst her
      go_wp2_with fail
      refine bodyPost_ret (v := .tuple #[.agg #[.int .i64 r, .bool true, .int .u64 cn], .int .i64 0]) (by simp [results, Tryd.results18, go_sem, z0, z1, z2]) rfl ?_
      refine ⟨g', cap', ?_, ?_, HG3.out.imp id (fun h => by omega), (HK3.out.set1 (Nat.le_refl _) _).set3 (Nat.le_succ _) _ _ _⟩
      · rw [HU4.out trivial, HU2.out]; rfl
      · rw [HU1.out]
        exact (HA3.out.set1 (by omega) (by have := HG3.out; omega) (by omega) _).set3 (by omega) (by have := HG3.out; omega) (by omega) _ _ _
    · have hne : (er != 0) = true := by simpa using her
      have HER := Lib.hid her
      clear her
      go_wp2_with fail
      refine bodyPost_ret (v := .tuple #[.agg #[.int .i64 0, .bool false, .int .u64 0], .int .i64 er]) (by simp [results, Tryd.results18, go_sem, z0, z1, z2]) rfl ?_
      refine ⟨g', cap', ?_, ?_, HG3.out.imp id (fun h => by omega), HK3.out.set3 (Nat.le_succ _) _ _ _⟩
      · rw [HU5.out HER.out, HU2.out]; rfl
      · rw [HU1.out]
        exact HA3.out.set3 (by omega) (by have := HG3.out; omega) (by omega) _ _ _
end Go.Proofs.YtonpjogaamgceaaDoor
