/- Layer 10: what the document fixes of two seals (awake). -/
import Derived.Test.YtonpjogaamgceaaDoorQh
import Derived.Test.YtonpjogaamgceaaDoorJd
import Derived.Test.YtonpjogaamgceaaDoorJe
namespace Go.Proofs.YtonpjogaamgceaaDoor
open Go.RowKit

/-- A box of another type is none of an arena's blocks. -/
theorem Ar.far {w : World} {b g bm cap lim p : Nat} {L : List Nd} {vs : Array Value} {T : TypeId} (h : Ar w b g bm cap lim L) (hp : w.heap[p]? = some (.cells vs T (0, 0))) (h1 : T ≠ 77) (h2 : T ≠ 54) : p ≠ b ∧ p ≠ g ∧ p ≠ bm := by
  refine ⟨fun e => ?_, fun e => ?_, fun e => ?_⟩
  · subst e; rw [h.box] at hp
    simp only [Option.some.injEq, Obj.cells.injEq] at hp
    exact h1 hp.2.1.symm
  · subst e
    obtain ⟨_, ⟨hx, _⟩ | ⟨g2, c2, cur, hx, _, hg, _⟩⟩ := h.own
    · simp at hx
    · simp only [Value.slice.injEq, Option.some.injEq, Addr.mk.injEq] at hx
      rw [← hx.1.1, hp] at hg
      simp only [Option.some.injEq, Obj.cells.injEq] at hg
      exact h2 hg.2.1
  · subst e
    obtain ⟨D, ⟨es, clock, hm, _⟩, _⟩ := h.reg
    rw [hp] at hm; simp at hm
/-- A box of another type through a call that changes an arena. -/
theorem Ar.boxKept {w w' : World} {b g bm cap lim p : Nat} {L : List Nd} {vs : Array Value} {T : TypeId} (hA : Ar w b g bm cap lim L) (hk : Kept w w' b g bm) (hp : w.heap[p]? = some (.cells vs T (0, 0))) (h1 : T ≠ 77) (h2 : T ≠ 54) : w'.heap[p]? = some (.cells vs T (0, 0)) := by
  obtain ⟨k1, k2, k3⟩ := hA.far hp h1 h2
  exact (hk.block p (lt_of_heap hp) k1 k2 k3).trans hp

section
variable {w wi : World} {b g bm cap lim : Nat} {L : List Nd}
theorem St.make (h : St w wi b g bm cap lim L) (hs : Shp w) (d : Nd) (hok : d.ok) : Calls Tryd.prog 24 #[.pointer (some ⟨b, 0, none⟩), agg d] wi fun e w' => ∃ g' cap', e = .returned (.tuple #[.int .i64 (mkR lim L d), .int .i64 (mkE lim L d)]) ∧ St w w' b g' bm cap' lim (mkL lim L d) ∧ Kept wi w' b g bm := by
  refine (mk_any b g bm cap lim L d.k d.n d.a d.b d.c wi h.ar (h.shp hs) hok).mono ?_
  rintro e w' ⟨g', cap', rfl, hA, hg, hk⟩
  exact ⟨g', cap', rfl, h.step hA hg hk, hk⟩
theorem St.seal (h : St w wi b g bm cap lim L) (hs : Shp w) (c : Cf) (ad p : Int) (hn : u64ok c.n) : Calls Tryd.prog 12 #[cfV c, .pointer (some ⟨b, 0, none⟩), .int .i64 ad, .int .i64 p] wi fun e w' => ∃ g' cap', e = .returned (.tuple #[cfV (slC lim L c ad p), .int .i64 (slR lim L c ad p), .int .i64 (slE lim L c ad p)]) ∧ St w w' b g' bm cap' lim (slL lim L c ad p) ∧ Kept wi w' b g bm := by
  refine (seal_any b g bm cap lim L c ad p wi h.ar (h.shp hs) hn).mono ?_
  rintro e w' ⟨g', cap', rfl, hA, hg, hk⟩
  exact ⟨g', cap', rfl, h.step hA hg hk, hk⟩
theorem St.opens (h : St w wi b g bm cap lim L) (c : Cf) (ad x : Int) (hn : u64ok c.n) : Calls Tryd.prog 16 #[cfV c, .pointer (some ⟨b, 0, none⟩), .int .i64 ad, .int .i64 x] wi fun e w' => e = .returned (.tuple #[cfV (opC L c ad x), .int .i64 (opR L c ad x), .int .i64 (opE L c ad x)]) ∧ St w w' b g bm cap lim L ∧ Below wi.heap.size wi w' := by
  refine (open_any b g bm cap lim L c ad x wi h.ar hn).mono ?_
  rintro e w' ⟨rfl, hb⟩
  exact ⟨rfl, h.keep hb, hb⟩
theorem St.rekey (h : St w wi b g bm cap lim L) (hs : Shp w) (c : Cf) (hn : c.ok) : Calls Tryd.prog 18 #[cfV c, .pointer (some ⟨b, 0, none⟩)] wi fun e w' => ∃ g' cap', e = .returned (.tuple #[cfV (rkC lim L c), .int .i64 (rkE lim L c)]) ∧ St w w' b g' bm cap' lim (rkL lim L c) ∧ Kept wi w' b g bm := by
  refine (rekey_any b g bm cap lim L c wi h.ar (h.shp hs) hn).mono ?_
  rintro e w' ⟨g', cap', rfl, hA, hg, hk⟩
  exact ⟨g', cap', rfl, h.step hA hg hk, hk⟩
end

def vX : Nd := ⟨1, 1, 0, 0, 0⟩
def vP : Nd := ⟨1, 2, 0, 0, 0⟩
def vS : Nd := ⟨7, 0, 1, 0, 2⟩
def vT : Nd := ⟨7, 1, 1, 0, 2⟩
theorem v_mk1 : mkL 20 [zN] vX = [zN, vX] ∧ mkR 20 [zN] vX = 1 ∧ mkE 20 [zN] vX = 0 := mk_new (by decide) (by decide) (by decide)
theorem v_mk2 : mkL 20 [zN, vX] vP = [zN, vX, vP] ∧ mkR 20 [zN, vX] vP = 2 ∧ mkE 20 [zN, vX] vP = 0 := mk_new (by decide) (by decide) (by decide)
theorem v_mk3 : mkL 20 [zN, vX, vP] vS = [zN, vX, vP, vS] ∧ mkR 20 [zN, vX, vP] vS = 3 ∧ mkE 20 [zN, vX, vP] vS = 0 := mk_new (by decide) (by decide) (by decide)
theorem v_mk4 : mkL 20 [zN, vX, vP, vS] vT = [zN, vX, vP, vS, vT] ∧ mkR 20 [zN, vX, vP, vS] vT = 4 ∧ mkE 20 [zN, vX, vP, vS] vT = 0 := mk_new (by decide) (by decide) (by decide)
theorem v_sl1 : slL 20 [zN, vX, vP] ⟨1, true, 0⟩ 0 2 = [zN, vX, vP, vS] ∧ slR 20 [zN, vX, vP] ⟨1, true, 0⟩ 0 2 = 3 ∧ slE 20 [zN, vX, vP] ⟨1, true, 0⟩ 0 2 = 0 ∧ slC 20 [zN, vX, vP] ⟨1, true, 0⟩ 0 2 = ⟨1, true, 1⟩ := by
  obtain ⟨e1, e2, e3, e4⟩ := sl_mk (lim := 20) (L := [zN, vX, vP]) (c := ⟨1, true, 0⟩) (ad := 0) (p := 2) (by decide) rfl
  obtain ⟨m1, m2, m3⟩ := v_mk3
  exact ⟨e1.trans m1, e3.trans m2, e2.trans m3, e4.trans (if_pos m3)⟩
theorem v_sl2 : slL 20 [zN, vX, vP, vS] ⟨1, true, 1⟩ 0 2 = [zN, vX, vP, vS, vT] ∧ slR 20 [zN, vX, vP, vS] ⟨1, true, 1⟩ 0 2 = 4 ∧ slE 20 [zN, vX, vP, vS] ⟨1, true, 1⟩ 0 2 = 0 ∧ slC 20 [zN, vX, vP, vS] ⟨1, true, 1⟩ 0 2 = ⟨1, true, 2⟩ := by
  obtain ⟨e1, e2, e3, e4⟩ := sl_mk (lim := 20) (L := [zN, vX, vP, vS]) (c := ⟨1, true, 1⟩) (ad := 0) (p := 2) (by decide) rfl
  obtain ⟨m1, m2, m3⟩ := v_mk4
  exact ⟨e1.trans m1, e3.trans m2, e2.trans m3, e4.trans (if_pos m3)⟩
theorem v_op1 : opE [zN, vX, vP, vS, vT] ⟨1, true, 0⟩ 0 3 = 0 ∧ opR [zN, vX, vP, vS, vT] ⟨1, true, 0⟩ 0 3 = 2 := by decide
theorem v_op2 : opE [zN, vX, vP, vS, vT] ⟨1, true, 0⟩ 0 4 = 7 := by decide

set_option maxRecDepth 100000 in
set_option maxHeartbeats 4000000 in
theorem awake_any (w : World) (hE : Shp w) : Calls Tryd.prog 10 #[] w fun e w' => e = .returned (.bool true) ∧ Below w.heap.size w w' := by
  have HN := Lib.hid (new_any 20 w)
  have HE := Lib.hid hE; clear hE
  go_enter Tryd.func10, Tryd.ntmps10
  go_wp2_with fail
  go_at_call 23
  refine HN.out.mono ?_
  rintro e w1 ⟨b, g, bm, rfl, hA1, h1, h2, h3, hb1⟩
  have HS1 : Hid (St w w1 b g bm 1 20 [zN]) := Lib.hid ⟨hA1, hb1, h1, h2, h3⟩
  clear hA1 hb1 h1 h2 h3 HN
  have HM1 := Lib.hid (HS1.out.make HE.out vX (by simp [Nd.ok, i64ok, u64ok, vX]))
  rw [v_mk1.1, v_mk1.2.1, v_mk1.2.2] at HM1
  unfold agg at HM1
  go_wp2_with fail
  go_at_call 24
  refine HM1.out.mono ?_
  rintro e w2 ⟨g2, cap2, rfl, hS2, -⟩
  have HS2 := Lib.hid hS2; clear hS2 HM1 HS1
  have HM2 := Lib.hid (HS2.out.make HE.out vP (by simp [Nd.ok, i64ok, u64ok, vP]))
  rw [v_mk2.1, v_mk2.2.1, v_mk2.2.2] at HM2
  unfold agg at HM2
  go_wp2_with fail
  go_at_call 24
  refine HM2.out.mono ?_
  rintro e w3 ⟨g3, cap3, rfl, hS3, -⟩
  have HS3 := Lib.hid hS3; clear hS3 HM2 HS2
  have HCN := Lib.hid (cnew_any 1 w3)
  unfold cfV at HCN
  go_wp2_with fail
  go_at_call 20
  refine HCN.out.mono ?_
  rintro e w4 ⟨rfl, hb4⟩
  have HS4 := Lib.hid (HS3.out.keep hb4)
  clear hb4 HCN HS3
  have HB5 : Hid (Below w4.heap.size w4 (w4.alloc (.cells #[.int .i64 1, .bool true, .int .u64 0] 25))) := Lib.hid ((Below.refl _ _).alloc (Nat.le_refl _) _)
  have HX5 := Lib.hid (heap_alloc_new w4 (.cells #[.int .i64 1, .bool true, .int .u64 0] 25))
  have HS5 := Lib.hid (HS4.out.keep HB5.out)
  clear HB5 HS4
  have HM5 := Lib.hid (HS5.out.seal HE.out ⟨1, true, 0⟩ 0 2 (by simp [u64ok]))
  rw [v_sl1.1, v_sl1.2.1, v_sl1.2.2.1, v_sl1.2.2.2] at HM5
  unfold cfV at HM5
  go_wp2_with fail
  go_at_call 12
  refine HM5.out.mono ?_
  rintro e w6 ⟨g6, cap6, rfl, hS6, hk6⟩
  have HX6 := Lib.hid (HS5.out.ar.boxKept hk6 HX5.out (by decide) (by decide))
  have HS6 := Lib.hid hS6
  clear hS6 hk6 HX5 HS5 HM5
  generalize w4.heap.size = pc at *
  have HB7 : Hid (Below w6.heap.size w6 (w6.alloc (.cells #[.int .i64 1, .bool true, .int .u64 1] 25))) := Lib.hid ((Below.refl _ _).alloc (Nat.le_refl _) _)
  have HY7 := Lib.hid (heap_alloc_new w6 (.cells #[.int .i64 1, .bool true, .int .u64 1] 25))
  have HX7 := Lib.hid ((HB7.out.block _ (lt_of_heap HX6.out)).trans HX6.out)
  have HS7 := Lib.hid (HS6.out.keep HB7.out)
  clear HB7 HS6 HX6
  have HM7 := Lib.hid (HS7.out.seal HE.out ⟨1, true, 1⟩ 0 2 (by simp [u64ok]))
  rw [v_sl2.1, v_sl2.2.1, v_sl2.2.2.1, v_sl2.2.2.2] at HM7
  unfold cfV at HM7
  go_wp2_with fail
  go_at_call 12
  refine HM7.out.mono ?_
  rintro e w8 ⟨g8, cap8, rfl, hS8, hk8⟩
  have HX8a := Lib.hid (HS7.out.ar.boxKept hk8 HX7.out (by decide) (by decide))
  have HY8a := Lib.hid (HS7.out.ar.boxKept hk8 HY7.out (by decide) (by decide))
  have HB8 := fun o => (Below.refl w8.heap.size w8).alloc (Nat.le_refl _) o
  have HX8 := Lib.hid (((HB8 (.cells #[.int .i64 1, .bool true, .int .u64 2] 25)).block _ (lt_of_heap HX8a.out)).trans HX8a.out)
  have HY8 := Lib.hid (((HB8 (.cells #[.int .i64 1, .bool true, .int .u64 2] 25)).block _ (lt_of_heap HY8a.out)).trans HY8a.out)
  have HS8 := Lib.hid (hS8.keep (HB8 (.cells #[.int .i64 1, .bool true, .int .u64 2] 25)))
  obtain ⟨c0, c1, c2⟩ := cf_cells HX8a.out
  have lc := lt_of_heap HX8a.out
  clear HB8 HX8a HY8a
  clear hS8 hk8 HX7 HY7 HS7 HM7
  generalize w6.heap.size = pd at *
  go_wp2_with fail
  clear c0 c1 c2 lc
  generalize w8.alloc (.cells #[.int .i64 1, .bool true, .int .u64 2] 25) = W8 at *
  have HM8 := Lib.hid (HS8.out.opens ⟨1, true, 0⟩ 0 3 (by simp [u64ok]))
  rw [v_op1.1, v_op1.2] at HM8
  obtain ⟨c8, hc8⟩ : ∃ c8, c8 = opC [zN, vX, vP, vS, vT] ⟨1, true, 0⟩ 0 3 := ⟨_, rfl⟩
  rw [← hc8] at HM8
  clear hc8
  unfold cfV at HM8
  go_at_call 16
  refine HM8.out.mono ?_
  rintro e w9 ⟨rfl, hS9, hb9⟩
  have HX9a := Lib.hid ((hb9.block _ (lt_of_heap HX8.out)).trans HX8.out)
  have HY9a := Lib.hid ((hb9.block _ (lt_of_heap HY8.out)).trans HY8.out)
  have HB9 := fun o => (Below.refl w9.heap.size w9).alloc (Nat.le_refl _) o
  have HX9 := Lib.hid (((HB9 (.cells #[.int .i64 c8.k, .bool c8.h, .int .u64 c8.n] 25)).block _ (lt_of_heap HX9a.out)).trans HX9a.out)
  have HY9 := Lib.hid (((HB9 (.cells #[.int .i64 c8.k, .bool c8.h, .int .u64 c8.n] 25)).block _ (lt_of_heap HY9a.out)).trans HY9a.out)
  have HS9 := Lib.hid (hS9.keep (HB9 (.cells #[.int .i64 c8.k, .bool c8.h, .int .u64 c8.n] 25)))
  clear hS9 hb9 HX8 HY8 HS8 HM8 HB9
  obtain ⟨c0, c1, c2⟩ := cf_cells HX9a.out
  have lc := lt_of_heap HX9a.out
  clear HX9a HY9a
  go_wp2_with fail
  clear c0 c1 c2 lc
  generalize w9.alloc (.cells #[.int .i64 c8.k, .bool c8.h, .int .u64 c8.n] 25) = W9 at *
  have HM9 := Lib.hid (HS9.out.opens ⟨1, true, 0⟩ 0 4 (by simp [u64ok]))
  rw [v_op2] at HM9
  obtain ⟨c9, hc9⟩ : ∃ c9, c9 = opC [zN, vX, vP, vS, vT] ⟨1, true, 0⟩ 0 4 := ⟨_, rfl⟩
  obtain ⟨r9, hr9⟩ : ∃ r9, r9 = opR [zN, vX, vP, vS, vT] ⟨1, true, 0⟩ 0 4 := ⟨_, rfl⟩
  rw [← hc9, ← hr9] at HM9
  clear hc9 hr9
  unfold cfV at HM9
  go_at_call 16
  refine HM9.out.mono ?_
  rintro e w10 ⟨rfl, hS10, hb10⟩
  have HY10 := Lib.hid ((hb10.block _ (lt_of_heap HY9.out)).trans HY9.out)
  have HS10 := Lib.hid hS10
  clear hS10 hb10 HX9 HY9 HS9 HM9
  obtain ⟨d0, d1, d2⟩ := cf_cells HY10.out
  have ld := lt_of_heap HY10.out
  go_wp2_with fail
  go_ret
  exact ⟨rfl, HS10.out.bel.alloc HS10.out.bel.size _⟩
end Go.Proofs.YtonpjogaamgceaaDoor
