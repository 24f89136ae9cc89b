/- Layer 8: the law NeedMore. -/
import Derived.Test.YtjnijppghgemeaaDoorDf
import Derived.Test.YtjnijppghgemeaaDoorBn
namespace Go.Proofs.YtjnijppghgemeaaDoor
open Go.RowKit Go.Shelf

/-- A pattern, and one with a psk more, in a law's boxes. -/
structure Bp2 (w : World) (x y : Sl) (p q : Pt) (qb : Nat) (wr : World) : Prop where
  bx : Bx w w.heap.size x p wr
  qx : wr.heap[qb]? = some (.cells #[.string ⟨q.nm.toArray⟩, .slice y.s0 q.p0.length y.c0, .slice y.s1 q.p1.length y.c1, .slice y.s2 q.ms.length y.c2] 26 (0, 0))
  pa : PatA wr y q
theorem Bp2.keep {w : World} {x y : Sl} {p q : Pt} {qb : Nat} {wr wx : World} (h : Bp2 w x y p q qb wr) (hb : Below wr.heap.size wr wx) : Bp2 w x y p q qb wx :=
  ⟨h.bx.keep hb, (hb.block _ (lt_of_heap h.qx)).trans h.qx, h.pa.keep hb⟩
theorem box_put {w : World} {B : Nat} {v0 v1 v2 v3 v4 u : Value} {T : TypeId} {o : Obj} (hB : B < w.heap.size) (h : (w.alloc o).heap[B]? = some (.cells #[v0, v1, v2, v3, v4] T (0, 0))) : ((w.setCell ⟨B, 4, none⟩ u).alloc o).heap[B]? = some (.cells #[v0, v1, v2, v3, u] T (0, 0)) := by
  rw [Below.heap_alloc _ _ _ hB] at h
  rw [Below.heap_alloc _ _ _ (by simpa using hB)]
  simp only [World.setCell, Array.getElem?_modify, if_true, h]
  rfl
theorem box_new {w : World} {B : Nat} {u : Value} (cs : Array Value) (T : TypeId) : ((w.setCell ⟨B, 4, none⟩ u).alloc (.cells cs T)).heap[w.heap.size]? = some (.cells cs T (0, 0)) := by
  have h := heap_alloc_new (w.setCell ⟨B, 4, none⟩ u) (.cells cs T)
  rwa [show (w.setCell ⟨B, 4, none⟩ u).heap.size = w.heap.size by simp] at h
theorem wrap_le2 {x : Int} (h0 : 0 ≤ x) (h1 : x ≤ 65537) : IntKind.i64.wrap x = x := by
  have h : x % (2 ^ IntKind.i64.bits : Int) = x := Int.emod_eq_of_lt h0 (Int.lt_of_le_of_lt h1 (by decide))
  unfold IntKind.wrap
  simp only [h]
  rw [if_neg]
  have : (2 ^ (IntKind.i64.bits - 1) : Int) > 65537 := by decide
  simp only [Bool.and_eq_true, decide_eq_true_eq]
  omega
set_option maxRecDepth 100000 in
set_option maxHeartbeats 4000000 in
theorem more_good (x : Sl) (p : Pt) (n r : Int) (w : World) (hE : Ev w) (hp : PatA w x p) : Calls Tryd.prog 6 #[patV x p, .int .i64 n, .int .i64 r] w fun e w' => e = .returned (.bool true) ∧ Below w.heap.size w w' := by
  have HA := Lib.hid (fun wx (hb : Below w.heap.size w wx) => awake8_any wx (hE.keep hb))
  have HF := Lib.hid (fun wx (hb : Below w.heap.size w wx) => few_any x p wx (hp.keep hb))
  have HO8 := Lib.hid (fun wx (hb : Below w.heap.size w wx) => of8_any x p r wx (hp.keep hb) (hE.ky.keep hb))
  have HPK := Lib.hid (fun wx (hb : Below w.heap.size w wx) => psk_any x p n wx (hp.keep hb))
  have HW := Lib.hid (bx_new w x p)
  obtain ⟨q, hq⟩ : ∃ q, q = pskP p n := ⟨_, rfl⟩
  obtain ⟨g, hg⟩ : ∃ g, g = pskE p n := ⟨_, rfl⟩
  rw [← hq, ← hg] at HPK
  have HOQ := Lib.hid (fun y wx (hb : Below w.heap.size w wx) (h : PatA wx y q) => of8_any y q r wx h (hE.ky.keep hb))
  have HQN : Hid (g = 0 → kqE p r = 0 → kqE q r = 0 → kqP q r = { kqP p r with n := (kqP p r).n + 1 } ∧ 0 ≤ (kqP p r).n ∧ (kqP p r).n ≤ 65536) := Lib.hid (fun h0 h1 h2 => by
    rw [hg] at h0
    rw [hq] at h2 ⊢
    have hr : right p = true := (psk_ok h0).1
    have hm := met_le 2 7 (flat p.ms)
    have hf := (right_bd hr).2.2.2.2.1
    refine ⟨psk_need h0 h1 h2, ?_⟩
    unfold kqP; rw [if_pos h1]
    unfold kq
    simp only
    omega)
  clear hE hp hq hg
  obtain ⟨a, ha⟩ : ∃ a, a = kqP p r := ⟨_, rfl⟩
  obtain ⟨b, hb⟩ : ∃ b, b = kqP q r := ⟨_, rfl⟩
  obtain ⟨ea, hea⟩ : ∃ ea, ea = kqE p r := ⟨_, rfl⟩
  obtain ⟨eb, heb⟩ : ∃ eb, eb = kqE q r := ⟨_, rfl⟩
  rw [← ha, ← hea] at HO8
  rw [← hb, ← heb] at HOQ
  rw [← ha, ← hb, ← hea, ← heb] at HQN
  clear ha hb hea heb
  unfold patV kqV at *
  cases f1 : fewB p with
  | false =>
    rw [f1] at HF
    clear f1
    go_enter Tryd.func6, Tryd.ntmps6
    go_wp2_with fail
    go_at_call 20
    refine (HPK.out _ HW.out.bel).mono ?_
    rintro e w1 ⟨y, rfl, hy1, hb1⟩
    have hbq := hb1.alloc hb1.size (.cells #[.string ⟨q.nm.toArray⟩, .slice y.s0 q.p0.length y.c0, .slice y.s1 q.p1.length y.c1, .slice y.s2 q.ms.length y.c2] 26)
    have HN1 : Hid (Bp2 w x y p q w1.heap.size (w1.alloc (.cells #[.string ⟨q.nm.toArray⟩, .slice y.s0 q.p0.length y.c0, .slice y.s1 q.p1.length y.c1, .slice y.s2 q.ms.length y.c2] 26))) := Lib.hid ⟨HW.out.keep hbq, heap_alloc_new w1 _, hy1.keep ((Below.refl _ _).alloc (Nat.le_refl _) _)⟩
    clear hb1 hbq hy1
    obtain ⟨q0, q1, q2, q3, -⟩ := box4c HN1.out.qx
    obtain ⟨b0, b1, b2, b3⟩ := HN1.out.bx.cells
    have lq := lt_of_heap HN1.out.qx
    have lw := lt_of_heap HN1.out.bx.bx
    go_wp2_with fail
    go_at_call 9
    refine (HF.out _ HN1.out.bx.bel).mono ?_
    rintro e w2 ⟨rfl, hb2⟩
    have HN2 := Lib.hid (HN1.out.keep hb2)
    clear hb2 q0 q1 q2 q3 b0 b1 b2 b3 lq lw
    obtain ⟨q0, q1, q2, q3, -⟩ := box4c HN2.out.qx
    obtain ⟨b0, b1, b2, b3⟩ := HN2.out.bx.cells
    have lq := lt_of_heap HN2.out.qx
    have lw := lt_of_heap HN2.out.bx.bx
    go_wp2_with fail
    go_at_call 10
    refine (HA.out _ HN2.out.bx.bel).mono ?_
    rintro e w3 ⟨rfl, hb3⟩
    have HN3 := Lib.hid (HN2.out.keep hb3)
    clear hb3 q0 q1 q2 q3 b0 b1 b2 b3 lq lw
    obtain ⟨q0, q1, q2, q3, -⟩ := box4c HN3.out.qx
    obtain ⟨b0, b1, b2, b3⟩ := HN3.out.bx.cells
    have lq := lt_of_heap HN3.out.qx
    have lw := lt_of_heap HN3.out.bx.bx
    go_wp2_with fail
    go_ret
    exact ⟨rfl, HN3.out.bx.bel⟩
  | true =>
    rw [f1] at HF
    clear f1
    by_cases hg : g = 0
    · subst hg
      by_cases h1 : ea = 0
      · by_cases h2 : eb = 0
        · have HQ1 := Lib.hid (HQN.out rfl h1 h2)
          clear HQN
          subst h1 h2
          go_enter Tryd.func6, Tryd.ntmps6
          go_wp2_with fail
          go_at_call 20
          refine (HPK.out _ HW.out.bel).mono ?_
          rintro e w1 ⟨y, rfl, hy1, hb1⟩
          have hbq := hb1.alloc hb1.size (.cells #[.string ⟨q.nm.toArray⟩, .slice y.s0 q.p0.length y.c0, .slice y.s1 q.p1.length y.c1, .slice y.s2 q.ms.length y.c2] 26)
          have HN1 : Hid (Bp2 w x y p q w1.heap.size (w1.alloc (.cells #[.string ⟨q.nm.toArray⟩, .slice y.s0 q.p0.length y.c0, .slice y.s1 q.p1.length y.c1, .slice y.s2 q.ms.length y.c2] 26))) := Lib.hid ⟨HW.out.keep hbq, heap_alloc_new w1 _, hy1.keep ((Below.refl _ _).alloc (Nat.le_refl _) _)⟩
          clear hb1 hbq hy1
          obtain ⟨q0, q1, q2, q3, -⟩ := box4c HN1.out.qx
          obtain ⟨b0, b1, b2, b3⟩ := HN1.out.bx.cells
          have lq := lt_of_heap HN1.out.qx
          have lw := lt_of_heap HN1.out.bx.bx
          go_wp2_with fail
          go_at_call 9
          refine (HF.out _ HN1.out.bx.bel).mono ?_
          rintro e w2 ⟨rfl, hb2⟩
          have HN2 := Lib.hid (HN1.out.keep hb2)
          clear hb2 q0 q1 q2 q3 b0 b1 b2 b3 lq lw
          obtain ⟨q0, q1, q2, q3, -⟩ := box4c HN2.out.qx
          obtain ⟨b0, b1, b2, b3⟩ := HN2.out.bx.cells
          have lq := lt_of_heap HN2.out.qx
          have lw := lt_of_heap HN2.out.bx.bx
          go_wp2_with fail
          go_at_call 11
          refine (HO8.out _ HN2.out.bx.bel).mono ?_
          rintro e w3 ⟨rfl, hb3⟩
          have HS3 : Hid (w.heap.size ≤ w3.heap.size) := Lib.hid (Nat.le_trans HN2.out.bx.bel.size hb3.size)
          have hba := hb3.alloc hb3.size (.cells #[.bool a.s, .bool a.e, .bool a.rs, .bool a.re, .int .i64 a.n] 30)
          have HN3 := Lib.hid (HN2.out.keep hba)
          have HK3 := Lib.hid (heap_alloc_new w3 (.cells #[.bool a.s, .bool a.e, .bool a.rs, .bool a.re, .int .i64 a.n] 30))
          clear hb3 hba q0 q1 q2 q3 b0 b1 b2 b3 lq lw
          obtain ⟨q0, q1, q2, q3, -⟩ := box4c HN3.out.qx
          obtain ⟨b0, b1, b2, b3⟩ := HN3.out.bx.cells
          have lq := lt_of_heap HN3.out.qx
          have lw := lt_of_heap HN3.out.bx.bx
          go_wp2_with fail
          go_at_call 11
          refine (HOQ.out _ _ HN3.out.bx.bel HN3.out.pa).mono ?_
          rintro e w4 ⟨rfl, hb4⟩
          have HB4 : Hid (Below w.heap.size w w4 ∧ w.heap.size ≤ w3.heap.size) := Lib.hid ⟨HN3.out.bx.bel.trans (hb4.mono HN3.out.bx.bel.size), HS3.out⟩
          have l34 : w3.heap.size < w4.heap.size := Nat.lt_of_lt_of_le (by simp) hb4.size
          have ne34 : w4.heap.size ≠ w3.heap.size := by omega
          have hbb := hb4.alloc hb4.size (.cells #[.bool b.s, .bool b.e, .bool b.rs, .bool b.re, .int .i64 b.n] 30)
          have HN4 := Lib.hid (HN3.out.keep hbb)
          have HK4 := Lib.hid ((hbb.block _ (lt_of_heap HK3.out)).trans HK3.out)
          have HL4 := Lib.hid (heap_alloc_new w4 (.cells #[.bool b.s, .bool b.e, .bool b.rs, .bool b.re, .int .i64 b.n] 30))
          clear hb4 hbb q0 q1 q2 q3 b0 b1 b2 b3 lq lw
          obtain ⟨hn, hn0, hn1⟩ := HQ1.out
          have hwr : IntKind.i64.wrap (a.n + 1) = a.n + 1 := wrap_le2 (by omega) (by omega)
          subst hn
          obtain ⟨k0, k1, k2, k3, k4, y0, y1, y2, y3, y4⟩ := box5c HK4.out
          obtain ⟨l0, l1, l2, l3, l4, -⟩ := box5c HL4.out
          have lk := lt_of_heap HK4.out
          have ll := lt_of_heap HL4.out
          clear hn0 hn1 HQ1
          obtain ⟨m0, m1, m2, m3, m4, -⟩ := box5c (box_put (u := .int .i64 (a.n + 1)) l34 HK4.out)
          obtain ⟨n0, n1, n2, n3, n4, -⟩ := box5c (box_new (w := w4) (B := w3.heap.size) (u := .int .i64 (a.n + 1)) #[.bool a.s, .bool a.e, .bool a.rs, .bool a.re, .int .i64 (a.n + 1)] 30)
          have HB5 : Hid (Below w.heap.size w ((w4.setCell ⟨w3.heap.size, 4, none⟩ (.int .i64 (a.n + 1))).alloc (.cells #[.bool a.s, .bool a.e, .bool a.rs, .bool a.re, .int .i64 (a.n + 1)] 30))) := Lib.hid ((HB4.out.1.setCell HB4.out.2 _).alloc (by have := HB4.out.1.size; simp; omega) _)
          go_wp2_with fail
          go_at_call 10
          refine (HA.out _ HB5.out).mono ?_
          rintro e w6 ⟨rfl, hb6⟩
          have HB6 := Lib.hid (HB5.out.trans (hb6.mono HB5.out.size))
          clear hb6
          go_wp2_with fail
          go_ret
          exact ⟨rfl, HB6.out⟩
        · have h2b : (eb != 0) = true := by simpa using h2
          subst h1
          clear h2 HQN
          go_enter Tryd.func6, Tryd.ntmps6
          go_wp2_with fail
          go_at_call 20
          refine (HPK.out _ HW.out.bel).mono ?_
          rintro e w1 ⟨y, rfl, hy1, hb1⟩
          have hbq := hb1.alloc hb1.size (.cells #[.string ⟨q.nm.toArray⟩, .slice y.s0 q.p0.length y.c0, .slice y.s1 q.p1.length y.c1, .slice y.s2 q.ms.length y.c2] 26)
          have HN1 : Hid (Bp2 w x y p q w1.heap.size (w1.alloc (.cells #[.string ⟨q.nm.toArray⟩, .slice y.s0 q.p0.length y.c0, .slice y.s1 q.p1.length y.c1, .slice y.s2 q.ms.length y.c2] 26))) := Lib.hid ⟨HW.out.keep hbq, heap_alloc_new w1 _, hy1.keep ((Below.refl _ _).alloc (Nat.le_refl _) _)⟩
          clear hb1 hbq hy1
          obtain ⟨q0, q1, q2, q3, -⟩ := box4c HN1.out.qx
          obtain ⟨b0, b1, b2, b3⟩ := HN1.out.bx.cells
          have lq := lt_of_heap HN1.out.qx
          have lw := lt_of_heap HN1.out.bx.bx
          go_wp2_with fail
          go_at_call 9
          refine (HF.out _ HN1.out.bx.bel).mono ?_
          rintro e w2 ⟨rfl, hb2⟩
          have HN2 := Lib.hid (HN1.out.keep hb2)
          clear hb2 q0 q1 q2 q3 b0 b1 b2 b3 lq lw
          obtain ⟨q0, q1, q2, q3, -⟩ := box4c HN2.out.qx
          obtain ⟨b0, b1, b2, b3⟩ := HN2.out.bx.cells
          have lq := lt_of_heap HN2.out.qx
          have lw := lt_of_heap HN2.out.bx.bx
          go_wp2_with fail
          go_at_call 11
          refine (HO8.out _ HN2.out.bx.bel).mono ?_
          rintro e w3 ⟨rfl, hb3⟩
          have HS3 : Hid (w.heap.size ≤ w3.heap.size) := Lib.hid (Nat.le_trans HN2.out.bx.bel.size hb3.size)
          have hba := hb3.alloc hb3.size (.cells #[.bool a.s, .bool a.e, .bool a.rs, .bool a.re, .int .i64 a.n] 30)
          have HN3 := Lib.hid (HN2.out.keep hba)
          have HK3 := Lib.hid (heap_alloc_new w3 (.cells #[.bool a.s, .bool a.e, .bool a.rs, .bool a.re, .int .i64 a.n] 30))
          clear hb3 hba q0 q1 q2 q3 b0 b1 b2 b3 lq lw
          obtain ⟨q0, q1, q2, q3, -⟩ := box4c HN3.out.qx
          obtain ⟨b0, b1, b2, b3⟩ := HN3.out.bx.cells
          have lq := lt_of_heap HN3.out.qx
          have lw := lt_of_heap HN3.out.bx.bx
          go_wp2_with fail
          go_at_call 11
          refine (HOQ.out _ _ HN3.out.bx.bel HN3.out.pa).mono ?_
          rintro e w4 ⟨rfl, hb4⟩
          have HB4 : Hid (Below w.heap.size w w4 ∧ w.heap.size ≤ w3.heap.size) := Lib.hid ⟨HN3.out.bx.bel.trans (hb4.mono HN3.out.bx.bel.size), HS3.out⟩
          have l34 : w3.heap.size < w4.heap.size := Nat.lt_of_lt_of_le (by simp) hb4.size
          have ne34 : w4.heap.size ≠ w3.heap.size := by omega
          have hbb := hb4.alloc hb4.size (.cells #[.bool b.s, .bool b.e, .bool b.rs, .bool b.re, .int .i64 b.n] 30)
          have HN4 := Lib.hid (HN3.out.keep hbb)
          have HK4 := Lib.hid ((hbb.block _ (lt_of_heap HK3.out)).trans HK3.out)
          have HL4 := Lib.hid (heap_alloc_new w4 (.cells #[.bool b.s, .bool b.e, .bool b.rs, .bool b.re, .int .i64 b.n] 30))
          clear hb4 hbb q0 q1 q2 q3 b0 b1 b2 b3 lq lw
          go_wp2_with fail
          go_at_call 10
          refine (HA.out _ HN4.out.bx.bel).mono ?_
          rintro e w5 ⟨rfl, hb5⟩
          have HN5 := Lib.hid (HN4.out.keep hb5)
          clear hb5
          obtain ⟨q0, q1, q2, q3, -⟩ := box4c HN5.out.qx
          obtain ⟨b0, b1, b2, b3⟩ := HN5.out.bx.cells
          have lq := lt_of_heap HN5.out.qx
          have lw := lt_of_heap HN5.out.bx.bx
          go_wp2_with fail
          go_ret
          exact ⟨rfl, HN5.out.bx.bel⟩
      · have h1b : (ea != 0) = true := by simpa using h1
        clear h1 HQN
        go_enter Tryd.func6, Tryd.ntmps6
        go_wp2_with fail
        go_at_call 20
        refine (HPK.out _ HW.out.bel).mono ?_
        rintro e w1 ⟨y, rfl, hy1, hb1⟩
        have hbq := hb1.alloc hb1.size (.cells #[.string ⟨q.nm.toArray⟩, .slice y.s0 q.p0.length y.c0, .slice y.s1 q.p1.length y.c1, .slice y.s2 q.ms.length y.c2] 26)
        have HN1 : Hid (Bp2 w x y p q w1.heap.size (w1.alloc (.cells #[.string ⟨q.nm.toArray⟩, .slice y.s0 q.p0.length y.c0, .slice y.s1 q.p1.length y.c1, .slice y.s2 q.ms.length y.c2] 26))) := Lib.hid ⟨HW.out.keep hbq, heap_alloc_new w1 _, hy1.keep ((Below.refl _ _).alloc (Nat.le_refl _) _)⟩
        clear hb1 hbq hy1
        obtain ⟨q0, q1, q2, q3, -⟩ := box4c HN1.out.qx
        obtain ⟨b0, b1, b2, b3⟩ := HN1.out.bx.cells
        have lq := lt_of_heap HN1.out.qx
        have lw := lt_of_heap HN1.out.bx.bx
        go_wp2_with fail
        go_at_call 9
        refine (HF.out _ HN1.out.bx.bel).mono ?_
        rintro e w2 ⟨rfl, hb2⟩
        have HN2 := Lib.hid (HN1.out.keep hb2)
        clear hb2 q0 q1 q2 q3 b0 b1 b2 b3 lq lw
        obtain ⟨q0, q1, q2, q3, -⟩ := box4c HN2.out.qx
        obtain ⟨b0, b1, b2, b3⟩ := HN2.out.bx.cells
        have lq := lt_of_heap HN2.out.qx
        have lw := lt_of_heap HN2.out.bx.bx
        go_wp2_with fail
        go_at_call 11
        refine (HO8.out _ HN2.out.bx.bel).mono ?_
        rintro e w3 ⟨rfl, hb3⟩
        have HS3 : Hid (w.heap.size ≤ w3.heap.size) := Lib.hid (Nat.le_trans HN2.out.bx.bel.size hb3.size)
        have hba := hb3.alloc hb3.size (.cells #[.bool a.s, .bool a.e, .bool a.rs, .bool a.re, .int .i64 a.n] 30)
        have HN3 := Lib.hid (HN2.out.keep hba)
        have HK3 := Lib.hid (heap_alloc_new w3 (.cells #[.bool a.s, .bool a.e, .bool a.rs, .bool a.re, .int .i64 a.n] 30))
        clear hb3 hba q0 q1 q2 q3 b0 b1 b2 b3 lq lw
        obtain ⟨q0, q1, q2, q3, -⟩ := box4c HN3.out.qx
        obtain ⟨b0, b1, b2, b3⟩ := HN3.out.bx.cells
        have lq := lt_of_heap HN3.out.qx
        have lw := lt_of_heap HN3.out.bx.bx
        go_wp2_with fail
        go_at_call 11
        refine (HOQ.out _ _ HN3.out.bx.bel HN3.out.pa).mono ?_
        rintro e w4 ⟨rfl, hb4⟩
        have HB4 : Hid (Below w.heap.size w w4 ∧ w.heap.size ≤ w3.heap.size) := Lib.hid ⟨HN3.out.bx.bel.trans (hb4.mono HN3.out.bx.bel.size), HS3.out⟩
        have l34 : w3.heap.size < w4.heap.size := Nat.lt_of_lt_of_le (by simp) hb4.size
        have ne34 : w4.heap.size ≠ w3.heap.size := by omega
        have hbb := hb4.alloc hb4.size (.cells #[.bool b.s, .bool b.e, .bool b.rs, .bool b.re, .int .i64 b.n] 30)
        have HN4 := Lib.hid (HN3.out.keep hbb)
        have HK4 := Lib.hid ((hbb.block _ (lt_of_heap HK3.out)).trans HK3.out)
        have HL4 := Lib.hid (heap_alloc_new w4 (.cells #[.bool b.s, .bool b.e, .bool b.rs, .bool b.re, .int .i64 b.n] 30))
        clear hb4 hbb q0 q1 q2 q3 b0 b1 b2 b3 lq lw
        go_wp2_with fail
        go_at_call 10
        refine (HA.out _ HN4.out.bx.bel).mono ?_
        rintro e w5 ⟨rfl, hb5⟩
        have HN5 := Lib.hid (HN4.out.keep hb5)
        clear hb5
        obtain ⟨q0, q1, q2, q3, -⟩ := box4c HN5.out.qx
        obtain ⟨b0, b1, b2, b3⟩ := HN5.out.bx.cells
        have lq := lt_of_heap HN5.out.qx
        have lw := lt_of_heap HN5.out.bx.bx
        go_wp2_with fail
        go_ret
        exact ⟨rfl, HN5.out.bx.bel⟩
    · have hgb : (g != 0) = true := by simpa using hg
      clear hg
      go_enter Tryd.func6, Tryd.ntmps6
      go_wp2_with fail
      go_at_call 20
      refine (HPK.out _ HW.out.bel).mono ?_
      rintro e w1 ⟨y, rfl, hy1, hb1⟩
      have hbq := hb1.alloc hb1.size (.cells #[.string ⟨q.nm.toArray⟩, .slice y.s0 q.p0.length y.c0, .slice y.s1 q.p1.length y.c1, .slice y.s2 q.ms.length y.c2] 26)
      have HN1 : Hid (Bp2 w x y p q w1.heap.size (w1.alloc (.cells #[.string ⟨q.nm.toArray⟩, .slice y.s0 q.p0.length y.c0, .slice y.s1 q.p1.length y.c1, .slice y.s2 q.ms.length y.c2] 26))) := Lib.hid ⟨HW.out.keep hbq, heap_alloc_new w1 _, hy1.keep ((Below.refl _ _).alloc (Nat.le_refl _) _)⟩
      clear hb1 hbq hy1
      obtain ⟨q0, q1, q2, q3, -⟩ := box4c HN1.out.qx
      obtain ⟨b0, b1, b2, b3⟩ := HN1.out.bx.cells
      have lq := lt_of_heap HN1.out.qx
      have lw := lt_of_heap HN1.out.bx.bx
      go_wp2_with fail
      go_at_call 9
      refine (HF.out _ HN1.out.bx.bel).mono ?_
      rintro e w2 ⟨rfl, hb2⟩
      have HN2 := Lib.hid (HN1.out.keep hb2)
      clear hb2 q0 q1 q2 q3 b0 b1 b2 b3 lq lw
      obtain ⟨q0, q1, q2, q3, -⟩ := box4c HN2.out.qx
      obtain ⟨b0, b1, b2, b3⟩ := HN2.out.bx.cells
      have lq := lt_of_heap HN2.out.qx
      have lw := lt_of_heap HN2.out.bx.bx
      go_wp2_with fail
      go_at_call 10
      refine (HA.out _ HN2.out.bx.bel).mono ?_
      rintro e w3 ⟨rfl, hb3⟩
      have HN3 := Lib.hid (HN2.out.keep hb3)
      clear hb3 q0 q1 q2 q3 b0 b1 b2 b3 lq lw
      obtain ⟨q0, q1, q2, q3, -⟩ := box4c HN3.out.qx
      obtain ⟨b0, b1, b2, b3⟩ := HN3.out.bx.cells
      have lq := lt_of_heap HN3.out.qx
      have lw := lt_of_heap HN3.out.bx.bx
      go_wp2_with fail
      go_ret
      exact ⟨rfl, HN3.out.bx.bel⟩
end Go.Proofs.YtjnijppghgemeaaDoor
