/- Layer 9: the law LevelMessages. -/
import Derived.Test.YtahbbojhdkillaaDoorGh
import Derived.Test.YtahbbojhdkillaaDoorGk
import Derived.Test.YtahbbojhdkillaaDoorCp
import Derived.Test.YtahbbojhdkillaaDoorNd
namespace Go.Proofs.YtahbbojhdkillaaDoor
open Go.RowKit Go.Shelf

/-- A pattern, the reference's pattern, and a table, in a law's memory. -/
structure Sq9 (w : World) (x y : Sl) (p : Pt) (qb : Nat) (s : Option Addr) (n : Nat) (wr : World) : Prop where
  bx : Bx w w.heap.size x p wr
  q : wr.heap[qb]? = some (.cells #[.string ⟨p.nm.toArray⟩, .slice y.s0 p.p0.length y.c0, .slice y.s1 p.p1.length y.c1, .slice y.s2 p.ms.length y.c2] 43 (0, 0))
  pa : PatA wr y p
  lv : LvR wr s n p
theorem Sq9.keep {w : World} {x y : Sl} {p : Pt} {qb : Nat} {s : Option Addr} {n : Nat} {wr wx : World} (h : Sq9 w x y p qb s n wr) (hb : Below wr.heap.size wr wx) : Sq9 w x y p qb s n wx :=
  ⟨h.bx.keep hb, (hb.block _ (lt_of_heap h.q)).trans h.q, h.pa.keep hb, h.lv.keep hb⟩
theorem Sq9.cells {w : World} {x y : Sl} {p : Pt} {qb : Nat} {s : Option Addr} {n : Nat} {wr : World} (h : Sq9 w x y p qb s n wr) : wr.cell? ⟨qb, 0, none⟩ = some (.string ⟨p.nm.toArray⟩) ∧ wr.cell? ⟨qb, 1, none⟩ = some (.slice y.s0 p.p0.length y.c0) ∧ wr.cell? ⟨qb, 2, none⟩ = some (.slice y.s1 p.p1.length y.c1) ∧ wr.cell? ⟨qb, 3, none⟩ = some (.slice y.s2 p.ms.length y.c2) ∧ qb < wr.heap.size := by
  obtain ⟨h0, h1, h2, h3, -⟩ := box4c h.q
  exact ⟨h0, h1, h2, h3, lt_of_heap h.q⟩
theorem few_lens {p : Pt} (h : fewB p = true) : p.ms.length ≤ 65536 ∧ p.nm.length ≤ 65536 := by
  simp only [fewB, Bool.and_eq_true, decide_eq_true_eq] at h
  omega
theorem ckE_13 {p : Pt} (h : right p = true) (he : ¬ ckE p = 0) : ckE p = 13 := by
  unfold ckE at he ⊢
  rw [if_pos h] at he ⊢
  by_cases h2 : (ck p).1 = 0
  · rw [if_pos h2] at he; exact absurd rfl he
  · rw [if_neg h2]
set_option maxRecDepth 100000 in
set_option maxHeartbeats 4000000 in
theorem messages_long (x : Sl) (p : Pt) (m : Int) (h : fewB p = false) (w : World) (hE : Ew w) (hp : PatA w x p) : Calls Tryd.prog 4 #[patV x p, .int .i64 m] w fun e w' => e = .returned (.bool true) ∧ Below w.heap.size w w' := by
  have HA := Lib.hid (fun wx (hb : Below w.heap.size w wx) => awake9_any wx (hE.keep hb))
  have HF := Lib.hid (fun wx (hb : Below w.heap.size w wx) => few_any x p wx (hp.keep hb))
  rw [h] at HF
  have HX := Lib.hid (bx_new w x p)
  clear h hE hp
  unfold patV at HF ⊢
  go_enter Tryd.func4, Tryd.ntmps4
  go_wp2_with fail
  go_at_call 15
  refine (HF.out _ HX.out.bel).mono ?_
  rintro e w1 ⟨rfl, hb1⟩
  have HX1 := Lib.hid (HX.out.keep hb1)
  clear hb1
  go_wp2_with fail
  go_at_call 14
  refine (HA.out _ HX1.out.bel).mono ?_
  rintro e w9 ⟨rfl, hb9⟩
  have HX9 := Lib.hid (HX1.out.keep hb9)
  clear hb9
  go_wp2_with fail
  go_ret
  exact ⟨rfl, HX9.out.bel⟩
set_option maxRecDepth 100000 in
set_option maxHeartbeats 4000000 in
theorem messages_wrong (x : Sl) (p : Pt) (m : Int) (h : fewB p = true) (hr : right p = false) (w : World) (hE : Ew w) (hp : PatA w x p) : Calls Tryd.prog 4 #[patV x p, .int .i64 m] w fun e w' => e = .returned (.bool true) ∧ Below w.heap.size w w' := by
  have HA := Lib.hid (fun wx (hb : Below w.heap.size w wx) => awake9_any wx (hE.keep hb))
  have HF := Lib.hid (fun wx (hb : Below w.heap.size w wx) => few_any x p wx (hp.keep hb))
  have HOQ := Lib.hid (fun wx (hb : Below w.heap.size w wx) => of_any x p (few_lens h).1 wx (hp.keep hb))
  have HRR := Lib.hid (fun y wx (h2 : PatA wx y p) => rright_any y p wx h2 (few_lens h).2 (few_lens h).1)
  have HX := Lib.hid (bx_new w x p)
  have HTB := Lib.hid (fun wx (hb : Below w.heap.size w wx) => table_any x p m wx (hp.keep hb) (hE.keep hb))
  rw [h] at HF
  have e1 : tbE p m = 1 := by
    unfold tbE; split
    · rfl
    · unfold ckE; rw [hr]; rfl
  have e2 : tbN p m = 0 := by unfold tbN; rw [e1]; rfl
  rw [e1, e2] at HTB
  rw [hr] at HRR
  clear hr e1 e2
  clear h hE hp
  unfold patV at HF HOQ HRR HTB ⊢
  go_enter Tryd.func4, Tryd.ntmps4
  go_wp2_with fail
  go_at_call 15
  refine (HF.out _ HX.out.bel).mono ?_
  rintro e w1 ⟨rfl, hb1⟩
  have HX1 := Lib.hid (HX.out.keep hb1)
  clear hb1
  obtain ⟨b0, b1, b2, b3⟩ := HX1.out.cells
  have lb := lt_of_heap HX1.out.bx
  go_wp2_with fail
  go_at_call 13
  refine (HTB.out _ HX1.out.bel).mono ?_
  rintro e w2 ⟨s, c, rfl, hl2, hb2⟩
  have HX2 := Lib.hid (HX1.out.keep hb2)
  have HL2 := Lib.hid hl2
  clear hb2 hl2 b0 b1 b2 b3 lb
  obtain ⟨b0, b1, b2, b3⟩ := HX2.out.cells
  have lb := lt_of_heap HX2.out.bx
  go_wp2_with fail
  go_at_call 16
  refine (HOQ.out _ HX2.out.bel).mono ?_
  rintro e w3 ⟨y, rfl, hy3, hb3⟩
  have hbq := hb3.alloc hb3.size (.cells #[.string ⟨p.nm.toArray⟩, .slice y.s0 p.p0.length y.c0, .slice y.s1 p.p1.length y.c1, .slice y.s2 p.ms.length y.c2] 43)
  have HN3 : Hid (Sq9 w x y p w3.heap.size s 0 (w3.alloc (.cells #[.string ⟨p.nm.toArray⟩, .slice y.s0 p.p0.length y.c0, .slice y.s1 p.p1.length y.c1, .slice y.s2 p.ms.length y.c2] 43))) := Lib.hid ⟨HX2.out.keep hbq, heap_alloc_new w3 _, hy3.keep ((Below.refl _ _).alloc (Nat.le_refl _) _), HL2.out.keep hbq⟩
  clear hb3 hbq hy3 b0 b1 b2 b3 lb
  obtain ⟨q0, q1, q2, q3, lq⟩ := HN3.out.cells
  go_wp2_with fail
  go_at_call 17
  refine (HRR.out y _ HN3.out.pa).mono ?_
  rintro e w4 ⟨rfl, hb4⟩
  have HN4 := Lib.hid (HN3.out.keep hb4)
  clear hb4 q0 q1 q2 q3 lq
  obtain ⟨q0, q1, q2, q3, lq⟩ := HN4.out.cells
  go_wp2_with fail
  go_at_call 14
  refine (HA.out _ HN4.out.bx.bel).mono ?_
  rintro e w9 ⟨rfl, hb9⟩
  have HN9 := Lib.hid (HN4.out.keep hb9)
  clear hb9
  go_wp2_with fail
  go_ret
  exact ⟨rfl, HN9.out.bx.bel⟩
set_option maxRecDepth 100000 in
set_option maxHeartbeats 4000000 in
theorem messages_out (x : Sl) (p : Pt) (m : Int) (h : fewB p = true) (hr : right p = true) (hm : m < 0 ∨ 100 < m) (w : World) (hE : Ew w) (hp : PatA w x p) : Calls Tryd.prog 4 #[patV x p, .int .i64 m] w fun e w' => e = .returned (.bool true) ∧ Below w.heap.size w w' := by
  have HA := Lib.hid (fun wx (hb : Below w.heap.size w wx) => awake9_any wx (hE.keep hb))
  have HF := Lib.hid (fun wx (hb : Below w.heap.size w wx) => few_any x p wx (hp.keep hb))
  have HOQ := Lib.hid (fun wx (hb : Below w.heap.size w wx) => of_any x p (few_lens h).1 wx (hp.keep hb))
  have HRR := Lib.hid (fun y wx (h2 : PatA wx y p) => rright_any y p wx h2 (few_lens h).2 (few_lens h).1)
  have HX := Lib.hid (bx_new w x p)
  have HTB := Lib.hid (fun wx (hb : Below w.heap.size w wx) => table_any x p m wx (hp.keep hb) (hE.keep hb))
  rw [h] at HF
  have e1 : tbE p m = 1 := by unfold tbE; rw [if_pos hm]
  have e2 : tbN p m = 0 := by unfold tbN; rw [e1]; rfl
  rw [e1, e2] at HTB
  rw [hr] at HRR
  clear hr e1 e2
  clear h hE hp
  unfold patV at HF HOQ HRR HTB ⊢
  go_enter Tryd.func4, Tryd.ntmps4
  go_wp2_with fail
  go_at_call 15
  refine (HF.out _ HX.out.bel).mono ?_
  rintro e w1 ⟨rfl, hb1⟩
  have HX1 := Lib.hid (HX.out.keep hb1)
  clear hb1
  obtain ⟨b0, b1, b2, b3⟩ := HX1.out.cells
  have lb := lt_of_heap HX1.out.bx
  go_wp2_with fail
  go_at_call 13
  refine (HTB.out _ HX1.out.bel).mono ?_
  rintro e w2 ⟨s, c, rfl, hl2, hb2⟩
  have HX2 := Lib.hid (HX1.out.keep hb2)
  have HL2 := Lib.hid hl2
  clear hb2 hl2 b0 b1 b2 b3 lb
  obtain ⟨b0, b1, b2, b3⟩ := HX2.out.cells
  have lb := lt_of_heap HX2.out.bx
  go_wp2_with fail
  go_at_call 16
  refine (HOQ.out _ HX2.out.bel).mono ?_
  rintro e w3 ⟨y, rfl, hy3, hb3⟩
  have hbq := hb3.alloc hb3.size (.cells #[.string ⟨p.nm.toArray⟩, .slice y.s0 p.p0.length y.c0, .slice y.s1 p.p1.length y.c1, .slice y.s2 p.ms.length y.c2] 43)
  have HN3 : Hid (Sq9 w x y p w3.heap.size s 0 (w3.alloc (.cells #[.string ⟨p.nm.toArray⟩, .slice y.s0 p.p0.length y.c0, .slice y.s1 p.p1.length y.c1, .slice y.s2 p.ms.length y.c2] 43))) := Lib.hid ⟨HX2.out.keep hbq, heap_alloc_new w3 _, hy3.keep ((Below.refl _ _).alloc (Nat.le_refl _) _), HL2.out.keep hbq⟩
  clear hb3 hbq hy3 b0 b1 b2 b3 lb
  obtain ⟨q0, q1, q2, q3, lq⟩ := HN3.out.cells
  go_wp2_with fail
  go_at_call 17
  refine (HRR.out y _ HN3.out.pa).mono ?_
  rintro e w4 ⟨rfl, hb4⟩
  have HN4 := Lib.hid (HN3.out.keep hb4)
  clear hb4 q0 q1 q2 q3 lq
  obtain ⟨q0, q1, q2, q3, lq⟩ := HN4.out.cells
  by_cases hm0 : m < 0
  · clear hm
    go_wp2_with fail
    go_at_call 14
    refine (HA.out _ HN4.out.bx.bel).mono ?_
    rintro e w9 ⟨rfl, hb9⟩
    have HN9 := Lib.hid (HN4.out.keep hb9)
    clear hb9
    go_wp2_with fail
    go_ret
    exact ⟨rfl, HN9.out.bx.bel⟩
  · have hm1 : 100 < m := by omega
    clear hm
    go_wp2_with fail
    go_at_call 14
    refine (HA.out _ HN4.out.bx.bel).mono ?_
    rintro e w9 ⟨rfl, hb9⟩
    have HN9 := Lib.hid (HN4.out.keep hb9)
    clear hb9
    go_wp2_with fail
    go_ret
    exact ⟨rfl, HN9.out.bx.bel⟩
set_option maxRecDepth 100000 in
set_option maxHeartbeats 4000000 in
theorem messages_bad (x : Sl) (p : Pt) (m : Int) (h : fewB p = true) (hr : right p = true) (hm : ¬ (m < 0 ∨ 100 < m)) (hc : ¬ ckE p = 0) (w : World) (hE : Ew w) (hp : PatA w x p) : Calls Tryd.prog 4 #[patV x p, .int .i64 m] w fun e w' => e = .returned (.bool true) ∧ Below w.heap.size w w' := by
  have HA := Lib.hid (fun wx (hb : Below w.heap.size w wx) => awake9_any wx (hE.keep hb))
  have HF := Lib.hid (fun wx (hb : Below w.heap.size w wx) => few_any x p wx (hp.keep hb))
  have HOQ := Lib.hid (fun wx (hb : Below w.heap.size w wx) => of_any x p (few_lens h).1 wx (hp.keep hb))
  have HRR := Lib.hid (fun y wx (h2 : PatA wx y p) => rright_any y p wx h2 (few_lens h).2 (few_lens h).1)
  have HX := Lib.hid (bx_new w x p)
  have HTB := Lib.hid (fun wx (hb : Below w.heap.size w wx) => table_any x p m wx (hp.keep hb) (hE.keep hb))
  rw [h] at HF
  have HCK := Lib.hid (fun y wx (h2 : PatA wx y p) => rcheck_any y p wx h2 hr)
  have e0 := ckE_13 hr hc
  have e1 : tbE p m = 13 := by unfold tbE; rw [if_neg hm]; exact e0
  have e2 : tbN p m = 0 := by unfold tbN; rw [e1]; rfl
  rw [e0] at HCK
  generalize ckR p = r0 at HCK
  generalize ckI p = r1 at HCK
  rw [e1, e2] at HTB
  rw [hr] at HRR
  clear hr e0 e1 e2 hc
  unfold patV at HCK
  clear h hE hp
  unfold patV at HF HOQ HRR HTB ⊢
  go_enter Tryd.func4, Tryd.ntmps4
  go_wp2_with fail
  go_at_call 15
  refine (HF.out _ HX.out.bel).mono ?_
  rintro e w1 ⟨rfl, hb1⟩
  have HX1 := Lib.hid (HX.out.keep hb1)
  clear hb1
  obtain ⟨b0, b1, b2, b3⟩ := HX1.out.cells
  have lb := lt_of_heap HX1.out.bx
  go_wp2_with fail
  go_at_call 13
  refine (HTB.out _ HX1.out.bel).mono ?_
  rintro e w2 ⟨s, c, rfl, hl2, hb2⟩
  have HX2 := Lib.hid (HX1.out.keep hb2)
  have HL2 := Lib.hid hl2
  clear hb2 hl2 b0 b1 b2 b3 lb
  obtain ⟨b0, b1, b2, b3⟩ := HX2.out.cells
  have lb := lt_of_heap HX2.out.bx
  go_wp2_with fail
  go_at_call 16
  refine (HOQ.out _ HX2.out.bel).mono ?_
  rintro e w3 ⟨y, rfl, hy3, hb3⟩
  have hbq := hb3.alloc hb3.size (.cells #[.string ⟨p.nm.toArray⟩, .slice y.s0 p.p0.length y.c0, .slice y.s1 p.p1.length y.c1, .slice y.s2 p.ms.length y.c2] 43)
  have HN3 : Hid (Sq9 w x y p w3.heap.size s 0 (w3.alloc (.cells #[.string ⟨p.nm.toArray⟩, .slice y.s0 p.p0.length y.c0, .slice y.s1 p.p1.length y.c1, .slice y.s2 p.ms.length y.c2] 43))) := Lib.hid ⟨HX2.out.keep hbq, heap_alloc_new w3 _, hy3.keep ((Below.refl _ _).alloc (Nat.le_refl _) _), HL2.out.keep hbq⟩
  clear hb3 hbq hy3 b0 b1 b2 b3 lb
  obtain ⟨q0, q1, q2, q3, lq⟩ := HN3.out.cells
  go_wp2_with fail
  go_at_call 17
  refine (HRR.out y _ HN3.out.pa).mono ?_
  rintro e w4 ⟨rfl, hb4⟩
  have HN4 := Lib.hid (HN3.out.keep hb4)
  clear hb4 q0 q1 q2 q3 lq
  obtain ⟨q0, q1, q2, q3, lq⟩ := HN4.out.cells
  have hm0 : ¬ m < 0 := fun e => hm (Or.inl e)
  have hm1 : ¬ 100 < m := fun e => hm (Or.inr e)
  clear hm
  go_wp2_with fail
  go_at_call 18
  refine (HCK.out y _ HN4.out.pa).mono ?_
  rintro e w5 ⟨rfl, hb5⟩
  have HN5 := Lib.hid (HN4.out.keep hb5)
  clear hb5 q0 q1 q2 q3 lq
  obtain ⟨q0, q1, q2, q3, lq⟩ := HN5.out.cells
  go_wp2_with fail
  go_at_call 14
  refine (HA.out _ HN5.out.bx.bel).mono ?_
  rintro e w9 ⟨rfl, hb9⟩
  have HN9 := Lib.hid (HN5.out.keep hb9)
  clear hb9
  go_wp2_with fail
  go_ret
  exact ⟨rfl, HN9.out.bx.bel⟩
set_option maxRecDepth 100000 in
set_option maxHeartbeats 4000000 in
theorem messages_ok (x : Sl) (p : Pt) (n : Nat) (h : fewB p = true) (hr : right p = true) (hm : ¬ ((n : Int) < 0 ∨ 100 < (n : Int))) (hc : ckE p = 0) (w : World) (hE : Ew w) (hp : PatA w x p) : Calls Tryd.prog 4 #[patV x p, .int .i64 n] w fun e w' => e = .returned (.bool true) ∧ Below w.heap.size w w' := by
  have HA := Lib.hid (fun wx (hb : Below w.heap.size w wx) => awake9_any wx (hE.keep hb))
  have HF := Lib.hid (fun wx (hb : Below w.heap.size w wx) => few_any x p wx (hp.keep hb))
  have HOQ := Lib.hid (fun wx (hb : Below w.heap.size w wx) => of_any x p (few_lens h).1 wx (hp.keep hb))
  have HRR := Lib.hid (fun y wx (h2 : PatA wx y p) => rright_any y p wx h2 (few_lens h).2 (few_lens h).1)
  have HX := Lib.hid (bx_new w x p)
  have HTB := Lib.hid (fun wx (hb : Below w.heap.size w wx) => table_any x p n wx (hp.keep hb) (hE.keep hb))
  rw [h] at HF
  have HCK := Lib.hid (fun y wx (h2 : PatA wx y p) => rcheck_any y p wx h2 hr)
  have HRO := Lib.hid (fun k hk y wx (h2 : PatA wx y p) => rof9_any y p k hr hk wx h2)
  have HCF := Lib.hid (fun k => cf_eq hc k)
  have e1 : tbE p n = 0 := by unfold tbE; rw [if_neg hm]; exact hc
  have e2 : tbN p n = n := by unfold tbN; rw [e1]; rfl
  rw [hc] at HCK
  generalize ckR p = r0 at HCK
  generalize ckI p = r1 at HCK
  rw [e1, e2] at HTB
  rw [hr] at HRR
  clear hr e1 e2 hc
  unfold patV at HCK HRO
  clear h hE hp
  unfold patV at HF HOQ HRR HTB ⊢
  go_enter Tryd.func4, Tryd.ntmps4
  go_wp2_with fail
  go_at_call 15
  refine (HF.out _ HX.out.bel).mono ?_
  rintro e w1 ⟨rfl, hb1⟩
  have HX1 := Lib.hid (HX.out.keep hb1)
  clear hb1
  obtain ⟨b0, b1, b2, b3⟩ := HX1.out.cells
  have lb := lt_of_heap HX1.out.bx
  go_wp2_with fail
  go_at_call 13
  refine (HTB.out _ HX1.out.bel).mono ?_
  rintro e w2 ⟨s, c, rfl, hl2, hb2⟩
  have HX2 := Lib.hid (HX1.out.keep hb2)
  have HL2 := Lib.hid hl2
  clear hb2 hl2 b0 b1 b2 b3 lb
  obtain ⟨b0, b1, b2, b3⟩ := HX2.out.cells
  have lb := lt_of_heap HX2.out.bx
  go_wp2_with fail
  go_at_call 16
  refine (HOQ.out _ HX2.out.bel).mono ?_
  rintro e w3 ⟨y, rfl, hy3, hb3⟩
  have hbq := hb3.alloc hb3.size (.cells #[.string ⟨p.nm.toArray⟩, .slice y.s0 p.p0.length y.c0, .slice y.s1 p.p1.length y.c1, .slice y.s2 p.ms.length y.c2] 43)
  have HN3 : Hid (Sq9 w x y p w3.heap.size s n (w3.alloc (.cells #[.string ⟨p.nm.toArray⟩, .slice y.s0 p.p0.length y.c0, .slice y.s1 p.p1.length y.c1, .slice y.s2 p.ms.length y.c2] 43))) := Lib.hid ⟨HX2.out.keep hbq, heap_alloc_new w3 _, hy3.keep ((Below.refl _ _).alloc (Nat.le_refl _) _), HL2.out.keep hbq⟩
  clear hb3 hbq hy3 b0 b1 b2 b3 lb
  obtain ⟨q0, q1, q2, q3, lq⟩ := HN3.out.cells
  go_wp2_with fail
  go_at_call 17
  refine (HRR.out y _ HN3.out.pa).mono ?_
  rintro e w4 ⟨rfl, hb4⟩
  have HN4 := Lib.hid (HN3.out.keep hb4)
  clear hb4 q0 q1 q2 q3 lq
  obtain ⟨q0, q1, q2, q3, lq⟩ := HN4.out.cells
  have hm0 : ¬ (n : Int) < 0 := fun e => hm (Or.inl e)
  have hm1 : ¬ 100 < (n : Int) := fun e => hm (Or.inr e)
  clear hm
  go_wp2_with fail
  go_at_call 18
  refine (HCK.out y _ HN4.out.pa).mono ?_
  rintro e w5 ⟨rfl, hb5⟩
  have HN5 := Lib.hid (HN4.out.keep hb5)
  clear hb5 q0 q1 q2 q3 lq
  obtain ⟨q0, q1, q2, q3, lq⟩ := HN5.out.cells
  go_wp2_with fail
  generalize w3.heap.size = qb at *
  clear q0 q1 q2 q3 lq
  go_loopg [11, 12] n (fun q u11 _ wr => ∃ i : Nat, i + q = n ∧ u11 = .int .i64 i ∧ Aside (Sq9 w x y p qb s n wr))
  case atStart => exact ⟨0, by omega, rfl, HN5.out⟩
  case round =>
    obtain ⟨i, hiq, rfl, hs⟩ := hrel
    have HS := Lib.hid hs.out
    clear hs
    by_cases hlt : i < n
    · have hi2 : (i : Int) < n := by omega
      by_cases h12 : i < 12
      · have hi12 : (i : Int) < 12 := by omega
        have HO := Lib.hid (HRO.out i (by omega) y _ HS.out.pa)
        have hcf := HCF.out i
        obtain ⟨g, rfl, hg⟩ := HS.out.lv (by omega)
        obtain ⟨a0, a1⟩ := hg i hlt
        rw [hcf] at a0 a1
        simp only at a0 a1
        generalize auR p i = u at HO a0
        generalize cfR p i = v at HO a1
        have HAA := Lib.hid (And.intro a0 a1)
        clear hg hcf a0 a1
        obtain ⟨q0, q1, q2, q3, lq⟩ := HS.out.cells
        go_wp2_with fail
        go_at_call 19
        refine HO.out.mono ?_
        rintro e w6 ⟨rfl, hb6⟩
        have HS6 := Lib.hid (HS.out.keep hb6)
        have a0 := (hb6.cell (p := ⟨g, i * 2, none⟩) (World.block_lt_of_cell? _ _ HAA.out.1)).trans HAA.out.1
        have a1 := (hb6.cell (p := ⟨g, i * 2 + 1, none⟩) (World.block_lt_of_cell? _ _ HAA.out.2)).trans HAA.out.2
        have la := World.block_lt_of_cell? _ _ a0
        simp only at la
        clear hb6 q0 q1 q2 q3 lq
        have HSX : Hid (∀ o k, Sq9 w x y p qb (some ⟨g, 0, none⟩) n ((w6.alloc o).drewN k)) := Lib.hid (fun o k => HS6.out.keep (belowN ((Below.refl _ _).alloc (Nat.le_refl _) o)))
        go_wp2_with fail
        go_quiet (fail)
        go_wp2_with fail
        go_roundg (n - (i + 1))
        case measure => omega
        case rel => exact ⟨i + 1, by omega, by go_num, (show Aside _ from HSX.out _ _)⟩
      · have hi12 : ¬ (i : Int) < 12 := by omega
        go_wp2_with fail
        go_at_call 14
        refine (HA.out _ HS.out.bx.bel).mono ?_
        rintro e w9 ⟨rfl, hb9⟩
        have HN9 := Lib.hid (HS.out.keep hb9)
        clear hb9
        go_wp2_with fail
        go_ret
        exact ⟨rfl, HN9.out.bx.bel⟩
    · have hi2 : ¬ (i : Int) < n := by omega
      go_wp2_with fail
      go_at_call 14
      refine (HA.out _ HS.out.bx.bel).mono ?_
      rintro e w9 ⟨rfl, hb9⟩
      have HN9 := Lib.hid (HS.out.keep hb9)
      clear hb9
      go_wp2_with fail
      go_ret
      exact ⟨rfl, HN9.out.bx.bel⟩
theorem messages_good (x : Sl) (p : Pt) (m : Int) (w : World) (hE : Ew w) (hp : PatA w x p) : Calls Tryd.prog 4 #[patV x p, .int .i64 m] w fun e w' => e = .returned (.bool true) ∧ Below w.heap.size w w' := by
  cases h : fewB p with
  | false => exact messages_long x p m h w hE hp
  | true =>
    cases hr : right p with
    | false => exact messages_wrong x p m h hr w hE hp
    | true =>
      by_cases hm : m < 0 ∨ 100 < m
      · exact messages_out x p m h hr hm w hE hp
      · by_cases hc : ckE p = 0
        · obtain ⟨n, rfl⟩ : ∃ n : Nat, m = (n : Int) := ⟨m.toNat, by omega⟩
          exact messages_ok x p n h hr hm hc w hE hp
        · exact messages_bad x p m h hr hm hc w hE hp
end Go.Proofs.YtahbbojhdkillaaDoor
