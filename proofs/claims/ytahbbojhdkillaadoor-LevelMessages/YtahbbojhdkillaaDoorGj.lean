/- Layer 9: walks of the reference's met, Sender, Auth. -/
import Derived.Test.YtahbbojhdkillaaDoorGg
namespace Go.Proofs.YtahbbojhdkillaaDoor
open Go.RowKit Go.Shelf

/-- A reference's pattern in its box. -/
structure Bf9 (w : World) (x : Sl) (p : Pt) (wr : World) : Prop where
  bx : wr.heap[w.heap.size]? = some (.cells #[.string ⟨p.nm.toArray⟩, .slice x.s0 p.p0.length x.c0, .slice x.s1 p.p1.length x.c1, .slice x.s2 p.ms.length x.c2] 43 (0, 0))
  bel : Below w.heap.size w wr
theorem Bf9.keep {w : World} {x : Sl} {p : Pt} {wr wx : World} (h : Bf9 w x p wr) (hb : Below wr.heap.size wr wx) : Bf9 w x p wx := ⟨(hb.block _ (lt_of_heap h.bx)).trans h.bx, h.bel.trans (hb.mono h.bel.size)⟩
theorem Bf9.cells {w : World} {x : Sl} {p : Pt} {wr : World} (h : Bf9 w x p wr) : wr.cell? ⟨w.heap.size, 0, none⟩ = some (.string ⟨p.nm.toArray⟩) ∧ wr.cell? ⟨w.heap.size, 1, none⟩ = some (.slice x.s0 p.p0.length x.c0) ∧ wr.cell? ⟨w.heap.size, 2, none⟩ = some (.slice x.s1 p.p1.length x.c1) ∧ wr.cell? ⟨w.heap.size, 3, none⟩ = some (.slice x.s2 p.ms.length x.c2) ∧ w.heap.size < wr.heap.size := by
  obtain ⟨h0, h1, h2, h3, -⟩ := box4c h.bx
  exact ⟨h0, h1, h2, h3, lt_of_heap h.bx⟩
theorem bf9_new (w : World) (x : Sl) (p : Pt) : Bf9 w x p (w.alloc (.cells #[.string ⟨p.nm.toArray⟩, .slice x.s0 p.p0.length x.c0, .slice x.s1 p.p1.length x.c1, .slice x.s2 p.ms.length x.c2] 43)) := ⟨heap_alloc_new w _, (Below.refl _ _).alloc (Nat.le_refl _) _⟩
theorem natPos9 (v : Nat) : decide ((v : Int) > 0) = decide (0 < v) := by rw [Bool.eq_iff_iff]; simp
set_option maxRecDepth 100000 in
set_option maxHeartbeats 1000000 in
theorem rmet9_any (x : Sl) (p : Pt) (t : Int) (k : Nat) (hr : right p = true) (hk : k ≤ 1000) (w : World) (hp : PatA w x p) : Calls Tryd.prog 33 #[patV x p, .int .i64 t, .int .i64 k] w fun e w' => e = .returned (.bool (metB p t k)) ∧ Below w.heap.size w w' := by
  have HX := Lib.hid (bf9_new w x p)
  have HM := Lib.hid (fun wx (hb : Below w.heap.size w wx) => metN_any x p 2 t (k + 1) wx (hp.keep hb) hr (by omega))
  have hk2 : (k : Int) ≤ 1000 := by omega
  have hk1 : ((k + 1 : Nat) : Int) = (k : Int) + 1 := by omega
  rw [hk1] at HM
  unfold metB
  generalize met 2 t (flat (p.ms.take (k + 1))) = v at HM ⊢
  have HV := Lib.hid (natPos9 v)
  clear hp hr hk1 hk
  unfold patV at HM ⊢
  go_enter Tryd.func33, Tryd.ntmps33
  go_wp2_with fail
  go_at_call 45
  refine (HM.out _ HX.out.bel).mono ?_
  rintro e w1 ⟨rfl, hb1⟩
  have HX1 := Lib.hid (HX.out.keep hb1)
  clear hb1
  go_wp2_with fail
  go_ret
  exact ⟨by rw [← HV.out]; rfl, HX1.out.bel⟩
set_option maxRecDepth 100000 in
set_option maxHeartbeats 1000000 in
theorem rsdr_any (x : Sl) (p : Pt) (k : Nat) (hr : right p = true) (w : World) (hp : PatA w x p) : Calls Tryd.prog 31 #[patV x p, .int .i64 k] w fun e w' => e = .returned (.int .i64 (sdR p k)) ∧ Below w.heap.size w w' := by
  have hl := right_len hr
  have hfr := fr01 hr (i := 0) (by omega)
  obtain ⟨g, o, sx, cx, es, m0, -⟩ := frAt hp 0 (by omega)
  simp only [Nat.zero_mul, Nat.add_zero] at m0
  have lg := World.block_lt_of_cell? _ _ m0
  simp only at lg
  obtain ⟨nm, p0, p1, ms⟩ := p
  obtain ⟨s0, c0, s1, c1, s2, c2⟩ := x
  simp only at es hl m0 hfr
  subst es
  have hl6 : (ms.length : Int) ≤ 6 := by omega
  have hl1 : (0 : Int) < ms.length := by omega
  have hkt : (k : Int).tmod 2 = (k : Int) % 2 := Int.tmod_eq_emod_of_nonneg (by omega)
  have hk0 : (0 : Int) ≤ k := by omega
  have HB : Hid (∀ o, Below w.heap.size w (w.alloc o)) := Lib.hid (fun o => (Below.refl _ _).alloc (Nat.le_refl _) o)
  unfold patV
  by_cases h1 : ms.length = 1
  · have hv : sdR ⟨nm, p0, p1, ms⟩ k = (ms.getD 0 default).fr := by unfold sdR; rw [if_pos (Or.inl h1)]
    rw [hv]
    have hb : ((ms.length : Int) == 1) = true := by simp [h1]
    generalize (ms.getD 0 default).fr = fr at m0 hfr ⊢
    generalize ms.length = n at *
    clear hv hr hp h1 hl
    simp only
    go_enter Tryd.func31, Tryd.ntmps31
    go_wp2_with fail
    go_ret
    exact ⟨rfl, HB.out _⟩
  · have hb : ((ms.length : Int) == 1) = false := by simp; omega
    by_cases h2 : k % 2 = 0
    · have hv : sdR ⟨nm, p0, p1, ms⟩ k = (ms.getD 0 default).fr := by unfold sdR; rw [if_pos (Or.inr h2)]
      rw [hv]
      have hb2 : (((k : Int) % 2) == 0) = true := by simp; omega
      generalize (ms.getD 0 default).fr = fr at m0 hfr ⊢
      generalize ms.length = n at *
      clear hv hr hp h1 hl h2
      simp only
      go_enter Tryd.func31, Tryd.ntmps31
      go_wp2_with fail
      go_ret
      exact ⟨rfl, HB.out _⟩
    · have hv : sdR ⟨nm, p0, p1, ms⟩ k = 1 - (ms.getD 0 default).fr := by unfold sdR; rw [if_neg (by simp only [not_or]; exact ⟨h1, h2⟩)]
      rw [hv]
      have hb2 : (((k : Int) % 2) == 0) = false := by simp; omega
      generalize (ms.getD 0 default).fr = fr at m0 hfr ⊢
      generalize ms.length = n at *
      clear hv hr hp h1 hl h2
      simp only
      rcases hfr with rfl | rfl
      all_goals
        go_enter Tryd.func31, Tryd.ntmps31
        go_wp2_with fail
        go_ret
        exact ⟨rfl, HB.out _⟩
set_option maxRecDepth 100000 in
set_option maxHeartbeats 1000000 in
theorem rau_any (x : Sl) (p : Pt) (k : Nat) (hr : right p = true) (hk : k ≤ 1000) (w : World) (hp : PatA w x p) : Calls Tryd.prog 32 #[patV x p, .int .i64 k] w fun e w' => e = .returned (.int .i64 (auR p k)) ∧ Below w.heap.size w w' := by
  have HX := Lib.hid (bf9_new w x p)
  have HS := Lib.hid (fun wx (hb : Below w.heap.size w wx) => rsdr_any x p k hr wx (hp.keep hb))
  have HM := Lib.hid (fun t wx (hb : Below w.heap.size w wx) => rmet9_any x p t k hr hk wx (hp.keep hb))
  have hs := sdR_role hr k
  obtain ⟨b0, b1, b2, b3, lb⟩ := HX.out.cells
  have HM6 := Lib.hid (HM.out 6)
  unfold auR
  generalize metB p 6 k = v6 at HM6 ⊢
  generalize sdR p k = sd at HS hs ⊢
  clear hp hr hk
  rcases hs with rfl | rfl
  · have HM5 := Lib.hid (HM.out 5)
    rw [show (if (0 : Int) = 1 then (4 : Int) else 5) = 5 from rfl]
    generalize metB p 5 k = v5 at HM5 ⊢
    clear HM
    unfold patV at HS HM5 HM6 ⊢
    go_enter Tryd.func32, Tryd.ntmps32
    go_wp2_with fail
    go_at_call 31
    refine (HS.out _ HX.out.bel).mono ?_
    rintro e w1 ⟨rfl, hb1⟩
    have HX1 := Lib.hid (HX.out.keep hb1)
    clear hb1 b0 b1 b2 b3 lb
    obtain ⟨b0, b1, b2, b3, lb⟩ := HX1.out.cells
    go_wp2_with fail
    go_at_call 33
    refine (HM5.out _ HX1.out.bel).mono ?_
    rintro e w2 ⟨rfl, hb2⟩
    have HX2 := Lib.hid (HX1.out.keep hb2)
    clear hb2 b0 b1 b2 b3 lb
    obtain ⟨b0, b1, b2, b3, lb⟩ := HX2.out.cells
    cases v5 with
    | true =>
      go_wp2_with fail
      go_ret
      exact ⟨rfl, HX2.out.bel⟩
    | false =>
      go_wp2_with fail
      go_at_call 33
      refine (HM6.out _ HX2.out.bel).mono ?_
      rintro e w3 ⟨rfl, hb3⟩
      have HX3 := Lib.hid (HX2.out.keep hb3)
      clear hb3
      cases v6
      all_goals
        go_wp2_with fail
        go_ret
        exact ⟨rfl, HX3.out.bel⟩
  · have HM5 := Lib.hid (HM.out 4)
    rw [show (if (1 : Int) = 1 then (4 : Int) else 5) = 4 from rfl]
    generalize metB p 4 k = v5 at HM5 ⊢
    clear HM
    unfold patV at HS HM5 HM6 ⊢
    go_enter Tryd.func32, Tryd.ntmps32
    go_wp2_with fail
    go_at_call 31
    refine (HS.out _ HX.out.bel).mono ?_
    rintro e w1 ⟨rfl, hb1⟩
    have HX1 := Lib.hid (HX.out.keep hb1)
    clear hb1 b0 b1 b2 b3 lb
    obtain ⟨b0, b1, b2, b3, lb⟩ := HX1.out.cells
    go_wp2_with fail
    go_at_call 33
    refine (HM5.out _ HX1.out.bel).mono ?_
    rintro e w2 ⟨rfl, hb2⟩
    have HX2 := Lib.hid (HX1.out.keep hb2)
    clear hb2 b0 b1 b2 b3 lb
    obtain ⟨b0, b1, b2, b3, lb⟩ := HX2.out.cells
    cases v5 with
    | true =>
      go_wp2_with fail
      go_ret
      exact ⟨rfl, HX2.out.bel⟩
    | false =>
      go_wp2_with fail
      go_at_call 33
      refine (HM6.out _ HX2.out.bel).mono ?_
      rintro e w3 ⟨rfl, hb3⟩
      have HX3 := Lib.hid (HX2.out.keep hb3)
      clear hb3
      cases v6
      all_goals
        go_wp2_with fail
        go_ret
        exact ⟨rfl, HX3.out.bel⟩
end Go.Proofs.YtahbbojhdkillaaDoor
