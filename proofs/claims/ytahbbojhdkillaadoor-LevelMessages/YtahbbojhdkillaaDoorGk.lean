/- Layer 9: the walk of the reference's Of. -/
import Derived.Test.YtahbbojhdkillaaDoorGj
namespace Go.Proofs.YtahbbojhdkillaaDoor
open Go.RowKit Go.Shelf

theorem auR_range (p : Pt) (i : Nat) : 0 ≤ auR p i ∧ auR p i ≤ 2 := by unfold auR; split <;> (try split) <;> omega
theorem rcf_range (p : Pt) (k : Nat) : ∀ i, 3 ≤ rcf p k i ∧ rcf p k i ≤ 5
  | 0 => by simp [rcf]
  | i + 1 => by
    have := auR_range p i
    have := rcf_range p k i
    unfold rcf; split <;> omega
/-- The pattern in its box, the answer's box, and what is told so far in a third one. -/
structure Rq (w : World) (x : Sl) (p : Pt) (O : Nat) (u c : Int) (wr : World) : Prop where
  bf : Bf9 w x p wr
  res : wr.heap[w.heap.size + 1]? = some (.cells #[.int .i64 0, .int .i64 0] 48 (0, 0))
  out : wr.heap[O]? = some (.cells #[.int .i64 u, .int .i64 c] 48 (0, 0))
  hO : w.heap.size + 1 < O
theorem Rq.keep {w : World} {x : Sl} {p : Pt} {O : Nat} {u c : Int} {wr wx : World} (h : Rq w x p O u c wr) (hb : Below wr.heap.size wr wx) : Rq w x p O u c wx :=
  ⟨h.bf.keep hb, (hb.block _ (lt_of_heap h.res)).trans h.res, (hb.block _ (lt_of_heap h.out)).trans h.out, h.hO⟩
theorem Rq.set {w : World} {x : Sl} {p : Pt} {O : Nat} {u c : Int} {wr : World} (h : Rq w x p O u c wr) (c' : Int) : Rq w x p O u c' (wr.setCell ⟨O, 1, none⟩ (.int .i64 c')) := by
  have hO := h.hO
  refine ⟨⟨(Below.heap_setCell _ _ _ _ (by simp; omega)).trans h.bf.bx, h.bf.bel.setCell (by show w.heap.size ≤ O; omega) _⟩, (Below.heap_setCell _ _ _ _ (by simp; omega)).trans h.res, ?_, hO⟩
  have h2 := h.out
  simp only [World.setCell, Array.getElem?_modify, if_true, h2]
  rfl
theorem Rq.cells {w : World} {x : Sl} {p : Pt} {O : Nat} {u c : Int} {wr : World} (h : Rq w x p O u c wr) : wr.cell? ⟨O, 0, none⟩ = some (.int .i64 u) ∧ wr.cell? ⟨O, 1, none⟩ = some (.int .i64 c) ∧ wr.frozen? ⟨O, 1, none⟩ = false ∧ O < wr.heap.size := by
  obtain ⟨a, b, -, d⟩ := box2r h.out
  exact ⟨a, b, d, lt_of_heap h.out⟩
theorem Rq.rcells {w : World} {x : Sl} {p : Pt} {O : Nat} {u c : Int} {wr : World} (h : Rq w x p O u c wr) : wr.cell? ⟨w.heap.size + 1, 0, none⟩ = some (.int .i64 0) ∧ wr.cell? ⟨w.heap.size + 1, 1, none⟩ = some (.int .i64 0) ∧ wr.frozen? ⟨w.heap.size + 1, 0, none⟩ = false ∧ wr.frozen? ⟨w.heap.size + 1, 1, none⟩ = false ∧ w.heap.size + 1 < wr.heap.size := by
  obtain ⟨a, b, c, d⟩ := box2r h.res
  exact ⟨a, b, c, d, lt_of_heap h.res⟩
theorem to2_new (w : World) (x : Sl) (p : Pt) : Bf9 w x p ((w.alloc (.cells #[.string ⟨p.nm.toArray⟩, .slice x.s0 p.p0.length x.c0, .slice x.s1 p.p1.length x.c1, .slice x.s2 p.ms.length x.c2] 43)).alloc (.cells #[.int .i64 0, .int .i64 0] 48)) ∧ ((w.alloc (.cells #[.string ⟨p.nm.toArray⟩, .slice x.s0 p.p0.length x.c0, .slice x.s1 p.p1.length x.c1, .slice x.s2 p.ms.length x.c2] 43)).alloc (.cells #[.int .i64 0, .int .i64 0] 48)).heap[w.heap.size + 1]? = some (.cells #[.int .i64 0, .int .i64 0] 48 (0, 0)) := by
  refine ⟨(bf9_new w x p).keep ((Below.refl _ _).alloc (Nat.le_refl _) _), ?_⟩
  have := heap_alloc_new (w.alloc (.cells #[.string ⟨p.nm.toArray⟩, .slice x.s0 p.p0.length x.c0, .slice x.s1 p.p1.length x.c1, .slice x.s2 p.ms.length x.c2] 43)) (.cells #[.int .i64 0, .int .i64 0] 48)
  rwa [World.size_alloc] at this
theorem rq_new {w : World} {x : Sl} {p : Pt} {w4 : World} (h : Bf9 w x p w4) (hr : w4.heap[w.heap.size + 1]? = some (.cells #[.int .i64 0, .int .i64 0] 48 (0, 0))) (u : Int) : Rq w x p w4.heap.size u 0 (w4.alloc (.cells #[.int .i64 u, .int .i64 0] 48)) :=
  ⟨h.keep ((Below.refl _ _).alloc (Nat.le_refl _) _), by rw [Below.heap_alloc _ _ _ (lt_of_heap hr)]; exact hr, heap_alloc_new w4 _, lt_of_heap hr⟩
set_option maxRecDepth 100000 in
set_option maxHeartbeats 4000000 in
theorem rof9_any (x : Sl) (p : Pt) (k : Nat) (hr : right p = true) (hk : k ≤ 1000) (w : World) (hp : PatA w x p) : Calls Tryd.prog 19 #[patV x p, .int .i64 k] w fun e w' => e = .returned (.agg #[.int .i64 (auR p k), .int .i64 (cfR p k)]) ∧ Below w.heap.size w w' := by
  have HX := Lib.hid (bf9_new w x p)
  have HSI := Lib.hid (fun i wx (hb : Below w.heap.size w wx) => rsdr_any x p i hr wx (hp.keep hb))
  have HS := Lib.hid (HSI.out k)
  have HM := Lib.hid (fun t wx (hb : Below w.heap.size w wx) => rmet9_any x p t k hr hk wx (hp.keep hb))
  have HAI := Lib.hid (fun i hi wx (hb : Below w.heap.size w wx) => rau_any x p i hr hi wx (hp.keep hb))
  have HA := Lib.hid (HAI.out k hk)
  have HRR := Lib.hid (rcf_range p k)
  have HRC := Lib.hid (show ∀ i, rcf p k (i + 1) = if sdR p i ≠ sdR p k then 3 + auR p i else rcf p k i from fun i => rfl)
  have HAR := Lib.hid (fun i => auR_range p i)
  have HR0 : Hid (rcf p k 0 = 3) := Lib.hid rfl
  have HSR := Lib.hid (fun i => sdR_role hr i)
  obtain ⟨b0, b1, b2, b3, lb⟩ := HX.out.cells
  have hs := sdR_role hr k
  have HM3 := Lib.hid (HM.out 3)
  have HK := Lib.hid hk
  have hki : (k : Int) ≤ 1000 := by omega
  unfold cfR
  generalize metB p 3 k = v3 at HM3 ⊢
  obtain ⟨sd, hsd⟩ : ∃ sd, sd = sdR p k := ⟨_, rfl⟩
  rw [← hsd] at HS HRC hs ⊢
  generalize auR p k = u at HA ⊢
  clear hp hr hk hsd
  rcases hs with rfl | rfl
  · have HMS := Lib.hid (HM.out 4)
    rw [show (if (0 : Int) = 1 then (5 : Int) else 4) = 4 from rfl]
    generalize metB p 4 k = vs at HMS ⊢
    clear HM
    unfold patV at HSI HS HM3 HMS HAI HA ⊢
    have HR := Lib.hid (to2_new w x p)
    go_enter Tryd.func19, Tryd.ntmps19
    go_wp2_with fail
    go_at_call 31
    refine (HS.out _ HR.out.1.bel).mono ?_
    rintro e w3 ⟨rfl, hb3⟩
    have HR3 : Hid (Bf9 w x p w3 ∧ w3.heap[w.heap.size + 1]? = some (.cells #[.int .i64 0, .int .i64 0] 48 (0, 0))) := Lib.hid ⟨HR.out.1.keep hb3, (hb3.block _ (lt_of_heap HR.out.2)).trans HR.out.2⟩
    clear hb3 b0 b1 b2 b3 lb
    obtain ⟨b0, b1, b2, b3, lb⟩ := HR3.out.1.cells
    go_wp2_with fail
    go_at_call 32
    refine (HA.out _ HR3.out.1.bel).mono ?_
    rintro e w4 ⟨rfl, hb4⟩
    have h4 := HR3.out.1.keep hb4
    have HQ0 : Hid (Rq w x p w4.heap.size u 0 (w4.alloc (.cells #[.int .i64 u, .int .i64 0] 48))) := Lib.hid (rq_new h4 ((hb4.block _ (lt_of_heap HR3.out.2)).trans HR3.out.2) u)
    clear hb4 b0 b1 b2 b3 lb
    obtain ⟨b0, b1, b2, b3, lb⟩ := h4.cells
    have hO1 : w.heap.size ≠ w4.heap.size := by omega
    have hO2 : w.heap.size + 1 ≠ w4.heap.size := by have := HQ0.out.hO; omega
    have hO3 : w4.heap.size ≠ w.heap.size := by omega
    clear h4
    have o0 : True := trivial
    have o1 : True := trivial
    have o2 : True := trivial
    have ol : True := trivial
    go_wp2_with fail
    go_at_call 33
    refine (HM3.out _ HQ0.out.bf.bel).mono ?_
    rintro e w5 ⟨rfl, hb5⟩
    have HQ1 := Lib.hid (HQ0.out.keep hb5)
    clear hb5 b0 b1 b2 b3 lb o0 o1 o2 ol
    obtain ⟨b0, b1, b2, b3, lb⟩ := HQ1.out.bf.cells
    obtain ⟨o0, o1, o2, ol⟩ := HQ1.out.cells
    cases v3 with
    | true =>
      have HQ2 := Lib.hid (HQ1.out.set 1)
      go_wp2_with fail
      go_at_call 33
      refine (HMS.out _ HQ2.out.bf.bel).mono ?_
      rintro e w6 ⟨rfl, hb6⟩
      have HQ3 := Lib.hid (HQ2.out.keep hb6)
      clear hb6 b0 b1 b2 b3 lb o0 o1 o2 ol
      obtain ⟨b0, b1, b2, b3, lb⟩ := HQ3.out.bf.cells
      obtain ⟨o0, o1, o2, ol⟩ := HQ3.out.cells
      cases vs with
      | true =>
        have HQ4 := Lib.hid (HQ3.out.set 2)
        go_wp2_with fail
        go_at_call 33
        refine (HM3.out _ HQ4.out.bf.bel).mono ?_
        rintro e w7 ⟨rfl, hb7⟩
        have HQ5 := Lib.hid (HQ4.out.keep hb7)
        clear hb7 b0 b1 b2 b3 lb o0 o1 o2 ol
        obtain ⟨b0, b1, b2, b3, lb⟩ := HQ5.out.bf.cells
        obtain ⟨o0, o1, o2, ol⟩ := HQ5.out.cells
        go_wp2_with fail
        go_at_call 33
        refine (HMS.out _ HQ5.out.bf.bel).mono ?_
        rintro e w8 ⟨rfl, hb8⟩
        have HQ6 := Lib.hid (HQ5.out.keep hb8)
        clear hb8 b0 b1 b2 b3 lb o0 o1 o2 ol
        obtain ⟨b0, b1, b2, b3, lb⟩ := HQ6.out.bf.cells
        obtain ⟨o0, o1, o2, ol⟩ := HQ6.out.cells
        have HQ7 := Lib.hid (HQ6.out.set 3)
        go_wp2_with fail
        generalize hO : w4.heap.size = O at *
        clear hO
        go_loopg [7] k (fun q u7 wr => ∃ i : Nat, i + q = k ∧ u7 = .int .i64 i ∧ Aside (Rq w x p O u (rcf p k i) wr))
        case atStart => exact ⟨0, by omega, rfl, (show Aside _ from by rw [HR0.out]; exact HQ7.out)⟩
        case round =>
          obtain ⟨i, hiq, rfl, hq⟩ := hrel
          have HL := Lib.hid hq.out
          clear hq
          by_cases hlt : i < k
          · have hi2 : (i : Int) < k := by omega
            have hi3 : (i : Int) ≤ 1000 := by have := HK.out; omega
            have HSi := Lib.hid (HSI.out i)
            have HAi := Lib.hid (HAI.out i (by have := HK.out; omega))
            have HCi := Lib.hid (HRC.out i)
            have hsi := HSR.out i
            have hau := HAR.out i
            generalize auR p i = ai at HAi HCi hau
            generalize sdR p i = si at HSi HCi hsi
            have HL0 := Lib.hid (HL.out.keep (Below.refl _ _).drew)
            obtain ⟨hau0, hau2⟩ := hau
            obtain ⟨b0, b1, b2, b3, lb⟩ := HL.out.bf.cells
            rcases hsi with rfl | rfl
            · go_wp2_with fail
              refine wp_region_noPanic ?_
              refine wp_region_held_drew (S := (fun w' => w'.cell? ⟨w.heap.size, 0, none⟩ = some (.string ⟨p.nm.toArray⟩) ∧ w'.cell? ⟨w.heap.size, 1, none⟩ = some (.slice x.s0 p.p0.length x.c0) ∧ w'.cell? ⟨w.heap.size, 2, none⟩ = some (.slice x.s1 p.p1.length x.c1) ∧ w'.cell? ⟨w.heap.size, 3, none⟩ = some (.slice x.s2 p.ms.length x.c2))) (by kernel_rfl) ?_ (fun hHeld => ?_)
              · ((try dsimp only); first | (go_simp; done) | (simp [*]; done))
              refine wpAnyH_take (i := 0) (v := ?_) rfl (by kernel_rfl) (by kernel_rfl) (by kernel_rfl) (fun _ _ _ h => h) (Or.inl ⟨by rfl, ?_⟩) (by assumption) ?_
              rotate_left
              · (intro w hSw; (try dsimp only at hSw); go_simp; try with_reducible rfl)
              try simp only [List.getElem_toArray, List.getElem_cons_zero, Act.put, List.setIfInBounds_toArray, List.set_cons_zero, List.set_cons_succ]
              refine wpAnyH_take (i := 1) (v := ?_) rfl (by kernel_rfl) (by kernel_rfl) (by kernel_rfl) (fun _ _ _ h => h) (Or.inl ⟨by rfl, ?_⟩) (by assumption) ?_
              rotate_left
              · (intro w hSw; (try dsimp only at hSw); go_simp; try with_reducible rfl)
              try simp only [List.getElem_toArray, List.getElem_cons_succ, List.getElem_cons_zero, Act.put, List.setIfInBounds_toArray, List.set_cons_zero, List.set_cons_succ]
              refine wpAnyH_take (i := 3) (v := ?_) rfl (by kernel_rfl) (by kernel_rfl) (by kernel_rfl) (fun _ _ _ h => h) (Or.inl ⟨by rfl, ?_⟩) (by assumption) ?_
              rotate_left
              · (intro w hSw; (try dsimp only at hSw); go_simp; try with_reducible rfl)
              try simp only [List.getElem_toArray, List.getElem_cons_succ, List.getElem_cons_zero, Act.put, List.setIfInBounds_toArray, List.set_cons_zero, List.set_cons_succ]
              refine wpAnyH_take (i := 4) (v := ?_) rfl (by kernel_rfl) (by kernel_rfl) (by kernel_rfl) (fun _ _ _ h => h) (Or.inl ⟨by rfl, ?_⟩) (by assumption) ?_
              rotate_left
              · (intro w hSw; (try dsimp only at hSw); go_simp; try with_reducible rfl)
              try simp only [List.getElem_toArray, List.getElem_cons_succ, List.getElem_cons_zero, Act.put, List.setIfInBounds_toArray, List.set_cons_zero, List.set_cons_succ]
              refine wpAnyH_ready (rs := [2]) (by kernel_rfl) (by simp) ?_
              refine AllReadyH.cons rfl (fun K hK => ?_) AllReadyH.nil
              go_simp
              (refine (HSi.out _ HL0.out.bf.bel).mono ?_; rintro e wa ⟨rfl, hba⟩; have HL1 := Lib.hid (HL0.out.keep hba); clear hba; obtain ⟨y0, y1, y2, y3, ly⟩ := HL1.out.bf.cells)
              go_wp2_with fail
              refine hK.out _ _ ?_ (fun hHeld => ?_)
              · ((try dsimp only); first | (go_simp; done) | (simp [*]; done))
              clear hK K
              try simp only [List.getElem_toArray, List.getElem_cons_succ, List.getElem_cons_zero, Act.put, List.setIfInBounds_toArray, List.set_cons_zero, List.set_cons_succ]
              refine wpAnyH_ready (rs := [5]) (by kernel_rfl) (by simp) ?_
              refine AllReadyH.cons rfl (fun K hK => ?_) AllReadyH.nil
              go_simp
              (refine (HS.out _ HL1.out.bf.bel).mono ?_; rintro e wb ⟨rfl, hbb⟩; have HL2 := Lib.hid (HL1.out.keep hbb); clear hbb; obtain ⟨z0, z1, z2, z3, lz⟩ := HL2.out.bf.cells)
              go_wp2_with fail
              refine hK.out _ _ ?_ (fun hHeld => ?_)
              · ((try dsimp only); first | (go_simp; done) | (simp [*]; done))
              clear hK K
              try simp only [List.getElem_toArray, List.getElem_cons_succ, List.getElem_cons_zero, Act.put, List.setIfInBounds_toArray, List.set_cons_zero, List.set_cons_succ]
              refine wpAnyH_take (i := 6) (v := ?_) rfl (by kernel_rfl) (by kernel_rfl) (by kernel_rfl) (fun _ _ _ h => h) (Or.inl ⟨by rfl, ?_⟩) (by assumption) ?_
              rotate_left
              · (intro w hSw; (try dsimp only at hSw); go_simp; try with_reducible rfl)
              try simp only [List.getElem_toArray, List.getElem_cons_succ, List.getElem_cons_zero, Act.put, List.setIfInBounds_toArray, List.set_cons_zero, List.set_cons_succ]
              refine wpAnyH_done (by kernel_rfl) ?_ _
              refine NoPanic.normal ?_
              clear b0 b1 b2 b3 lb y0 y1 y2 y3 ly z0 z1 z2 z3 lz
              go_wp2_with fail
              go_roundg (k - (i + 1))
              case measure => omega
              case rel => exact ⟨i + 1, by omega, by go_num, (show Aside _ from by rw [HCi.out, if_neg (by decide)]; exact HL2.out)⟩
            · go_wp2_with fail
              refine wp_region_noPanic ?_
              refine wp_region_held_drew (S := (fun w' => w'.cell? ⟨w.heap.size, 0, none⟩ = some (.string ⟨p.nm.toArray⟩) ∧ w'.cell? ⟨w.heap.size, 1, none⟩ = some (.slice x.s0 p.p0.length x.c0) ∧ w'.cell? ⟨w.heap.size, 2, none⟩ = some (.slice x.s1 p.p1.length x.c1) ∧ w'.cell? ⟨w.heap.size, 3, none⟩ = some (.slice x.s2 p.ms.length x.c2))) (by kernel_rfl) ?_ (fun hHeld => ?_)
              · ((try dsimp only); first | (go_simp; done) | (simp [*]; done))
              refine wpAnyH_take (i := 0) (v := ?_) rfl (by kernel_rfl) (by kernel_rfl) (by kernel_rfl) (fun _ _ _ h => h) (Or.inl ⟨by rfl, ?_⟩) (by assumption) ?_
              rotate_left
              · (intro w hSw; (try dsimp only at hSw); go_simp; try with_reducible rfl)
              try simp only [List.getElem_toArray, List.getElem_cons_zero, Act.put, List.setIfInBounds_toArray, List.set_cons_zero, List.set_cons_succ]
              refine wpAnyH_take (i := 1) (v := ?_) rfl (by kernel_rfl) (by kernel_rfl) (by kernel_rfl) (fun _ _ _ h => h) (Or.inl ⟨by rfl, ?_⟩) (by assumption) ?_
              rotate_left
              · (intro w hSw; (try dsimp only at hSw); go_simp; try with_reducible rfl)
              try simp only [List.getElem_toArray, List.getElem_cons_succ, List.getElem_cons_zero, Act.put, List.setIfInBounds_toArray, List.set_cons_zero, List.set_cons_succ]
              refine wpAnyH_take (i := 3) (v := ?_) rfl (by kernel_rfl) (by kernel_rfl) (by kernel_rfl) (fun _ _ _ h => h) (Or.inl ⟨by rfl, ?_⟩) (by assumption) ?_
              rotate_left
              · (intro w hSw; (try dsimp only at hSw); go_simp; try with_reducible rfl)
              try simp only [List.getElem_toArray, List.getElem_cons_succ, List.getElem_cons_zero, Act.put, List.setIfInBounds_toArray, List.set_cons_zero, List.set_cons_succ]
              refine wpAnyH_take (i := 4) (v := ?_) rfl (by kernel_rfl) (by kernel_rfl) (by kernel_rfl) (fun _ _ _ h => h) (Or.inl ⟨by rfl, ?_⟩) (by assumption) ?_
              rotate_left
              · (intro w hSw; (try dsimp only at hSw); go_simp; try with_reducible rfl)
              try simp only [List.getElem_toArray, List.getElem_cons_succ, List.getElem_cons_zero, Act.put, List.setIfInBounds_toArray, List.set_cons_zero, List.set_cons_succ]
              refine wpAnyH_ready (rs := [2]) (by kernel_rfl) (by simp) ?_
              refine AllReadyH.cons rfl (fun K hK => ?_) AllReadyH.nil
              go_simp
              (refine (HSi.out _ HL0.out.bf.bel).mono ?_; rintro e wa ⟨rfl, hba⟩; have HL1 := Lib.hid (HL0.out.keep hba); clear hba; obtain ⟨y0, y1, y2, y3, ly⟩ := HL1.out.bf.cells)
              go_wp2_with fail
              refine hK.out _ _ ?_ (fun hHeld => ?_)
              · ((try dsimp only); first | (go_simp; done) | (simp [*]; done))
              clear hK K
              try simp only [List.getElem_toArray, List.getElem_cons_succ, List.getElem_cons_zero, Act.put, List.setIfInBounds_toArray, List.set_cons_zero, List.set_cons_succ]
              refine wpAnyH_ready (rs := [5]) (by kernel_rfl) (by simp) ?_
              refine AllReadyH.cons rfl (fun K hK => ?_) AllReadyH.nil
              go_simp
              (refine (HS.out _ HL1.out.bf.bel).mono ?_; rintro e wb ⟨rfl, hbb⟩; have HL2 := Lib.hid (HL1.out.keep hbb); clear hbb; obtain ⟨z0, z1, z2, z3, lz⟩ := HL2.out.bf.cells)
              go_wp2_with fail
              refine hK.out _ _ ?_ (fun hHeld => ?_)
              · ((try dsimp only); first | (go_simp; done) | (simp [*]; done))
              clear hK K
              try simp only [List.getElem_toArray, List.getElem_cons_succ, List.getElem_cons_zero, Act.put, List.setIfInBounds_toArray, List.set_cons_zero, List.set_cons_succ]
              refine wpAnyH_take (i := 6) (v := ?_) rfl (by kernel_rfl) (by kernel_rfl) (by kernel_rfl) (fun _ _ _ h => h) (Or.inl ⟨by rfl, ?_⟩) (by assumption) ?_
              rotate_left
              · (intro w hSw; (try dsimp only at hSw); go_simp; try with_reducible rfl)
              try simp only [List.getElem_toArray, List.getElem_cons_succ, List.getElem_cons_zero, Act.put, List.setIfInBounds_toArray, List.set_cons_zero, List.set_cons_succ]
              refine wpAnyH_done (by kernel_rfl) ?_ _
              refine NoPanic.normal ?_
              clear b0 b1 b2 b3 lb y0 y1 y2 y3 ly
              go_wp2_with fail
              go_at_call 32
              refine (HAi.out _ HL2.out.bf.bel).mono ?_
              rintro e wc ⟨rfl, hbc⟩
              have HL3 := Lib.hid (HL2.out.keep hbc)
              clear hbc z0 z1 z2 z3 lz
              obtain ⟨o0, o1, o2, ol⟩ := HL3.out.cells
              have HL4 := Lib.hid (HL3.out.set (3 + ai))
              go_wp2_with fail
              go_roundg (k - (i + 1))
              case measure => omega
              case rel => exact ⟨i + 1, by omega, by go_num, (show Aside _ from by rw [HCi.out, if_pos (by decide)]; exact HL4.out)⟩
          · have hi2 : ¬ (i : Int) < k := by omega
            obtain rfl : i = k := by omega
            obtain ⟨r0, r1, r2, r3, rl⟩ := HL.out.rcells
            obtain ⟨o0, o1, o2, ol⟩ := HL.out.cells
            have HV := Lib.hid HL.out
            go_wp2_with fail
            refine bodyPost_ret (v := .agg #[.int .i64 u, .int .i64 (rcf p i i)]) (by simp [results, Tryd.results19, go_sem, r0, r1]) rfl ?_
            exact ⟨rfl, (HL.out.bf.bel.setCell (Nat.le_succ _) _).setCell (Nat.le_succ _) _⟩
      | false =>
        go_wp2_with fail
        go_at_call 33
        refine (HM3.out _ HQ3.out.bf.bel).mono ?_
        rintro e w7 ⟨rfl, hb7⟩
        have HQ4 := Lib.hid (HQ3.out.keep hb7)
        clear hb7 b0 b1 b2 b3 lb o0 o1 o2 ol
        obtain ⟨b0, b1, b2, b3, lb⟩ := HQ4.out.bf.cells
        obtain ⟨o0, o1, o2, ol⟩ := HQ4.out.cells
        go_wp2_with fail
        go_at_call 33
        refine (HMS.out _ HQ4.out.bf.bel).mono ?_
        rintro e w8 ⟨rfl, hb8⟩
        have HQ5 := Lib.hid (HQ4.out.keep hb8)
        clear hb8 b0 b1 b2 b3 lb o0 o1 o2 ol
        obtain ⟨b0, b1, b2, b3, lb⟩ := HQ5.out.bf.cells
        obtain ⟨o0, o1, o2, ol⟩ := HQ5.out.cells
        obtain ⟨r0, r1, r2, r3, rl⟩ := HQ5.out.rcells
        obtain ⟨b0, b1, b2, b3, lb⟩ := HQ5.out.bf.cells
        obtain ⟨o0, o1, o2, ol⟩ := HQ5.out.cells
        go_wp2_with fail
        refine bodyPost_ret (v := .agg #[.int .i64 u, .int .i64 1]) (by simp [results, Tryd.results19, go_sem, r0, r1]) rfl ?_
        exact ⟨rfl, (HQ5.out.bf.bel.setCell (Nat.le_succ _) _).setCell (Nat.le_succ _) _⟩
    | false =>
      go_wp2_with fail
      go_at_call 33
      refine (HMS.out _ HQ1.out.bf.bel).mono ?_
      rintro e w6 ⟨rfl, hb6⟩
      have HQ2 := Lib.hid (HQ1.out.keep hb6)
      clear hb6 b0 b1 b2 b3 lb o0 o1 o2 ol
      obtain ⟨b0, b1, b2, b3, lb⟩ := HQ2.out.bf.cells
      obtain ⟨o0, o1, o2, ol⟩ := HQ2.out.cells
      cases vs with
      | true =>
        have HQ3 := Lib.hid (HQ2.out.set 2)
        go_wp2_with fail
        go_at_call 33
        refine (HM3.out _ HQ3.out.bf.bel).mono ?_
        rintro e w7 ⟨rfl, hb7⟩
        have HQ4 := Lib.hid (HQ3.out.keep hb7)
        clear hb7 b0 b1 b2 b3 lb o0 o1 o2 ol
        obtain ⟨b0, b1, b2, b3, lb⟩ := HQ4.out.bf.cells
        obtain ⟨o0, o1, o2, ol⟩ := HQ4.out.cells
        obtain ⟨r0, r1, r2, r3, rl⟩ := HQ4.out.rcells
        obtain ⟨b0, b1, b2, b3, lb⟩ := HQ4.out.bf.cells
        obtain ⟨o0, o1, o2, ol⟩ := HQ4.out.cells
        go_wp2_with fail
        refine bodyPost_ret (v := .agg #[.int .i64 u, .int .i64 2]) (by simp [results, Tryd.results19, go_sem, r0, r1]) rfl ?_
        exact ⟨rfl, (HQ4.out.bf.bel.setCell (Nat.le_succ _) _).setCell (Nat.le_succ _) _⟩
      | false =>
        go_wp2_with fail
        go_at_call 33
        refine (HM3.out _ HQ2.out.bf.bel).mono ?_
        rintro e w7 ⟨rfl, hb7⟩
        have HQ3 := Lib.hid (HQ2.out.keep hb7)
        clear hb7 b0 b1 b2 b3 lb o0 o1 o2 ol
        obtain ⟨b0, b1, b2, b3, lb⟩ := HQ3.out.bf.cells
        obtain ⟨o0, o1, o2, ol⟩ := HQ3.out.cells
        obtain ⟨r0, r1, r2, r3, rl⟩ := HQ3.out.rcells
        obtain ⟨b0, b1, b2, b3, lb⟩ := HQ3.out.bf.cells
        obtain ⟨o0, o1, o2, ol⟩ := HQ3.out.cells
        go_wp2_with fail
        refine bodyPost_ret (v := .agg #[.int .i64 u, .int .i64 0]) (by simp [results, Tryd.results19, go_sem, r0, r1]) rfl ?_
        exact ⟨rfl, (HQ3.out.bf.bel.setCell (Nat.le_succ _) _).setCell (Nat.le_succ _) _⟩
  · have HMS := Lib.hid (HM.out 5)
    rw [show (if (1 : Int) = 1 then (5 : Int) else 4) = 5 from rfl]
    generalize metB p 5 k = vs at HMS ⊢
    clear HM
    unfold patV at HSI HS HM3 HMS HAI HA ⊢
    have HR := Lib.hid (to2_new w x p)
    go_enter Tryd.func19, Tryd.ntmps19
    go_wp2_with fail
    go_at_call 31
    refine (HS.out _ HR.out.1.bel).mono ?_
    rintro e w3 ⟨rfl, hb3⟩
    have HR3 : Hid (Bf9 w x p w3 ∧ w3.heap[w.heap.size + 1]? = some (.cells #[.int .i64 0, .int .i64 0] 48 (0, 0))) := Lib.hid ⟨HR.out.1.keep hb3, (hb3.block _ (lt_of_heap HR.out.2)).trans HR.out.2⟩
    clear hb3 b0 b1 b2 b3 lb
    obtain ⟨b0, b1, b2, b3, lb⟩ := HR3.out.1.cells
    go_wp2_with fail
    go_at_call 32
    refine (HA.out _ HR3.out.1.bel).mono ?_
    rintro e w4 ⟨rfl, hb4⟩
    have h4 := HR3.out.1.keep hb4
    have HQ0 : Hid (Rq w x p w4.heap.size u 0 (w4.alloc (.cells #[.int .i64 u, .int .i64 0] 48))) := Lib.hid (rq_new h4 ((hb4.block _ (lt_of_heap HR3.out.2)).trans HR3.out.2) u)
    clear hb4 b0 b1 b2 b3 lb
    obtain ⟨b0, b1, b2, b3, lb⟩ := h4.cells
    have hO1 : w.heap.size ≠ w4.heap.size := by omega
    have hO2 : w.heap.size + 1 ≠ w4.heap.size := by have := HQ0.out.hO; omega
    have hO3 : w4.heap.size ≠ w.heap.size := by omega
    clear h4
    have o0 : True := trivial
    have o1 : True := trivial
    have o2 : True := trivial
    have ol : True := trivial
    go_wp2_with fail
    go_at_call 33
    refine (HM3.out _ HQ0.out.bf.bel).mono ?_
    rintro e w5 ⟨rfl, hb5⟩
    have HQ1 := Lib.hid (HQ0.out.keep hb5)
    clear hb5 b0 b1 b2 b3 lb o0 o1 o2 ol
    obtain ⟨b0, b1, b2, b3, lb⟩ := HQ1.out.bf.cells
    obtain ⟨o0, o1, o2, ol⟩ := HQ1.out.cells
    cases v3 with
    | true =>
      have HQ2 := Lib.hid (HQ1.out.set 1)
      go_wp2_with fail
      go_at_call 33
      refine (HMS.out _ HQ2.out.bf.bel).mono ?_
      rintro e w6 ⟨rfl, hb6⟩
      have HQ3 := Lib.hid (HQ2.out.keep hb6)
      clear hb6 b0 b1 b2 b3 lb o0 o1 o2 ol
      obtain ⟨b0, b1, b2, b3, lb⟩ := HQ3.out.bf.cells
      obtain ⟨o0, o1, o2, ol⟩ := HQ3.out.cells
      cases vs with
      | true =>
        have HQ4 := Lib.hid (HQ3.out.set 2)
        go_wp2_with fail
        go_at_call 33
        refine (HM3.out _ HQ4.out.bf.bel).mono ?_
        rintro e w7 ⟨rfl, hb7⟩
        have HQ5 := Lib.hid (HQ4.out.keep hb7)
        clear hb7 b0 b1 b2 b3 lb o0 o1 o2 ol
        obtain ⟨b0, b1, b2, b3, lb⟩ := HQ5.out.bf.cells
        obtain ⟨o0, o1, o2, ol⟩ := HQ5.out.cells
        go_wp2_with fail
        go_at_call 33
        refine (HMS.out _ HQ5.out.bf.bel).mono ?_
        rintro e w8 ⟨rfl, hb8⟩
        have HQ6 := Lib.hid (HQ5.out.keep hb8)
        clear hb8 b0 b1 b2 b3 lb o0 o1 o2 ol
        obtain ⟨b0, b1, b2, b3, lb⟩ := HQ6.out.bf.cells
        obtain ⟨o0, o1, o2, ol⟩ := HQ6.out.cells
        have HQ7 := Lib.hid (HQ6.out.set 3)
        go_wp2_with fail
        generalize hO : w4.heap.size = O at *
        clear hO
        go_loopg [7] k (fun q u7 wr => ∃ i : Nat, i + q = k ∧ u7 = .int .i64 i ∧ Aside (Rq w x p O u (rcf p k i) wr))
        case atStart => exact ⟨0, by omega, rfl, (show Aside _ from by rw [HR0.out]; exact HQ7.out)⟩
        case round =>
          obtain ⟨i, hiq, rfl, hq⟩ := hrel
          have HL := Lib.hid hq.out
          clear hq
          by_cases hlt : i < k
          · have hi2 : (i : Int) < k := by omega
            have hi3 : (i : Int) ≤ 1000 := by have := HK.out; omega
            have HSi := Lib.hid (HSI.out i)
            have HAi := Lib.hid (HAI.out i (by have := HK.out; omega))
            have HCi := Lib.hid (HRC.out i)
            have hsi := HSR.out i
            have hau := HAR.out i
            generalize auR p i = ai at HAi HCi hau
            generalize sdR p i = si at HSi HCi hsi
            have HL0 := Lib.hid (HL.out.keep (Below.refl _ _).drew)
            obtain ⟨hau0, hau2⟩ := hau
            obtain ⟨b0, b1, b2, b3, lb⟩ := HL.out.bf.cells
            rcases hsi with rfl | rfl
            · go_wp2_with fail
              refine wp_region_noPanic ?_
              refine wp_region_held_drew (S := (fun w' => w'.cell? ⟨w.heap.size, 0, none⟩ = some (.string ⟨p.nm.toArray⟩) ∧ w'.cell? ⟨w.heap.size, 1, none⟩ = some (.slice x.s0 p.p0.length x.c0) ∧ w'.cell? ⟨w.heap.size, 2, none⟩ = some (.slice x.s1 p.p1.length x.c1) ∧ w'.cell? ⟨w.heap.size, 3, none⟩ = some (.slice x.s2 p.ms.length x.c2))) (by kernel_rfl) ?_ (fun hHeld => ?_)
              · ((try dsimp only); first | (go_simp; done) | (simp [*]; done))
              refine wpAnyH_take (i := 0) (v := ?_) rfl (by kernel_rfl) (by kernel_rfl) (by kernel_rfl) (fun _ _ _ h => h) (Or.inl ⟨by rfl, ?_⟩) (by assumption) ?_
              rotate_left
              · (intro w hSw; (try dsimp only at hSw); go_simp; try with_reducible rfl)
              try simp only [List.getElem_toArray, List.getElem_cons_zero, Act.put, List.setIfInBounds_toArray, List.set_cons_zero, List.set_cons_succ]
              refine wpAnyH_take (i := 1) (v := ?_) rfl (by kernel_rfl) (by kernel_rfl) (by kernel_rfl) (fun _ _ _ h => h) (Or.inl ⟨by rfl, ?_⟩) (by assumption) ?_
              rotate_left
              · (intro w hSw; (try dsimp only at hSw); go_simp; try with_reducible rfl)
              try simp only [List.getElem_toArray, List.getElem_cons_succ, List.getElem_cons_zero, Act.put, List.setIfInBounds_toArray, List.set_cons_zero, List.set_cons_succ]
              refine wpAnyH_take (i := 3) (v := ?_) rfl (by kernel_rfl) (by kernel_rfl) (by kernel_rfl) (fun _ _ _ h => h) (Or.inl ⟨by rfl, ?_⟩) (by assumption) ?_
              rotate_left
              · (intro w hSw; (try dsimp only at hSw); go_simp; try with_reducible rfl)
              try simp only [List.getElem_toArray, List.getElem_cons_succ, List.getElem_cons_zero, Act.put, List.setIfInBounds_toArray, List.set_cons_zero, List.set_cons_succ]
              refine wpAnyH_take (i := 4) (v := ?_) rfl (by kernel_rfl) (by kernel_rfl) (by kernel_rfl) (fun _ _ _ h => h) (Or.inl ⟨by rfl, ?_⟩) (by assumption) ?_
              rotate_left
              · (intro w hSw; (try dsimp only at hSw); go_simp; try with_reducible rfl)
              try simp only [List.getElem_toArray, List.getElem_cons_succ, List.getElem_cons_zero, Act.put, List.setIfInBounds_toArray, List.set_cons_zero, List.set_cons_succ]
              refine wpAnyH_ready (rs := [2]) (by kernel_rfl) (by simp) ?_
              refine AllReadyH.cons rfl (fun K hK => ?_) AllReadyH.nil
              go_simp
              (refine (HSi.out _ HL0.out.bf.bel).mono ?_; rintro e wa ⟨rfl, hba⟩; have HL1 := Lib.hid (HL0.out.keep hba); clear hba; obtain ⟨y0, y1, y2, y3, ly⟩ := HL1.out.bf.cells)
              go_wp2_with fail
              refine hK.out _ _ ?_ (fun hHeld => ?_)
              · ((try dsimp only); first | (go_simp; done) | (simp [*]; done))
              clear hK K
              try simp only [List.getElem_toArray, List.getElem_cons_succ, List.getElem_cons_zero, Act.put, List.setIfInBounds_toArray, List.set_cons_zero, List.set_cons_succ]
              refine wpAnyH_ready (rs := [5]) (by kernel_rfl) (by simp) ?_
              refine AllReadyH.cons rfl (fun K hK => ?_) AllReadyH.nil
              go_simp
              (refine (HS.out _ HL1.out.bf.bel).mono ?_; rintro e wb ⟨rfl, hbb⟩; have HL2 := Lib.hid (HL1.out.keep hbb); clear hbb; obtain ⟨z0, z1, z2, z3, lz⟩ := HL2.out.bf.cells)
              go_wp2_with fail
              refine hK.out _ _ ?_ (fun hHeld => ?_)
              · ((try dsimp only); first | (go_simp; done) | (simp [*]; done))
              clear hK K
              try simp only [List.getElem_toArray, List.getElem_cons_succ, List.getElem_cons_zero, Act.put, List.setIfInBounds_toArray, List.set_cons_zero, List.set_cons_succ]
              refine wpAnyH_take (i := 6) (v := ?_) rfl (by kernel_rfl) (by kernel_rfl) (by kernel_rfl) (fun _ _ _ h => h) (Or.inl ⟨by rfl, ?_⟩) (by assumption) ?_
              rotate_left
              · (intro w hSw; (try dsimp only at hSw); go_simp; try with_reducible rfl)
              try simp only [List.getElem_toArray, List.getElem_cons_succ, List.getElem_cons_zero, Act.put, List.setIfInBounds_toArray, List.set_cons_zero, List.set_cons_succ]
              refine wpAnyH_done (by kernel_rfl) ?_ _
              refine NoPanic.normal ?_
              clear b0 b1 b2 b3 lb y0 y1 y2 y3 ly
              go_wp2_with fail
              go_at_call 32
              refine (HAi.out _ HL2.out.bf.bel).mono ?_
              rintro e wc ⟨rfl, hbc⟩
              have HL3 := Lib.hid (HL2.out.keep hbc)
              clear hbc z0 z1 z2 z3 lz
              obtain ⟨o0, o1, o2, ol⟩ := HL3.out.cells
              have HL4 := Lib.hid (HL3.out.set (3 + ai))
              go_wp2_with fail
              go_roundg (k - (i + 1))
              case measure => omega
              case rel => exact ⟨i + 1, by omega, by go_num, (show Aside _ from by rw [HCi.out, if_pos (by decide)]; exact HL4.out)⟩
            · go_wp2_with fail
              refine wp_region_noPanic ?_
              refine wp_region_held_drew (S := (fun w' => w'.cell? ⟨w.heap.size, 0, none⟩ = some (.string ⟨p.nm.toArray⟩) ∧ w'.cell? ⟨w.heap.size, 1, none⟩ = some (.slice x.s0 p.p0.length x.c0) ∧ w'.cell? ⟨w.heap.size, 2, none⟩ = some (.slice x.s1 p.p1.length x.c1) ∧ w'.cell? ⟨w.heap.size, 3, none⟩ = some (.slice x.s2 p.ms.length x.c2))) (by kernel_rfl) ?_ (fun hHeld => ?_)
              · ((try dsimp only); first | (go_simp; done) | (simp [*]; done))
              refine wpAnyH_take (i := 0) (v := ?_) rfl (by kernel_rfl) (by kernel_rfl) (by kernel_rfl) (fun _ _ _ h => h) (Or.inl ⟨by rfl, ?_⟩) (by assumption) ?_
              rotate_left
              · (intro w hSw; (try dsimp only at hSw); go_simp; try with_reducible rfl)
              try simp only [List.getElem_toArray, List.getElem_cons_zero, Act.put, List.setIfInBounds_toArray, List.set_cons_zero, List.set_cons_succ]
              refine wpAnyH_take (i := 1) (v := ?_) rfl (by kernel_rfl) (by kernel_rfl) (by kernel_rfl) (fun _ _ _ h => h) (Or.inl ⟨by rfl, ?_⟩) (by assumption) ?_
              rotate_left
              · (intro w hSw; (try dsimp only at hSw); go_simp; try with_reducible rfl)
              try simp only [List.getElem_toArray, List.getElem_cons_succ, List.getElem_cons_zero, Act.put, List.setIfInBounds_toArray, List.set_cons_zero, List.set_cons_succ]
              refine wpAnyH_take (i := 3) (v := ?_) rfl (by kernel_rfl) (by kernel_rfl) (by kernel_rfl) (fun _ _ _ h => h) (Or.inl ⟨by rfl, ?_⟩) (by assumption) ?_
              rotate_left
              · (intro w hSw; (try dsimp only at hSw); go_simp; try with_reducible rfl)
              try simp only [List.getElem_toArray, List.getElem_cons_succ, List.getElem_cons_zero, Act.put, List.setIfInBounds_toArray, List.set_cons_zero, List.set_cons_succ]
              refine wpAnyH_take (i := 4) (v := ?_) rfl (by kernel_rfl) (by kernel_rfl) (by kernel_rfl) (fun _ _ _ h => h) (Or.inl ⟨by rfl, ?_⟩) (by assumption) ?_
              rotate_left
              · (intro w hSw; (try dsimp only at hSw); go_simp; try with_reducible rfl)
              try simp only [List.getElem_toArray, List.getElem_cons_succ, List.getElem_cons_zero, Act.put, List.setIfInBounds_toArray, List.set_cons_zero, List.set_cons_succ]
              refine wpAnyH_ready (rs := [2]) (by kernel_rfl) (by simp) ?_
              refine AllReadyH.cons rfl (fun K hK => ?_) AllReadyH.nil
              go_simp
              (refine (HSi.out _ HL0.out.bf.bel).mono ?_; rintro e wa ⟨rfl, hba⟩; have HL1 := Lib.hid (HL0.out.keep hba); clear hba; obtain ⟨y0, y1, y2, y3, ly⟩ := HL1.out.bf.cells)
              go_wp2_with fail
              refine hK.out _ _ ?_ (fun hHeld => ?_)
              · ((try dsimp only); first | (go_simp; done) | (simp [*]; done))
              clear hK K
              try simp only [List.getElem_toArray, List.getElem_cons_succ, List.getElem_cons_zero, Act.put, List.setIfInBounds_toArray, List.set_cons_zero, List.set_cons_succ]
              refine wpAnyH_ready (rs := [5]) (by kernel_rfl) (by simp) ?_
              refine AllReadyH.cons rfl (fun K hK => ?_) AllReadyH.nil
              go_simp
              (refine (HS.out _ HL1.out.bf.bel).mono ?_; rintro e wb ⟨rfl, hbb⟩; have HL2 := Lib.hid (HL1.out.keep hbb); clear hbb; obtain ⟨z0, z1, z2, z3, lz⟩ := HL2.out.bf.cells)
              go_wp2_with fail
              refine hK.out _ _ ?_ (fun hHeld => ?_)
              · ((try dsimp only); first | (go_simp; done) | (simp [*]; done))
              clear hK K
              try simp only [List.getElem_toArray, List.getElem_cons_succ, List.getElem_cons_zero, Act.put, List.setIfInBounds_toArray, List.set_cons_zero, List.set_cons_succ]
              refine wpAnyH_take (i := 6) (v := ?_) rfl (by kernel_rfl) (by kernel_rfl) (by kernel_rfl) (fun _ _ _ h => h) (Or.inl ⟨by rfl, ?_⟩) (by assumption) ?_
              rotate_left
              · (intro w hSw; (try dsimp only at hSw); go_simp; try with_reducible rfl)
              try simp only [List.getElem_toArray, List.getElem_cons_succ, List.getElem_cons_zero, Act.put, List.setIfInBounds_toArray, List.set_cons_zero, List.set_cons_succ]
              refine wpAnyH_done (by kernel_rfl) ?_ _
              refine NoPanic.normal ?_
              clear b0 b1 b2 b3 lb y0 y1 y2 y3 ly z0 z1 z2 z3 lz
              go_wp2_with fail
              go_roundg (k - (i + 1))
              case measure => omega
              case rel => exact ⟨i + 1, by omega, by go_num, (show Aside _ from by rw [HCi.out, if_neg (by decide)]; exact HL2.out)⟩
          · have hi2 : ¬ (i : Int) < k := by omega
            obtain rfl : i = k := by omega
            obtain ⟨r0, r1, r2, r3, rl⟩ := HL.out.rcells
            obtain ⟨o0, o1, o2, ol⟩ := HL.out.cells
            have HV := Lib.hid HL.out
            go_wp2_with fail
            refine bodyPost_ret (v := .agg #[.int .i64 u, .int .i64 (rcf p i i)]) (by simp [results, Tryd.results19, go_sem, r0, r1]) rfl ?_
            exact ⟨rfl, (HL.out.bf.bel.setCell (Nat.le_succ _) _).setCell (Nat.le_succ _) _⟩
      | false =>
        go_wp2_with fail
        go_at_call 33
        refine (HM3.out _ HQ3.out.bf.bel).mono ?_
        rintro e w7 ⟨rfl, hb7⟩
        have HQ4 := Lib.hid (HQ3.out.keep hb7)
        clear hb7 b0 b1 b2 b3 lb o0 o1 o2 ol
        obtain ⟨b0, b1, b2, b3, lb⟩ := HQ4.out.bf.cells
        obtain ⟨o0, o1, o2, ol⟩ := HQ4.out.cells
        go_wp2_with fail
        go_at_call 33
        refine (HMS.out _ HQ4.out.bf.bel).mono ?_
        rintro e w8 ⟨rfl, hb8⟩
        have HQ5 := Lib.hid (HQ4.out.keep hb8)
        clear hb8 b0 b1 b2 b3 lb o0 o1 o2 ol
        obtain ⟨b0, b1, b2, b3, lb⟩ := HQ5.out.bf.cells
        obtain ⟨o0, o1, o2, ol⟩ := HQ5.out.cells
        obtain ⟨r0, r1, r2, r3, rl⟩ := HQ5.out.rcells
        obtain ⟨b0, b1, b2, b3, lb⟩ := HQ5.out.bf.cells
        obtain ⟨o0, o1, o2, ol⟩ := HQ5.out.cells
        go_wp2_with fail
        refine bodyPost_ret (v := .agg #[.int .i64 u, .int .i64 1]) (by simp [results, Tryd.results19, go_sem, r0, r1]) rfl ?_
        exact ⟨rfl, (HQ5.out.bf.bel.setCell (Nat.le_succ _) _).setCell (Nat.le_succ _) _⟩
    | false =>
      go_wp2_with fail
      go_at_call 33
      refine (HMS.out _ HQ1.out.bf.bel).mono ?_
      rintro e w6 ⟨rfl, hb6⟩
      have HQ2 := Lib.hid (HQ1.out.keep hb6)
      clear hb6 b0 b1 b2 b3 lb o0 o1 o2 ol
      obtain ⟨b0, b1, b2, b3, lb⟩ := HQ2.out.bf.cells
      obtain ⟨o0, o1, o2, ol⟩ := HQ2.out.cells
      cases vs with
      | true =>
        have HQ3 := Lib.hid (HQ2.out.set 2)
        go_wp2_with fail
        go_at_call 33
        refine (HM3.out _ HQ3.out.bf.bel).mono ?_
        rintro e w7 ⟨rfl, hb7⟩
        have HQ4 := Lib.hid (HQ3.out.keep hb7)
        clear hb7 b0 b1 b2 b3 lb o0 o1 o2 ol
        obtain ⟨b0, b1, b2, b3, lb⟩ := HQ4.out.bf.cells
        obtain ⟨o0, o1, o2, ol⟩ := HQ4.out.cells
        obtain ⟨r0, r1, r2, r3, rl⟩ := HQ4.out.rcells
        obtain ⟨b0, b1, b2, b3, lb⟩ := HQ4.out.bf.cells
        obtain ⟨o0, o1, o2, ol⟩ := HQ4.out.cells
        go_wp2_with fail
        refine bodyPost_ret (v := .agg #[.int .i64 u, .int .i64 2]) (by simp [results, Tryd.results19, go_sem, r0, r1]) rfl ?_
        exact ⟨rfl, (HQ4.out.bf.bel.setCell (Nat.le_succ _) _).setCell (Nat.le_succ _) _⟩
      | false =>
        go_wp2_with fail
        go_at_call 33
        refine (HM3.out _ HQ2.out.bf.bel).mono ?_
        rintro e w7 ⟨rfl, hb7⟩
        have HQ3 := Lib.hid (HQ2.out.keep hb7)
        clear hb7 b0 b1 b2 b3 lb o0 o1 o2 ol
        obtain ⟨b0, b1, b2, b3, lb⟩ := HQ3.out.bf.cells
        obtain ⟨o0, o1, o2, ol⟩ := HQ3.out.cells
        obtain ⟨r0, r1, r2, r3, rl⟩ := HQ3.out.rcells
        obtain ⟨b0, b1, b2, b3, lb⟩ := HQ3.out.bf.cells
        obtain ⟨o0, o1, o2, ol⟩ := HQ3.out.cells
        go_wp2_with fail
        refine bodyPost_ret (v := .agg #[.int .i64 u, .int .i64 0]) (by simp [results, Tryd.results19, go_sem, r0, r1]) rfl ?_
        exact ⟨rfl, (HQ3.out.bf.bel.setCell (Nat.le_succ _) _).setCell (Nat.le_succ _) _⟩
end Go.Proofs.YtahbbojhdkillaaDoor
