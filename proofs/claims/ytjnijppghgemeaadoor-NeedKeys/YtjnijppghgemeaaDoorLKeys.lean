/- Layer 8: the law NeedKeys. -/
import Derived.Test.YtjnijppghgemeaaDoorDf
import Derived.Test.YtjnijppghgemeaaDoorCp
import Derived.Test.YtjnijppghgemeaaDoorNd
namespace Go.Proofs.YtjnijppghgemeaaDoor
open Go.RowKit Go.Shelf

/-- A pattern, what is needed for it, and the reference's pattern, in a law's boxes. -/
structure Bk3 (w : World) (x y : Sl) (p : Pt) (kb qb : Nat) (k : Kq) (wr : World) : Prop where
  bx : Bx w w.heap.size x p wr
  k : wr.heap[kb]? = some (.cells #[.bool k.s, .bool k.e, .bool k.rs, .bool k.re, .int .i64 k.n] 30 (0, 0))
  q : wr.heap[qb]? = some (.cells #[.string ⟨p.nm.toArray⟩, .slice y.s0 p.p0.length y.c0, .slice y.s1 p.p1.length y.c1, .slice y.s2 p.ms.length y.c2] 36 (0, 0))
  pa : PatA wr y p
theorem Bk3.keep {w : World} {x y : Sl} {p : Pt} {kb qb : Nat} {k : Kq} {wr wx : World} (h : Bk3 w x y p kb qb k wr) (hb : Below wr.heap.size wr wx) : Bk3 w x y p kb qb k wx :=
  ⟨h.bx.keep hb, (hb.block _ (lt_of_heap h.k)).trans h.k, (hb.block _ (lt_of_heap h.q)).trans h.q, h.pa.keep hb⟩
theorem few_len {p : Pt} (h : fewB p = true) : p.ms.length ≤ 65536 := by
  simp only [fewB, Bool.and_eq_true, decide_eq_true_eq] at h
  omega
theorem ckE_13 {p : Pt} (h : right p = true) (he : ¬ ckE p = 0) : ckE p = 13 := by
  unfold ckE at he ⊢
  rw [if_pos h] at he ⊢
  by_cases h2 : (ck p).1 = 0
  · rw [if_pos h2] at he; exact absurd rfl he
  · rw [if_neg h2]
set_option maxRecDepth 100000 in
set_option maxHeartbeats 4000000 in
theorem keys_good (x : Sl) (p : Pt) (r : Int) (w : World) (hE : Ev w) (hp : PatA w x p) : Calls Tryd.prog 3 #[patV x p, .int .i64 r] w fun e w' => e = .returned (.bool true) ∧ Below w.heap.size w w' := by
  have HA := Lib.hid (fun wx (hb : Below w.heap.size w wx) => awake8_any wx (hE.keep hb))
  have HF := Lib.hid (fun wx (hb : Below w.heap.size w wx) => few_any x p wx (hp.keep hb))
  have HO8 := Lib.hid (fun wx (hb : Below w.heap.size w wx) => of8_any x p r wx (hp.keep hb) (hE.ky.keep hb))
  have HW := Lib.hid (bx_new w x p)
  cases f1 : fewB p with
  | false =>
    rw [f1] at HF
    clear f1 HO8
    unfold patV at *
    go_enter Tryd.func3, Tryd.ntmps3
    go_wp2_with fail
    go_at_call 9
    refine (HF.out _ HW.out.bel).mono ?_
    rintro e w1 ⟨rfl, hb1⟩
    have HW1 := Lib.hid (HW.out.keep hb1)
    clear hb1
    go_wp2_with fail
    go_at_call 10
    refine (HA.out _ HW1.out.bel).mono ?_
    rintro e w2 ⟨rfl, hb2⟩
    have HW2 := Lib.hid (HW1.out.keep hb2)
    clear hb2
    go_wp2_with fail
    go_ret
    exact ⟨rfl, HW2.out.bel⟩
  | true =>
    have HOQ := Lib.hid (fun wx (hb : Below w.heap.size w wx) => of_any x p (few_len f1) wx (hp.keep hb))
    have hnl : p.nm.length ≤ 65536 := by
      have f2 := f1
      simp only [fewB, Bool.and_eq_true, decide_eq_true_eq] at f2; omega
    have HRR := Lib.hid (fun y wx (h : PatA wx y p) => rright_any y p wx h hnl (few_len f1))
    rw [f1] at HF
    clear f1 hE hp hnl
    by_cases h01 : r = 0 ∨ r = 1
    · cases hr : right p with
      | false =>
        have hz : kqP p r = zq ∧ kqE p r = 1 := by
          have e : kqE p r = 1 := by unfold kqE; rw [if_pos h01]; unfold ckE; rw [hr]; rfl
          refine ⟨?_, e⟩
          unfold kqP; rw [e]; rfl
        rw [hz.1, hz.2] at HO8
        rw [hr] at HRR
        clear hz hr
        unfold patV kqV zq at *
        rcases h01 with rfl | rfl
        all_goals
          go_enter Tryd.func3, Tryd.ntmps3
          go_wp2_with fail
          go_at_call 9
          refine (HF.out _ HW.out.bel).mono ?_
          rintro e w1 ⟨rfl, hb1⟩
          have HW1 := Lib.hid (HW.out.keep hb1)
          clear hb1
          obtain ⟨b0, b1, b2, b3⟩ := HW1.out.cells
          have lw := lt_of_heap HW1.out.bx
          go_wp2_with fail
          go_at_call 11
          refine (HO8.out _ HW1.out.bel).mono ?_
          rintro e w2 ⟨rfl, hb2⟩
          have hba := hb2.alloc hb2.size (.cells #[.bool false, .bool false, .bool false, .bool false, .int .i64 0] 30)
          have HW2 := Lib.hid (HW1.out.keep hba)
          have HK2 := Lib.hid (heap_alloc_new w2 (.cells #[.bool false, .bool false, .bool false, .bool false, .int .i64 0] 30))
          clear hb2 hba b0 b1 b2 b3 lw
          obtain ⟨b0, b1, b2, b3⟩ := HW2.out.cells
          have lw := lt_of_heap HW2.out.bx
          go_wp2_with fail
          go_at_call 12
          refine (HOQ.out _ HW2.out.bel).mono ?_
          rintro e w3 ⟨y, rfl, hy3, hb3⟩
          have hbq := hb3.alloc hb3.size (.cells #[.string ⟨p.nm.toArray⟩, .slice y.s0 p.p0.length y.c0, .slice y.s1 p.p1.length y.c1, .slice y.s2 p.ms.length y.c2] 36)
          have HN3 : Hid (Bk3 w x y p w2.heap.size w3.heap.size zq (w3.alloc (.cells #[.string ⟨p.nm.toArray⟩, .slice y.s0 p.p0.length y.c0, .slice y.s1 p.p1.length y.c1, .slice y.s2 p.ms.length y.c2] 36))) := Lib.hid ⟨HW2.out.keep hbq, (hbq.block _ (lt_of_heap HK2.out)).trans HK2.out, heap_alloc_new w3 _, hy3.keep ((Below.refl _ _).alloc (Nat.le_refl _) _)⟩
          clear hb3 hbq hy3 b0 b1 b2 b3 lw
          obtain ⟨k0, k1, k2, k3, k4, -⟩ := box5c HN3.out.k
          obtain ⟨q0, q1, q2, q3, -⟩ := box4c HN3.out.q
          obtain ⟨b0, b1, b2, b3⟩ := HN3.out.bx.cells
          have lk := lt_of_heap HN3.out.k
          have lq := lt_of_heap HN3.out.q
          have lw := lt_of_heap HN3.out.bx.bx
          go_wp2_with fail
          go_at_call 13
          refine (HRR.out _ _ HN3.out.pa).mono ?_
          rintro e w4 ⟨rfl, hb4⟩
          have HN4 := Lib.hid (HN3.out.keep hb4)
          clear hb4 k0 k1 k2 k3 k4 q0 q1 q2 q3 b0 b1 b2 b3 lk lq lw
          obtain ⟨k0, k1, k2, k3, k4, -⟩ := box5c HN4.out.k
          obtain ⟨q0, q1, q2, q3, -⟩ := box4c HN4.out.q
          obtain ⟨b0, b1, b2, b3⟩ := HN4.out.bx.cells
          have lk := lt_of_heap HN4.out.k
          have lq := lt_of_heap HN4.out.q
          have lw := lt_of_heap HN4.out.bx.bx
          go_wp2_with fail
          go_at_call 10
          refine (HA.out _ HN4.out.bx.bel).mono ?_
          rintro e w5 ⟨rfl, hb5⟩
          have HN5 := Lib.hid (HN4.out.keep hb5)
          clear hb5 k0 k1 k2 k3 k4 q0 q1 q2 q3 b0 b1 b2 b3 lk lq lw
          obtain ⟨k0, k1, k2, k3, k4, -⟩ := box5c HN5.out.k
          obtain ⟨q0, q1, q2, q3, -⟩ := box4c HN5.out.q
          obtain ⟨b0, b1, b2, b3⟩ := HN5.out.bx.cells
          have lk := lt_of_heap HN5.out.k
          have lq := lt_of_heap HN5.out.q
          have lw := lt_of_heap HN5.out.bx.bx
          go_wp2_with fail
          go_ret
          exact ⟨rfl, HN5.out.bx.bel⟩
      | true =>
        have HCH := Lib.hid (fun y wx (h : PatA wx y p) => rcheck_any y p wx h hr)
        have HR8 := Lib.hid (fun y wx (h : PatA wx y p) => rof8_any y p r h01 wx h hr)
        rw [hr] at HRR
        have hrt := hr
        clear hr
        by_cases he : ckE p = 0
        · have hz : kqP p r = kq p r ∧ kqE p r = 0 := kqE_ok h01 he
          rw [hz.1, hz.2] at HO8
          rw [he] at HCH
          clear hz he hrt
          generalize kq p r = k at *
          generalize ckR p = u0 at HCH
          generalize ckI p = u1 at HCH
          have HOF := Lib.hid (fun wx => rof_any k wx)
          unfold patV kqV at *
          rcases h01 with rfl | rfl
          all_goals
            go_enter Tryd.func3, Tryd.ntmps3
            go_wp2_with fail
            go_at_call 9
            refine (HF.out _ HW.out.bel).mono ?_
            rintro e w1 ⟨rfl, hb1⟩
            have HW1 := Lib.hid (HW.out.keep hb1)
            clear hb1
            obtain ⟨b0, b1, b2, b3⟩ := HW1.out.cells
            have lw := lt_of_heap HW1.out.bx
            go_wp2_with fail
            go_at_call 11
            refine (HO8.out _ HW1.out.bel).mono ?_
            rintro e w2 ⟨rfl, hb2⟩
            have hba := hb2.alloc hb2.size (.cells #[.bool k.s, .bool k.e, .bool k.rs, .bool k.re, .int .i64 k.n] 30)
            have HW2 := Lib.hid (HW1.out.keep hba)
            have HK2 := Lib.hid (heap_alloc_new w2 (.cells #[.bool k.s, .bool k.e, .bool k.rs, .bool k.re, .int .i64 k.n] 30))
            clear hb2 hba b0 b1 b2 b3 lw
            obtain ⟨b0, b1, b2, b3⟩ := HW2.out.cells
            have lw := lt_of_heap HW2.out.bx
            go_wp2_with fail
            go_at_call 12
            refine (HOQ.out _ HW2.out.bel).mono ?_
            rintro e w3 ⟨y, rfl, hy3, hb3⟩
            have hbq := hb3.alloc hb3.size (.cells #[.string ⟨p.nm.toArray⟩, .slice y.s0 p.p0.length y.c0, .slice y.s1 p.p1.length y.c1, .slice y.s2 p.ms.length y.c2] 36)
            have HN3 : Hid (Bk3 w x y p w2.heap.size w3.heap.size k (w3.alloc (.cells #[.string ⟨p.nm.toArray⟩, .slice y.s0 p.p0.length y.c0, .slice y.s1 p.p1.length y.c1, .slice y.s2 p.ms.length y.c2] 36))) := Lib.hid ⟨HW2.out.keep hbq, (hbq.block _ (lt_of_heap HK2.out)).trans HK2.out, heap_alloc_new w3 _, hy3.keep ((Below.refl _ _).alloc (Nat.le_refl _) _)⟩
            clear hb3 hbq hy3 b0 b1 b2 b3 lw
            obtain ⟨k0, k1, k2, k3, k4, -⟩ := box5c HN3.out.k
            obtain ⟨q0, q1, q2, q3, -⟩ := box4c HN3.out.q
            obtain ⟨b0, b1, b2, b3⟩ := HN3.out.bx.cells
            have lk := lt_of_heap HN3.out.k
            have lq := lt_of_heap HN3.out.q
            have lw := lt_of_heap HN3.out.bx.bx
            go_wp2_with fail
            go_at_call 13
            refine (HRR.out _ _ HN3.out.pa).mono ?_
            rintro e w4 ⟨rfl, hb4⟩
            have HN4 := Lib.hid (HN3.out.keep hb4)
            clear hb4 k0 k1 k2 k3 k4 q0 q1 q2 q3 b0 b1 b2 b3 lk lq lw
            obtain ⟨k0, k1, k2, k3, k4, -⟩ := box5c HN4.out.k
            obtain ⟨q0, q1, q2, q3, -⟩ := box4c HN4.out.q
            obtain ⟨b0, b1, b2, b3⟩ := HN4.out.bx.cells
            have lk := lt_of_heap HN4.out.k
            have lq := lt_of_heap HN4.out.q
            have lw := lt_of_heap HN4.out.bx.bx
            go_wp2_with fail
            go_at_call 14
            refine (HCH.out _ _ HN4.out.pa).mono ?_
            rintro e w5 ⟨rfl, hb5⟩
            have HN5 := Lib.hid (HN4.out.keep hb5)
            clear hb5 k0 k1 k2 k3 k4 q0 q1 q2 q3 b0 b1 b2 b3 lk lq lw
            obtain ⟨k0, k1, k2, k3, k4, -⟩ := box5c HN5.out.k
            obtain ⟨q0, q1, q2, q3, -⟩ := box4c HN5.out.q
            obtain ⟨b0, b1, b2, b3⟩ := HN5.out.bx.cells
            have lk := lt_of_heap HN5.out.k
            have lq := lt_of_heap HN5.out.q
            have lw := lt_of_heap HN5.out.bx.bx
            go_wp2_with fail
            have HN6 := Lib.hid (HN5.out.keep (Below.refl _ _).drew)
            refine wp_region_noPanic ?_
            refine wp_region_held_drew (S := (fun w' => w'.cell? ⟨w2.heap.size, 0, none⟩ = some (.bool k.s) ∧ w'.cell? ⟨w2.heap.size, 1, none⟩ = some (.bool k.e) ∧ w'.cell? ⟨w2.heap.size, 2, none⟩ = some (.bool k.rs) ∧ w'.cell? ⟨w2.heap.size, 3, none⟩ = some (.bool k.re) ∧ w'.cell? ⟨w2.heap.size, 4, none⟩ = some (.int .i64 k.n) ∧ w'.cell? ⟨w3.heap.size, 0, none⟩ = some (.string ⟨p.nm.toArray⟩) ∧ w'.cell? ⟨w3.heap.size, 1, none⟩ = some (.slice y.s0 p.p0.length y.c0) ∧ w'.cell? ⟨w3.heap.size, 2, none⟩ = some (.slice y.s1 p.p1.length y.c1) ∧ w'.cell? ⟨w3.heap.size, 3, none⟩ = some (.slice y.s2 p.ms.length y.c2))) (by kernel_rfl) ?_ (fun hHeld => ?_)
            · ((try dsimp only); first | (go_simp; done) | (simp [*]; done))
            refine wpAnyH_take (i := 0) (v := ?_) rfl (by kernel_rfl) (by kernel_rfl) (by kernel_rfl) (fun _ _ _ h => h) (Or.inl ⟨by rfl, ?_⟩) (by assumption) ?_
            rotate_left
            · (intro w hSw; (try dsimp only at hSw); go_simp; try with_reducible rfl)
            try simp only [List.getElem_toArray, List.getElem_cons_zero, Act.put, List.setIfInBounds_toArray, List.set_cons_zero, List.set_cons_succ]
            refine wpAnyH_take (i := 2) (v := ?_) rfl (by kernel_rfl) (by kernel_rfl) (by kernel_rfl) (fun _ _ _ h => h) (Or.inl ⟨by rfl, ?_⟩) (by assumption) ?_
            rotate_left
            · (intro w hSw; (try dsimp only at hSw); go_simp; try with_reducible rfl)
            try simp only [List.getElem_toArray, List.getElem_cons_succ, List.getElem_cons_zero, Act.put, List.setIfInBounds_toArray, List.set_cons_zero, List.set_cons_succ]
            refine wpAnyH_take (i := 3) (v := ?_) rfl (by kernel_rfl) (by kernel_rfl) (by kernel_rfl) (fun _ _ _ h => h) (Or.inl ⟨by rfl, ?_⟩) (by assumption) ?_
            rotate_left
            · (intro w hSw; (try dsimp only at hSw); go_simp; try with_reducible rfl)
            try simp only [List.getElem_toArray, List.getElem_cons_succ, List.getElem_cons_zero, Act.put, List.setIfInBounds_toArray, List.set_cons_zero, List.set_cons_succ]
            refine wpAnyH_ready (rs := [1]) (by kernel_rfl) (by simp) ?_
            refine AllReadyH.cons rfl (fun K hK => ?_) AllReadyH.nil
            go_simp
            (refine (HOF.out _).mono ?_; rintro e v7 ⟨rfl, hb7⟩; have HN7 := Lib.hid (HN6.out.keep hb7); clear hb7 k0 k1 k2 k3 k4 q0 q1 q2 q3 b0 b1 b2 b3 lk lq lw; obtain ⟨k0, k1, k2, k3, k4, -⟩ := box5c HN7.out.k; obtain ⟨q0, q1, q2, q3, -⟩ := box4c HN7.out.q; obtain ⟨b0, b1, b2, b3⟩ := HN7.out.bx.cells; have lk := lt_of_heap HN7.out.k; have lq := lt_of_heap HN7.out.q; have lw := lt_of_heap HN7.out.bx.bx)
            go_wp2_with fail
            refine hK.out _ _ ?_ (fun hHeld => ?_)
            · ((try dsimp only); first | (go_simp; done) | (simp [*]; done))
            clear hK K
            try simp only [List.getElem_toArray, List.getElem_cons_succ, List.getElem_cons_zero, Act.put, List.setIfInBounds_toArray, List.set_cons_zero, List.set_cons_succ]
            refine wpAnyH_ready (rs := [4]) (by kernel_rfl) (by simp) ?_
            refine AllReadyH.cons rfl (fun K hK => ?_) AllReadyH.nil
            go_simp
            (refine (HR8.out _ _ HN7.out.pa).mono ?_; rintro e v8 ⟨rfl, hb8⟩; have HN8 := Lib.hid (HN7.out.keep hb8); clear hb8 k0 k1 k2 k3 k4 q0 q1 q2 q3 b0 b1 b2 b3 lk lq lw; obtain ⟨k0, k1, k2, k3, k4, -⟩ := box5c HN8.out.k; obtain ⟨q0, q1, q2, q3, -⟩ := box4c HN8.out.q; obtain ⟨b0, b1, b2, b3⟩ := HN8.out.bx.cells; have lk := lt_of_heap HN8.out.k; have lq := lt_of_heap HN8.out.q; have lw := lt_of_heap HN8.out.bx.bx)
            go_wp2_with fail
            refine hK.out _ _ ?_ (fun hHeld => ?_)
            · ((try dsimp only); first | (go_simp; done) | (simp [*]; done))
            clear hK K
            try simp only [List.getElem_toArray, List.getElem_cons_succ, List.getElem_cons_zero, Act.put, List.setIfInBounds_toArray, List.set_cons_zero, List.set_cons_succ]
            refine wpAnyH_take (i := 5) (v := ?_) rfl (by kernel_rfl) (by kernel_rfl) (by kernel_rfl) (fun _ _ _ h => h) (Or.inl ⟨by rfl, ?_⟩) (by assumption) ?_
            rotate_left
            · (intro w hSw; (try dsimp only at hSw); go_simp; try with_reducible rfl)
            try simp only [List.getElem_toArray, List.getElem_cons_succ, List.getElem_cons_zero, Act.put, List.setIfInBounds_toArray, List.set_cons_zero, List.set_cons_succ]
            refine wpAnyH_take (i := 6) (v := ?_) rfl (by kernel_rfl) (by kernel_rfl) (by kernel_rfl) (fun _ _ _ h => h) (Or.inl ⟨by rfl, ?_⟩) (by assumption) ?_
            rotate_left
            · (intro w hSw; (try dsimp only at hSw); go_simp; try with_reducible rfl)
            try simp only [List.getElem_toArray, List.getElem_cons_succ, List.getElem_cons_zero, Act.put, List.setIfInBounds_toArray, List.set_cons_zero, List.set_cons_succ]
            refine wpAnyH_take (i := 7) (v := ?_) rfl (by kernel_rfl) (by kernel_rfl) (by kernel_rfl) (fun _ _ _ h => h) (Or.inl ⟨by rfl, ?_⟩) (by assumption) ?_
            rotate_left
            · (intro w hSw; (try dsimp only at hSw); go_simp; try with_reducible rfl)
            try simp only [List.getElem_toArray, List.getElem_cons_succ, List.getElem_cons_zero, Act.put, List.setIfInBounds_toArray, List.set_cons_zero, List.set_cons_succ]
            refine wpAnyH_take (i := 8) (v := ?_) rfl (by kernel_rfl) (by kernel_rfl) (by kernel_rfl) (fun _ _ _ h => h) (Or.inl ⟨by rfl, ?_⟩) (by assumption) ?_
            rotate_left
            · (intro w hSw; (try dsimp only at hSw); go_simp; try with_reducible rfl)
            try simp only [List.getElem_toArray, List.getElem_cons_succ, List.getElem_cons_zero, Act.put, List.setIfInBounds_toArray, List.set_cons_zero, List.set_cons_succ]
            refine wpAnyH_take (i := 9) (v := ?_) rfl (by kernel_rfl) (by kernel_rfl) (by kernel_rfl) (fun _ _ _ h => h) (Or.inl ⟨by rfl, ?_⟩) (by assumption) ?_
            rotate_left
            · (intro w hSw; (try dsimp only at hSw); go_simp; try with_reducible rfl)
            try simp only [List.getElem_toArray, List.getElem_cons_succ, List.getElem_cons_zero, Act.put, List.setIfInBounds_toArray, List.set_cons_zero, List.set_cons_succ]
            refine wpAnyH_take (i := 10) (v := ?_) rfl (by kernel_rfl) (by kernel_rfl) (by kernel_rfl) (fun _ _ _ h => h) (Or.inl ⟨by rfl, ?_⟩) (by assumption) ?_
            rotate_left
            · (intro w hSw; (try dsimp only at hSw); go_simp; try with_reducible rfl)
            try simp only [List.getElem_toArray, List.getElem_cons_succ, List.getElem_cons_zero, Act.put, List.setIfInBounds_toArray, List.set_cons_zero, List.set_cons_succ]
            refine wpAnyH_ready (rs := [11]) (by kernel_rfl) (by simp) ?_
            refine AllReadyH.cons rfl (fun K hK => ?_) AllReadyH.nil
            go_simp
            (refine (HA.out _ HN8.out.bx.bel).mono ?_; rintro e v9 ⟨rfl, hb9⟩; have HN9 := Lib.hid (HN8.out.keep hb9); clear hb9 k0 k1 k2 k3 k4 q0 q1 q2 q3 b0 b1 b2 b3 lk lq lw; obtain ⟨k0, k1, k2, k3, k4, -⟩ := box5c HN9.out.k; obtain ⟨q0, q1, q2, q3, -⟩ := box4c HN9.out.q; obtain ⟨b0, b1, b2, b3⟩ := HN9.out.bx.cells; have lk := lt_of_heap HN9.out.k; have lq := lt_of_heap HN9.out.q; have lw := lt_of_heap HN9.out.bx.bx)
            go_wp2_with fail
            refine hK.out _ _ ?_ (fun hHeld => ?_)
            · ((try dsimp only); first | (go_simp; done) | (simp [*]; done))
            clear hK K
            try simp only [List.getElem_toArray, List.getElem_cons_succ, List.getElem_cons_zero, Act.put, List.setIfInBounds_toArray, List.set_cons_zero, List.set_cons_succ]
            refine wpAnyH_take (i := 12) (v := ?_) rfl (by kernel_rfl) (by kernel_rfl) (by kernel_rfl) (fun _ _ _ h => h) (Or.inl ⟨by rfl, ?_⟩) (by assumption) ?_
            rotate_left
            · (intro w hSw; (try dsimp only at hSw); go_simp; try with_reducible rfl)
            try simp only [List.getElem_toArray, List.getElem_cons_succ, List.getElem_cons_zero, Act.put, List.setIfInBounds_toArray, List.set_cons_zero, List.set_cons_succ]
            refine wpAnyH_take (i := 13) (v := ?_) rfl (by kernel_rfl) (by kernel_rfl) (by kernel_rfl) (fun _ _ _ h => h) (Or.inl ⟨by rfl, ?_⟩) (by assumption) ?_
            rotate_left
            · (intro w hSw; (try dsimp only at hSw); go_simp; try with_reducible rfl)
            try simp only [List.getElem_toArray, List.getElem_cons_succ, List.getElem_cons_zero, Act.put, List.setIfInBounds_toArray, List.set_cons_zero, List.set_cons_succ]
            refine wpAnyH_done (by kernel_rfl) ?_ _
            refine NoPanic.normal ?_
            go_wp2_with fail
            go_ret
            exact ⟨rfl, HN9.out.bx.bel⟩
        · have h13 := ckE_13 hrt he
          have hz : kqP p r = zq ∧ kqE p r = 13 := ⟨(kqE_bad h01 he).1, (kqE_bad h01 he).2.trans h13⟩
          rw [hz.1, hz.2] at HO8
          rw [h13] at HCH
          clear hz he h13 hrt HR8
          generalize ckR p = u0 at HCH
          generalize ckI p = u1 at HCH
          unfold patV kqV zq at *
          rcases h01 with rfl | rfl
          all_goals
            go_enter Tryd.func3, Tryd.ntmps3
            go_wp2_with fail
            go_at_call 9
            refine (HF.out _ HW.out.bel).mono ?_
            rintro e w1 ⟨rfl, hb1⟩
            have HW1 := Lib.hid (HW.out.keep hb1)
            clear hb1
            obtain ⟨b0, b1, b2, b3⟩ := HW1.out.cells
            have lw := lt_of_heap HW1.out.bx
            go_wp2_with fail
            go_at_call 11
            refine (HO8.out _ HW1.out.bel).mono ?_
            rintro e w2 ⟨rfl, hb2⟩
            have hba := hb2.alloc hb2.size (.cells #[.bool false, .bool false, .bool false, .bool false, .int .i64 0] 30)
            have HW2 := Lib.hid (HW1.out.keep hba)
            have HK2 := Lib.hid (heap_alloc_new w2 (.cells #[.bool false, .bool false, .bool false, .bool false, .int .i64 0] 30))
            clear hb2 hba b0 b1 b2 b3 lw
            obtain ⟨b0, b1, b2, b3⟩ := HW2.out.cells
            have lw := lt_of_heap HW2.out.bx
            go_wp2_with fail
            go_at_call 12
            refine (HOQ.out _ HW2.out.bel).mono ?_
            rintro e w3 ⟨y, rfl, hy3, hb3⟩
            have hbq := hb3.alloc hb3.size (.cells #[.string ⟨p.nm.toArray⟩, .slice y.s0 p.p0.length y.c0, .slice y.s1 p.p1.length y.c1, .slice y.s2 p.ms.length y.c2] 36)
            have HN3 : Hid (Bk3 w x y p w2.heap.size w3.heap.size zq (w3.alloc (.cells #[.string ⟨p.nm.toArray⟩, .slice y.s0 p.p0.length y.c0, .slice y.s1 p.p1.length y.c1, .slice y.s2 p.ms.length y.c2] 36))) := Lib.hid ⟨HW2.out.keep hbq, (hbq.block _ (lt_of_heap HK2.out)).trans HK2.out, heap_alloc_new w3 _, hy3.keep ((Below.refl _ _).alloc (Nat.le_refl _) _)⟩
            clear hb3 hbq hy3 b0 b1 b2 b3 lw
            obtain ⟨k0, k1, k2, k3, k4, -⟩ := box5c HN3.out.k
            obtain ⟨q0, q1, q2, q3, -⟩ := box4c HN3.out.q
            obtain ⟨b0, b1, b2, b3⟩ := HN3.out.bx.cells
            have lk := lt_of_heap HN3.out.k
            have lq := lt_of_heap HN3.out.q
            have lw := lt_of_heap HN3.out.bx.bx
            go_wp2_with fail
            go_at_call 13
            refine (HRR.out _ _ HN3.out.pa).mono ?_
            rintro e w4 ⟨rfl, hb4⟩
            have HN4 := Lib.hid (HN3.out.keep hb4)
            clear hb4 k0 k1 k2 k3 k4 q0 q1 q2 q3 b0 b1 b2 b3 lk lq lw
            obtain ⟨k0, k1, k2, k3, k4, -⟩ := box5c HN4.out.k
            obtain ⟨q0, q1, q2, q3, -⟩ := box4c HN4.out.q
            obtain ⟨b0, b1, b2, b3⟩ := HN4.out.bx.cells
            have lk := lt_of_heap HN4.out.k
            have lq := lt_of_heap HN4.out.q
            have lw := lt_of_heap HN4.out.bx.bx
            go_wp2_with fail
            go_at_call 14
            refine (HCH.out _ _ HN4.out.pa).mono ?_
            rintro e w5 ⟨rfl, hb5⟩
            have HN5 := Lib.hid (HN4.out.keep hb5)
            clear hb5 k0 k1 k2 k3 k4 q0 q1 q2 q3 b0 b1 b2 b3 lk lq lw
            obtain ⟨k0, k1, k2, k3, k4, -⟩ := box5c HN5.out.k
            obtain ⟨q0, q1, q2, q3, -⟩ := box4c HN5.out.q
            obtain ⟨b0, b1, b2, b3⟩ := HN5.out.bx.cells
            have lk := lt_of_heap HN5.out.k
            have lq := lt_of_heap HN5.out.q
            have lw := lt_of_heap HN5.out.bx.bx
            go_wp2_with fail
            go_at_call 10
            refine (HA.out _ HN5.out.bx.bel).mono ?_
            rintro e w6 ⟨rfl, hb6⟩
            have HN6 := Lib.hid (HN5.out.keep hb6)
            clear hb6 k0 k1 k2 k3 k4 q0 q1 q2 q3 b0 b1 b2 b3 lk lq lw
            obtain ⟨k0, k1, k2, k3, k4, -⟩ := box5c HN6.out.k
            obtain ⟨q0, q1, q2, q3, -⟩ := box4c HN6.out.q
            obtain ⟨b0, b1, b2, b3⟩ := HN6.out.bx.cells
            have lk := lt_of_heap HN6.out.k
            have lq := lt_of_heap HN6.out.q
            have lw := lt_of_heap HN6.out.bx.bx
            go_wp2_with fail
            go_ret
            exact ⟨rfl, HN6.out.bx.bel⟩
    · have h0 : ¬ r = 0 := fun e => h01 (.inl e)
      have h1 : ¬ r = 1 := fun e => h01 (.inr e)
      have hz := kqE_role (p := p) h0 h1
      rw [hz.1, hz.2] at HO8
      have h0b : (r != 0) = true := by simpa using h0
      have h1b : (r != 1) = true := by simpa using h1
      clear hz h0 h1 h01 HRR
      unfold patV kqV zq at *
      go_enter Tryd.func3, Tryd.ntmps3
      go_wp2_with fail
      go_at_call 9
      refine (HF.out _ HW.out.bel).mono ?_
      rintro e w1 ⟨rfl, hb1⟩
      have HW1 := Lib.hid (HW.out.keep hb1)
      clear hb1
      obtain ⟨b0, b1, b2, b3⟩ := HW1.out.cells
      have lw := lt_of_heap HW1.out.bx
      go_wp2_with fail
      go_at_call 11
      refine (HO8.out _ HW1.out.bel).mono ?_
      rintro e w2 ⟨rfl, hb2⟩
      have hba := hb2.alloc hb2.size (.cells #[.bool false, .bool false, .bool false, .bool false, .int .i64 0] 30)
      have HW2 := Lib.hid (HW1.out.keep hba)
      have HK2 := Lib.hid (heap_alloc_new w2 (.cells #[.bool false, .bool false, .bool false, .bool false, .int .i64 0] 30))
      clear hb2 hba b0 b1 b2 b3 lw
      obtain ⟨b0, b1, b2, b3⟩ := HW2.out.cells
      have lw := lt_of_heap HW2.out.bx
      go_wp2_with fail
      go_at_call 12
      refine (HOQ.out _ HW2.out.bel).mono ?_
      rintro e w3 ⟨y, rfl, hy3, hb3⟩
      have hbq := hb3.alloc hb3.size (.cells #[.string ⟨p.nm.toArray⟩, .slice y.s0 p.p0.length y.c0, .slice y.s1 p.p1.length y.c1, .slice y.s2 p.ms.length y.c2] 36)
      have HN3 : Hid (Bk3 w x y p w2.heap.size w3.heap.size zq (w3.alloc (.cells #[.string ⟨p.nm.toArray⟩, .slice y.s0 p.p0.length y.c0, .slice y.s1 p.p1.length y.c1, .slice y.s2 p.ms.length y.c2] 36))) := Lib.hid ⟨HW2.out.keep hbq, (hbq.block _ (lt_of_heap HK2.out)).trans HK2.out, heap_alloc_new w3 _, hy3.keep ((Below.refl _ _).alloc (Nat.le_refl _) _)⟩
      clear hb3 hbq hy3 b0 b1 b2 b3 lw
      obtain ⟨k0, k1, k2, k3, k4, -⟩ := box5c HN3.out.k
      obtain ⟨q0, q1, q2, q3, -⟩ := box4c HN3.out.q
      obtain ⟨b0, b1, b2, b3⟩ := HN3.out.bx.cells
      have lk := lt_of_heap HN3.out.k
      have lq := lt_of_heap HN3.out.q
      have lw := lt_of_heap HN3.out.bx.bx
      go_wp2_with fail
      go_at_call 10
      refine (HA.out _ HN3.out.bx.bel).mono ?_
      rintro e w4 ⟨rfl, hb4⟩
      have HN4 := Lib.hid (HN3.out.keep hb4)
      clear hb4 k0 k1 k2 k3 k4 q0 q1 q2 q3 b0 b1 b2 b3 lk lq lw
      obtain ⟨k0, k1, k2, k3, k4, -⟩ := box5c HN4.out.k
      obtain ⟨q0, q1, q2, q3, -⟩ := box4c HN4.out.q
      obtain ⟨b0, b1, b2, b3⟩ := HN4.out.bx.cells
      have lk := lt_of_heap HN4.out.k
      have lq := lt_of_heap HN4.out.q
      have lw := lt_of_heap HN4.out.bx.bx
      go_wp2_with fail
      go_ret
      exact ⟨rfl, HN4.out.bx.bel⟩
end Go.Proofs.YtjnijppghgemeaaDoor
