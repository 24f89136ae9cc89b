/- Layer 8: the laws NeedEnough and NeedLess. -/
import Derived.Test.YtjnijppghgemeaaDoorDf
namespace Go.Proofs.YtjnijppghgemeaaDoor
open Go.RowKit Go.Shelf

/-- Two sets of keys in a law's boxes. -/
structure B2 (w : World) (a b : Kq) (wr : World) : Prop where
  a : wr.heap[w.heap.size]? = some (.cells #[.bool a.s, .bool a.e, .bool a.rs, .bool a.re, .int .i64 a.n] 30 (0, 0))
  b : wr.heap[w.heap.size + 1]? = some (.cells #[.bool b.s, .bool b.e, .bool b.rs, .bool b.re, .int .i64 b.n] 30 (0, 0))
  bel : Below w.heap.size w wr
theorem B2.keep {w : World} {a b : Kq} {wr wx : World} (h : B2 w a b wr) (hb : Below wr.heap.size wr wx) : B2 w a b wx :=
  ⟨(hb.block _ (lt_of_heap h.a)).trans h.a, (hb.block _ (lt_of_heap h.b)).trans h.b, h.bel.trans (hb.mono h.bel.size)⟩
theorem b2_new (w : World) (a b : Kq) : B2 w a b ((w.alloc (.cells #[.bool a.s, .bool a.e, .bool a.rs, .bool a.re, .int .i64 a.n] 30)).alloc (.cells #[.bool b.s, .bool b.e, .bool b.rs, .bool b.re, .int .i64 b.n] 30)) := by
  refine ⟨?_, ?_, ((Below.refl _ _).alloc (Nat.le_refl _) _).alloc (by simp) _⟩
  · rw [Below.heap_alloc _ _ _ (by simp)]; exact heap_alloc_new w _
  · have := heap_alloc_new (w.alloc (.cells #[.bool a.s, .bool a.e, .bool a.rs, .bool a.re, .int .i64 a.n] 30)) (.cells #[.bool b.s, .bool b.e, .bool b.rs, .bool b.re, .int .i64 b.n] 30)
    rwa [World.size_alloc] at this
set_option maxRecDepth 100000 in
set_option maxHeartbeats 4000000 in
theorem enough_good (a b : Kq) (w : World) (hE : Ev w) : Calls Tryd.prog 4 #[kqV a, kqV b] w fun e w' => e = .returned (.bool true) ∧ Below w.heap.size w w' := by
  have HA := Lib.hid (fun wx (hb : Below w.heap.size w wx) => awake8_any wx (hE.keep hb))
  have HN := Lib.hid (b2_new w a b)
  have HEN := Lib.hid (fun wx => enough_any a b wx)
  have HEE := Lib.hid (fun wx => enough_any a a wx)
  rw [en_self] at HEE
  have HRE := Lib.hid (fun wx => renough_any a b wx)
  have HOA := Lib.hid (fun wx => rof_any a wx)
  have HOB := Lib.hid (fun wx => rof_any b wx)
  obtain ⟨v, hv⟩ : ∃ v, v = enB a b := ⟨_, rfl⟩
  rw [← hv] at HEN HRE
  clear hv hE
  unfold kqV at *
  obtain ⟨k0, k1, k2, k3, k4, -⟩ := box5c HN.out.a
  obtain ⟨l0, l1, l2, l3, l4, -⟩ := box5c HN.out.b
  have lk := lt_of_heap HN.out.a
  have ll := lt_of_heap HN.out.b
  have HN0 := Lib.hid (HN.out.keep (Below.refl _ _).drew)
  cases v
  all_goals
    go_enter Tryd.func4, Tryd.ntmps4
    go_wp2_with fail
    refine wp_region_noPanic ?_
    refine wp_region_held_drew (S := (fun w' => w'.cell? ⟨w.heap.size, 0, none⟩ = some (.bool a.s) ∧ w'.cell? ⟨w.heap.size, 1, none⟩ = some (.bool a.e) ∧ w'.cell? ⟨w.heap.size, 2, none⟩ = some (.bool a.rs) ∧ w'.cell? ⟨w.heap.size, 3, none⟩ = some (.bool a.re) ∧ w'.cell? ⟨w.heap.size, 4, none⟩ = some (.int .i64 a.n) ∧ w'.cell? ⟨w.heap.size + 1, 0, none⟩ = some (.bool b.s) ∧ w'.cell? ⟨w.heap.size + 1, 1, none⟩ = some (.bool b.e) ∧ w'.cell? ⟨w.heap.size + 1, 2, none⟩ = some (.bool b.rs) ∧ w'.cell? ⟨w.heap.size + 1, 3, none⟩ = some (.bool b.re) ∧ w'.cell? ⟨w.heap.size + 1, 4, none⟩ = some (.int .i64 b.n))) (by kernel_rfl) ?_ (fun hHeld => ?_)
    · ((try dsimp only); first | (go_simp; done) | (simp [*]; done))
    refine wpAnyH_take (i := 0) (v := ?_) rfl (by kernel_rfl) (by kernel_rfl) (by kernel_rfl) (fun _ _ _ h => h) (Or.inl ⟨by rfl, ?_⟩) (by assumption) ?_
    rotate_left
    · (intro w hSw; (try dsimp only at hSw); go_simp; try with_reducible rfl)
    try simp only [List.getElem_toArray, List.getElem_cons_succ, List.getElem_cons_zero, Act.put, List.setIfInBounds_toArray, List.set_cons_zero, List.set_cons_succ]
    refine wpAnyH_take (i := 1) (v := ?_) rfl (by kernel_rfl) (by kernel_rfl) (by kernel_rfl) (fun _ _ _ h => h) (Or.inl ⟨by rfl, ?_⟩) (by assumption) ?_
    rotate_left
    · (intro w hSw; (try dsimp only at hSw); go_simp; try with_reducible rfl)
    try simp only [List.getElem_toArray, List.getElem_cons_succ, List.getElem_cons_zero, Act.put, List.setIfInBounds_toArray, List.set_cons_zero, List.set_cons_succ]
    refine wpAnyH_take (i := 3) (v := ?_) rfl (by kernel_rfl) (by kernel_rfl) (by kernel_rfl) (fun _ _ _ h => h) (Or.inl ⟨by rfl, ?_⟩) (by assumption) ?_
    rotate_left
    · (intro w hSw; (try dsimp only at hSw); go_simp; try with_reducible rfl)
    try simp only [List.getElem_toArray, List.getElem_cons_succ, List.getElem_cons_zero, Act.put, List.setIfInBounds_toArray, List.set_cons_zero, List.set_cons_succ]
    refine wpAnyH_take (i := 5) (v := ?_) rfl (by kernel_rfl) (by kernel_rfl) (by kernel_rfl) (fun _ _ _ h => h) (Or.inl ⟨by rfl, ?_⟩) (by assumption) ?_
    rotate_left
    · (intro w hSw; (try dsimp only at hSw); go_simp; try with_reducible rfl)
    try simp only [List.getElem_toArray, List.getElem_cons_succ, List.getElem_cons_zero, Act.put, List.setIfInBounds_toArray, List.set_cons_zero, List.set_cons_succ]
    refine wpAnyH_ready (rs := [2]) (by kernel_rfl) (by simp) ?_
    refine AllReadyH.cons rfl (fun K hK => ?_) AllReadyH.nil
    go_simp
    (refine (HEN.out _).mono ?_; rintro e w1 ⟨rfl, hb1⟩; have HN1 := Lib.hid (HN0.out.keep hb1); clear hb1 k0 k1 k2 k3 k4 l0 l1 l2 l3 l4 lk ll; obtain ⟨k0, k1, k2, k3, k4, -⟩ := box5c HN1.out.a; obtain ⟨l0, l1, l2, l3, l4, -⟩ := box5c HN1.out.b; have lk := lt_of_heap HN1.out.a; have ll := lt_of_heap HN1.out.b)
    go_wp2_with fail
    refine hK.out _ _ ?_ (fun hHeld => ?_)
    · ((try dsimp only); first | (go_simp; done) | (simp [*]; done))
    clear hK K
    try simp only [List.getElem_toArray, List.getElem_cons_succ, List.getElem_cons_zero, Act.put, List.setIfInBounds_toArray, List.set_cons_zero, List.set_cons_succ]
    refine wpAnyH_ready (rs := [4]) (by kernel_rfl) (by simp) ?_
    refine AllReadyH.cons rfl (fun K hK => ?_) AllReadyH.nil
    go_simp
    (refine (HOA.out _).mono ?_; rintro e w2 ⟨rfl, hb2⟩; have HN2 := Lib.hid (HN1.out.keep hb2); clear hb2 k0 k1 k2 k3 k4 l0 l1 l2 l3 l4 lk ll; obtain ⟨k0, k1, k2, k3, k4, -⟩ := box5c HN2.out.a; obtain ⟨l0, l1, l2, l3, l4, -⟩ := box5c HN2.out.b; have lk := lt_of_heap HN2.out.a; have ll := lt_of_heap HN2.out.b)
    go_wp2_with fail
    refine hK.out _ _ ?_ (fun hHeld => ?_)
    · ((try dsimp only); first | (go_simp; done) | (simp [*]; done))
    clear hK K
    try simp only [List.getElem_toArray, List.getElem_cons_succ, List.getElem_cons_zero, Act.put, List.setIfInBounds_toArray, List.set_cons_zero, List.set_cons_succ]
    refine wpAnyH_ready (rs := [6]) (by kernel_rfl) (by simp) ?_
    refine AllReadyH.cons rfl (fun K hK => ?_) AllReadyH.nil
    go_simp
    (refine (HOB.out _).mono ?_; rintro e w3 ⟨rfl, hb3⟩; have HN3 := Lib.hid (HN2.out.keep hb3); clear hb3 k0 k1 k2 k3 k4 l0 l1 l2 l3 l4 lk ll; obtain ⟨k0, k1, k2, k3, k4, -⟩ := box5c HN3.out.a; obtain ⟨l0, l1, l2, l3, l4, -⟩ := box5c HN3.out.b; have lk := lt_of_heap HN3.out.a; have ll := lt_of_heap HN3.out.b)
    go_wp2_with fail
    refine hK.out _ _ ?_ (fun hHeld => ?_)
    · ((try dsimp only); first | (go_simp; done) | (simp [*]; done))
    clear hK K
    try simp only [List.getElem_toArray, List.getElem_cons_succ, List.getElem_cons_zero, Act.put, List.setIfInBounds_toArray, List.set_cons_zero, List.set_cons_succ]
    refine wpAnyH_ready (rs := [7]) (by kernel_rfl) (by simp) ?_
    refine AllReadyH.cons rfl (fun K hK => ?_) AllReadyH.nil
    go_simp
    (refine (HRE.out _).mono ?_; rintro e w4 ⟨rfl, hb4⟩; have HN4 := Lib.hid (HN3.out.keep hb4); clear hb4 k0 k1 k2 k3 k4 l0 l1 l2 l3 l4 lk ll; obtain ⟨k0, k1, k2, k3, k4, -⟩ := box5c HN4.out.a; obtain ⟨l0, l1, l2, l3, l4, -⟩ := box5c HN4.out.b; have lk := lt_of_heap HN4.out.a; have ll := lt_of_heap HN4.out.b)
    go_wp2_with fail
    refine hK.out _ _ ?_ (fun hHeld => ?_)
    · ((try dsimp only); first | (go_simp; done) | (simp [*]; done))
    clear hK K
    try simp only [List.getElem_toArray, List.getElem_cons_succ, List.getElem_cons_zero, Act.put, List.setIfInBounds_toArray, List.set_cons_zero, List.set_cons_succ]
    refine wpAnyH_take (i := 8) (v := ?_) rfl (by kernel_rfl) (by kernel_rfl) (by kernel_rfl) (fun _ _ _ h => h) (Or.inl ⟨by rfl, ?_⟩) (by assumption) ?_
    rotate_left
    · (intro w hSw; (try dsimp only at hSw); go_simp; try with_reducible rfl)
    try simp only [List.getElem_toArray, List.getElem_cons_succ, List.getElem_cons_zero, Act.put, List.setIfInBounds_toArray, List.set_cons_zero, List.set_cons_succ]
    refine wpAnyH_take (i := 9) (v := ?_) rfl (by kernel_rfl) (by kernel_rfl) (by kernel_rfl) (fun _ _ _ h => h) (Or.inl ⟨by rfl, ?_⟩) (by assumption) ?_
    rotate_left
    · (intro w hSw; (try dsimp only at hSw); go_simp; try with_reducible rfl)
    try simp only [List.getElem_toArray, List.getElem_cons_succ, List.getElem_cons_zero, Act.put, List.setIfInBounds_toArray, List.set_cons_zero, List.set_cons_succ]
    refine wpAnyH_take (i := 10) (v := ?_) rfl (by kernel_rfl) (by kernel_rfl) (by kernel_rfl) (fun _ _ _ h => h) (Or.inl ⟨by rfl, ?_⟩) (by assumption) ?_
    rotate_left
    · (intro w hSw; (try dsimp only at hSw); go_simp; try with_reducible rfl)
    try simp only [List.getElem_toArray, List.getElem_cons_succ, List.getElem_cons_zero, Act.put, List.setIfInBounds_toArray, List.set_cons_zero, List.set_cons_succ]
    refine wpAnyH_take (i := 11) (v := ?_) rfl (by kernel_rfl) (by kernel_rfl) (by kernel_rfl) (fun _ _ _ h => h) (Or.inl ⟨by rfl, ?_⟩) (by assumption) ?_
    rotate_left
    · (intro w hSw; (try dsimp only at hSw); go_simp; try with_reducible rfl)
    try simp only [List.getElem_toArray, List.getElem_cons_succ, List.getElem_cons_zero, Act.put, List.setIfInBounds_toArray, List.set_cons_zero, List.set_cons_succ]
    refine wpAnyH_ready (rs := [12]) (by kernel_rfl) (by simp) ?_
    refine AllReadyH.cons rfl (fun K hK => ?_) AllReadyH.nil
    go_simp
    (refine (HEE.out _).mono ?_; rintro e w5 ⟨rfl, hb5⟩; have HN5 := Lib.hid (HN4.out.keep hb5); clear hb5 k0 k1 k2 k3 k4 l0 l1 l2 l3 l4 lk ll; obtain ⟨k0, k1, k2, k3, k4, -⟩ := box5c HN5.out.a; obtain ⟨l0, l1, l2, l3, l4, -⟩ := box5c HN5.out.b; have lk := lt_of_heap HN5.out.a; have ll := lt_of_heap HN5.out.b)
    go_wp2_with fail
    refine hK.out _ _ ?_ (fun hHeld => ?_)
    · ((try dsimp only); first | (go_simp; done) | (simp [*]; done))
    clear hK K
    try simp only [List.getElem_toArray, List.getElem_cons_succ, List.getElem_cons_zero, Act.put, List.setIfInBounds_toArray, List.set_cons_zero, List.set_cons_succ]
    refine wpAnyH_take (i := 13) (v := ?_) rfl (by kernel_rfl) (by kernel_rfl) (by kernel_rfl) (fun _ _ _ h => h) (Or.inl ⟨by rfl, ?_⟩) (by assumption) ?_
    rotate_left
    · (intro w hSw; (try dsimp only at hSw); go_simp; try with_reducible rfl)
    try simp only [List.getElem_toArray, List.getElem_cons_succ, List.getElem_cons_zero, Act.put, List.setIfInBounds_toArray, List.set_cons_zero, List.set_cons_succ]
    refine wpAnyH_take (i := 14) (v := ?_) rfl (by kernel_rfl) (by kernel_rfl) (by kernel_rfl) (fun _ _ _ h => h) (Or.inl ⟨by rfl, ?_⟩) (by assumption) ?_
    rotate_left
    · (intro w hSw; (try dsimp only at hSw); go_simp; try with_reducible rfl)
    try simp only [List.getElem_toArray, List.getElem_cons_succ, List.getElem_cons_zero, Act.put, List.setIfInBounds_toArray, List.set_cons_zero, List.set_cons_succ]
    refine wpAnyH_ready (rs := [15]) (by kernel_rfl) (by simp) ?_
    refine AllReadyH.cons rfl (fun K hK => ?_) AllReadyH.nil
    go_simp
    (refine (HA.out _ HN5.out.bel).mono ?_; rintro e w6 ⟨rfl, hb6⟩; have HN6 := Lib.hid (HN5.out.keep hb6); clear hb6 k0 k1 k2 k3 k4 l0 l1 l2 l3 l4 lk ll; obtain ⟨k0, k1, k2, k3, k4, -⟩ := box5c HN6.out.a; obtain ⟨l0, l1, l2, l3, l4, -⟩ := box5c HN6.out.b; have lk := lt_of_heap HN6.out.a; have ll := lt_of_heap HN6.out.b)
    go_wp2_with fail
    refine hK.out _ _ ?_ (fun hHeld => ?_)
    · ((try dsimp only); first | (go_simp; done) | (simp [*]; done))
    clear hK K
    try simp only [List.getElem_toArray, List.getElem_cons_succ, List.getElem_cons_zero, Act.put, List.setIfInBounds_toArray, List.set_cons_zero, List.set_cons_succ]
    refine wpAnyH_take (i := 16) (v := ?_) rfl (by kernel_rfl) (by kernel_rfl) (by kernel_rfl) (fun _ _ _ h => h) (Or.inl ⟨by rfl, ?_⟩) (by assumption) ?_
    rotate_left
    · (intro w hSw; (try dsimp only at hSw); go_simp; try with_reducible rfl)
    try simp only [List.getElem_toArray, List.getElem_cons_succ, List.getElem_cons_zero, Act.put, List.setIfInBounds_toArray, List.set_cons_zero, List.set_cons_succ]
    refine wpAnyH_take (i := 17) (v := ?_) rfl (by kernel_rfl) (by kernel_rfl) (by kernel_rfl) (fun _ _ _ h => h) (Or.inl ⟨by rfl, ?_⟩) (by assumption) ?_
    rotate_left
    · (intro w hSw; (try dsimp only at hSw); go_simp; try with_reducible rfl)
    try simp only [List.getElem_toArray, List.getElem_cons_succ, List.getElem_cons_zero, Act.put, List.setIfInBounds_toArray, List.set_cons_zero, List.set_cons_succ]
    refine wpAnyH_done (by kernel_rfl) ?_ _
    refine NoPanic.normal ?_
    go_wp2_with fail
    go_ret
    exact ⟨rfl, HN6.out.bel⟩
set_option maxRecDepth 100000 in
set_option maxHeartbeats 4000000 in
theorem less_good (a b : Kq) (w : World) (hE : Ev w) : Calls Tryd.prog 7 #[kqV a, kqV b] w fun e w' => e = .returned (.bool true) ∧ Below w.heap.size w w' := by
  have HA := Lib.hid (fun wx (hb : Below w.heap.size w wx) => awake8_any wx (hE.keep hb))
  have HN := Lib.hid (b2_new w a b)
  have HEN := Lib.hid (fun wx => enough_any a b wx)
  cases hv : enB a b with
  | false =>
    rw [hv] at HEN
    clear hv hE
    unfold kqV at *
    obtain ⟨k0, k1, k2, k3, k4, -⟩ := box5c HN.out.a
    obtain ⟨l0, l1, l2, l3, l4, -⟩ := box5c HN.out.b
    have lk := lt_of_heap HN.out.a
    have ll := lt_of_heap HN.out.b
    go_enter Tryd.func7, Tryd.ntmps7
    go_wp2_with fail
    go_at_call 17
    refine (HEN.out _).mono ?_
    rintro e w1 ⟨rfl, hb1⟩
    have HN1 := Lib.hid (HN.out.keep hb1)
    clear hb1
    go_wp2_with fail
    go_at_call 10
    refine (HA.out _ HN1.out.bel).mono ?_
    rintro e w2 ⟨rfl, hb2⟩
    have HN2 := Lib.hid (HN1.out.keep hb2)
    clear hb2
    go_wp2_with fail
    go_ret
    exact ⟨rfl, HN2.out.bel⟩
  | true =>
    have HEM := Lib.hid (fun wx => enough_any a ⟨true, true, true, true, a.n⟩ wx)
    have HEL := Lib.hid (fun wx => enough_any ⟨false, false, false, false, a.n⟩ b wx)
    rw [(en_more hv).1] at HEM
    rw [(en_more hv).2] at HEL
    rw [hv] at HEN
    clear hv hE
    unfold kqV at *
    obtain ⟨k0, k1, k2, k3, k4, -⟩ := box5c HN.out.a
    obtain ⟨l0, l1, l2, l3, l4, -⟩ := box5c HN.out.b
    have lk := lt_of_heap HN.out.a
    have ll := lt_of_heap HN.out.b
    go_enter Tryd.func7, Tryd.ntmps7
    go_wp2_with fail
    go_at_call 17
    refine (HEN.out _).mono ?_
    rintro e w1 ⟨rfl, hb1⟩
    have HN1 := Lib.hid (HN.out.keep hb1)
    clear hb1 k0 k1 k2 k3 k4 l0 l1 l2 l3 l4 lk ll
    obtain ⟨k0, k1, k2, k3, k4, -⟩ := box5c HN1.out.a
    obtain ⟨l0, l1, l2, l3, l4, -⟩ := box5c HN1.out.b
    have lk := lt_of_heap HN1.out.a
    have ll := lt_of_heap HN1.out.b
    have hba := (Below.refl w1.heap.size w1).alloc (Nat.le_refl _) (.cells #[.bool true, .bool true, .bool true, .bool true, .int .i64 a.n] 30)
    go_wp2_with fail
    go_at_call 17
    refine (HEM.out _).mono ?_
    rintro e w2 ⟨rfl, hb2⟩
    have HN2 := Lib.hid (HN1.out.keep (hba.trans (hb2.mono (by simp))))
    clear hba hb2 k0 k1 k2 k3 k4 l0 l1 l2 l3 l4 lk ll
    obtain ⟨k0, k1, k2, k3, k4, -⟩ := box5c HN2.out.a
    obtain ⟨l0, l1, l2, l3, l4, -⟩ := box5c HN2.out.b
    have lk := lt_of_heap HN2.out.a
    have ll := lt_of_heap HN2.out.b
    go_wp2_with fail
    go_at_call 17
    refine (HEL.out _).mono ?_
    rintro e w3 ⟨rfl, hb3⟩
    have HN3 := Lib.hid (HN2.out.keep hb3)
    clear hb3
    go_wp2_with fail
    go_at_call 10
    refine (HA.out _ HN3.out.bel).mono ?_
    rintro e w4 ⟨rfl, hb4⟩
    have HN4 := Lib.hid (HN3.out.keep hb4)
    clear hb4
    go_wp2_with fail
    go_ret
    exact ⟨rfl, HN4.out.bel⟩
end Go.Proofs.YtjnijppghgemeaaDoor
