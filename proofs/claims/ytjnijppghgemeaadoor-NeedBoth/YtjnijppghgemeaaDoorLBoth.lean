/- Layer 8: the law NeedBoth. -/
import Derived.Test.YtjnijppghgemeaaDoorDf
namespace Go.Proofs.YtjnijppghgemeaaDoor
open Go.RowKit Go.Shelf

/-- A pattern, and what both need, in a law's boxes. -/
structure Bn2 (w : World) (x : Sl) (p : Pt) (ba bb : Nat) (a b : Kq) (wr : World) : Prop where
  bx : Bx w w.heap.size x p wr
  a : wr.heap[ba]? = some (.cells #[.bool a.s, .bool a.e, .bool a.rs, .bool a.re, .int .i64 a.n] 30 (0, 0))
  b : wr.heap[bb]? = some (.cells #[.bool b.s, .bool b.e, .bool b.rs, .bool b.re, .int .i64 b.n] 30 (0, 0))
theorem Bn2.keep {w : World} {x : Sl} {p : Pt} {ba bb : Nat} {a b : Kq} {wr wx : World} (h : Bn2 w x p ba bb a b wr) (hb : Below wr.heap.size wr wx) : Bn2 w x p ba bb a b wx :=
  ⟨h.bx.keep hb, (hb.block _ (lt_of_heap h.a)).trans h.a, (hb.block _ (lt_of_heap h.b)).trans h.b⟩
set_option maxRecDepth 100000 in
set_option maxHeartbeats 4000000 in
theorem both_good (x : Sl) (p : Pt) (msg : Int) (w : World) (hE : Ev w) (hp : PatA w x p) : Calls Tryd.prog 5 #[patV x p, .int .i64 msg] w fun e w' => e = .returned (.bool true) ∧ Below w.heap.size w w' := by
  have HP := Lib.hid hp
  have HA := Lib.hid (fun wx (hb : Below w.heap.size w wx) => awake8_any wx (hE.keep hb))
  have HF := Lib.hid (fun wx (hb : Below w.heap.size w wx) => few_any x p wx (hp.keep hb))
  have HO0 := Lib.hid (fun wx (hb : Below w.heap.size w wx) => of8_any x p 0 wx (hp.keep hb) (hE.ky.keep hb))
  have HO1 := Lib.hid (fun wx (hb : Below w.heap.size w wx) => of8_any x p 1 wx (hp.keep hb) (hE.ky.keep hb))
  have HW := Lib.hid (bx_new w x p)
  have e0 : kqE p 0 = ckE p := rfl
  have e1 : kqE p 1 = ckE p := rfl
  rw [e0] at HO0
  rw [e1] at HO1
  clear hE hp e0 e1
  obtain ⟨a, ha⟩ : ∃ a, a = kqP p 0 := ⟨_, rfl⟩
  obtain ⟨b, hb⟩ : ∃ b, b = kqP p 1 := ⟨_, rfl⟩
  rw [← ha] at HO0
  rw [← hb] at HO1
  have HAB := Lib.hid (And.intro ha hb)
  clear ha hb
  obtain ⟨v, hv⟩ : ∃ v, v = ckE p := ⟨_, rfl⟩
  rw [← hv] at HO0 HO1
  have HV := Lib.hid hv
  clear hv
  unfold patV kqV at *
  cases f1 : fewB p with
  | false =>
    rw [f1] at HF
    clear f1
    go_enter Tryd.func5, Tryd.ntmps5
    go_wp2_with fail
    go_at_call 11
    refine (HO0.out _ HW.out.bel).mono ?_
    rintro e w1 ⟨rfl, hb1⟩
    have hba := hb1.alloc hb1.size (.cells #[.bool a.s, .bool a.e, .bool a.rs, .bool a.re, .int .i64 a.n] 30)
    have HW1 := Lib.hid (HW.out.keep hba)
    have HK1 := Lib.hid (heap_alloc_new w1 (.cells #[.bool a.s, .bool a.e, .bool a.rs, .bool a.re, .int .i64 a.n] 30))
    obtain ⟨b0, b1, b2, b3⟩ := HW1.out.cells
    have lw := lt_of_heap HW1.out.bx
    clear hb1 hba
    go_wp2_with fail
    go_at_call 11
    refine (HO1.out _ HW1.out.bel).mono ?_
    rintro e w2 ⟨rfl, hb2⟩
    have hbb := hb2.alloc hb2.size (.cells #[.bool b.s, .bool b.e, .bool b.rs, .bool b.re, .int .i64 b.n] 30)
    have HN2 : Hid (Bn2 w x p w1.heap.size w2.heap.size a b (w2.alloc (.cells #[.bool b.s, .bool b.e, .bool b.rs, .bool b.re, .int .i64 b.n] 30))) := Lib.hid ⟨HW1.out.keep hbb, (hbb.block _ (lt_of_heap HK1.out)).trans HK1.out, heap_alloc_new w2 _⟩
    clear hb2 hbb b0 b1 b2 b3 lw
    obtain ⟨k0, k1, k2, k3, k4, -⟩ := box5c HN2.out.a
    obtain ⟨l0, l1, l2, l3, l4, -⟩ := box5c HN2.out.b
    obtain ⟨b0, b1, b2, b3⟩ := HN2.out.bx.cells
    have la := lt_of_heap HN2.out.a
    have lb := lt_of_heap HN2.out.b
    have lw := lt_of_heap HN2.out.bx.bx
    go_wp2_with fail
    go_at_call 9
    refine (HF.out _ HN2.out.bx.bel).mono ?_
    rintro e w3 ⟨rfl, hb3⟩
    have HN3 := Lib.hid (HN2.out.keep hb3)
    clear hb3 k0 k1 k2 k3 k4 l0 l1 l2 l3 l4 b0 b1 b2 b3 la lb lw
    obtain ⟨k0, k1, k2, k3, k4, -⟩ := box5c HN3.out.a
    obtain ⟨l0, l1, l2, l3, l4, -⟩ := box5c HN3.out.b
    obtain ⟨b0, b1, b2, b3⟩ := HN3.out.bx.cells
    have la := lt_of_heap HN3.out.a
    have lb := lt_of_heap HN3.out.b
    have lw := lt_of_heap HN3.out.bx.bx
    go_wp2_with fail
    go_at_call 9
    refine (HF.out _ HN3.out.bx.bel).mono ?_
    rintro e w4 ⟨rfl, hb4⟩
    have HN4 := Lib.hid (HN3.out.keep hb4)
    clear hb4 k0 k1 k2 k3 k4 l0 l1 l2 l3 l4 b0 b1 b2 b3 la lb lw
    obtain ⟨k0, k1, k2, k3, k4, -⟩ := box5c HN4.out.a
    obtain ⟨l0, l1, l2, l3, l4, -⟩ := box5c HN4.out.b
    obtain ⟨b0, b1, b2, b3⟩ := HN4.out.bx.cells
    have la := lt_of_heap HN4.out.a
    have lb := lt_of_heap HN4.out.b
    have lw := lt_of_heap HN4.out.bx.bx
    go_wp2_with fail
    go_at_call 9
    refine (HF.out _ HN4.out.bx.bel).mono ?_
    rintro e w5 ⟨rfl, hb5⟩
    have HN5 := Lib.hid (HN4.out.keep hb5)
    clear hb5 k0 k1 k2 k3 k4 l0 l1 l2 l3 l4 b0 b1 b2 b3 la lb lw
    obtain ⟨k0, k1, k2, k3, k4, -⟩ := box5c HN5.out.a
    obtain ⟨l0, l1, l2, l3, l4, -⟩ := box5c HN5.out.b
    obtain ⟨b0, b1, b2, b3⟩ := HN5.out.bx.cells
    have la := lt_of_heap HN5.out.a
    have lb := lt_of_heap HN5.out.b
    have lw := lt_of_heap HN5.out.bx.bx
    go_wp2_with fail
    go_at_call 10
    refine (HA.out _ HN5.out.bx.bel).mono ?_
    rintro e w6 ⟨rfl, hb6⟩
    have HN6 := Lib.hid (HN5.out.keep hb6)
    clear hb6 k0 k1 k2 k3 k4 l0 l1 l2 l3 l4 b0 b1 b2 b3 la lb lw
    obtain ⟨k0, k1, k2, k3, k4, -⟩ := box5c HN6.out.a
    obtain ⟨l0, l1, l2, l3, l4, -⟩ := box5c HN6.out.b
    obtain ⟨b0, b1, b2, b3⟩ := HN6.out.bx.cells
    have la := lt_of_heap HN6.out.a
    have lb := lt_of_heap HN6.out.b
    have lw := lt_of_heap HN6.out.bx.bx
    go_wp2_with fail
    go_ret
    exact ⟨rfl, HN6.out.bx.bel⟩
  | true =>
    rw [f1] at HF
    clear f1
    by_cases hv : v = 0
    · subst hv
      have hab : (a.re = b.e ∧ b.re = a.e ∧ a.n = b.n ∧ (a.rs = true → b.s = true) ∧ (b.rs = true → a.s = true)) ∧ right p = true := by
        have h0 : kqE p 0 = 0 := HV.out.symm
        have h1 : kqE p 1 = 0 := HV.out.symm
        have e0 : a = kq p 0 := by rw [HAB.out.1]; unfold kqP; rw [if_pos h0]
        have e1 : b = kq p 1 := by rw [HAB.out.2]; unfold kqP; rw [if_pos h1]
        rw [e0, e1]
        exact ⟨need_both p, (ck_ok HV.out.symm).1⟩
      have HR := Lib.hid hab.2
      have hfr : (msg < 0 ∨ ((p.ms.length : Nat) : Int) ≤ msg → snB p 0 msg = false ∧ snB p 1 msg = false) ∧ (0 ≤ msg → msg < ((p.ms.length : Nat) : Int) → (snB p 0 msg = true ∧ snB p 1 msg = false) ∨ (snB p 0 msg = false ∧ snB p 1 msg = true)) := by
        refine ⟨fun h => ?_, fun h0 h1 => ?_⟩
        · unfold snB
          rcases h with h | h
          · rw [decide_eq_false (by omega)]; exact ⟨rfl, rfl⟩
          · rw [decide_eq_false (p := msg < _) (by omega)]; simp
        · have hm := (right_ms' HR.out (m := p.ms.getD msg.toNat default) (by rw [List.getD_eq_getElem?_getD, List.getElem?_eq_getElem (by omega)]; exact List.getElem_mem _)).1
          unfold snB
          rw [decide_eq_true h0, decide_eq_true h1]
          rcases hm with hm | hm
          · left; rw [hm]; decide
          · right; rw [hm]; decide
      have HFR := Lib.hid hfr
      have HS0 := Lib.hid (fun wx (hb : Below w.heap.size w wx) => sends_any x p 0 msg wx (HP.out.keep hb))
      have HS1 := Lib.hid (fun wx (hb : Below w.heap.size w wx) => sends_any x p 1 msg wx (HP.out.keep hb))
      obtain ⟨⟨h1, h2, h3, h4, h5⟩, -⟩ := hab
      clear HAB HV HP hfr
      unfold patV at HS0 HS1
      have q1 : (a.re == b.e) = true := by rw [h1]; exact beq_self_eq_true _
      have q2 : (b.re == a.e) = true := by rw [h2]; exact beq_self_eq_true _
      have q3 : (a.n == b.n) = true := by rw [h3]; exact beq_self_eq_true _
      have HHH := Lib.hid (And.intro h4 h5)
      clear h1 h2 h3 h4 h5
      obtain ⟨s0, hs0⟩ : ∃ s0, s0 = snB p 0 msg := ⟨_, rfl⟩
      obtain ⟨s1, hs1⟩ : ∃ s1, s1 = snB p 1 msg := ⟨_, rfl⟩
      rw [← hs0, ← hs1] at HFR
      rw [← hs0] at HS0
      rw [← hs1] at HS1
      clear hs0 hs1
      rcases (show msg < 0 ∨ (0 ≤ msg ∧ ((p.ms.length : Nat) : Int) ≤ msg) ∨ (0 ≤ msg ∧ msg < ((p.ms.length : Nat) : Int)) by omega) with hm | ⟨hm0, hm1⟩ | ⟨hm0, hm1⟩
      · obtain ⟨rfl, rfl⟩ := HFR.out.1 (.inl hm)
        have hmn : ¬ 0 ≤ msg := by omega
        clear hm
        go_enter Tryd.func5, Tryd.ntmps5
        go_wp2_with fail
        go_at_call 11
        refine (HO0.out _ HW.out.bel).mono ?_
        rintro e w1 ⟨rfl, hb1⟩
        have hba := hb1.alloc hb1.size (.cells #[.bool a.s, .bool a.e, .bool a.rs, .bool a.re, .int .i64 a.n] 30)
        have HW1 := Lib.hid (HW.out.keep hba)
        have HK1 := Lib.hid (heap_alloc_new w1 (.cells #[.bool a.s, .bool a.e, .bool a.rs, .bool a.re, .int .i64 a.n] 30))
        obtain ⟨b0, b1, b2, b3⟩ := HW1.out.cells
        have lw := lt_of_heap HW1.out.bx
        clear hb1 hba
        go_wp2_with fail
        go_at_call 11
        refine (HO1.out _ HW1.out.bel).mono ?_
        rintro e w2 ⟨rfl, hb2⟩
        have hbb := hb2.alloc hb2.size (.cells #[.bool b.s, .bool b.e, .bool b.rs, .bool b.re, .int .i64 b.n] 30)
        have HN2 : Hid (Bn2 w x p w1.heap.size w2.heap.size a b (w2.alloc (.cells #[.bool b.s, .bool b.e, .bool b.rs, .bool b.re, .int .i64 b.n] 30))) := Lib.hid ⟨HW1.out.keep hbb, (hbb.block _ (lt_of_heap HK1.out)).trans HK1.out, heap_alloc_new w2 _⟩
        clear hb2 hbb b0 b1 b2 b3 lw
        obtain ⟨k0, k1, k2, k3, k4, -⟩ := box5c HN2.out.a
        obtain ⟨l0, l1, l2, l3, l4, -⟩ := box5c HN2.out.b
        obtain ⟨b0, b1, b2, b3⟩ := HN2.out.bx.cells
        have la := lt_of_heap HN2.out.a
        have lb := lt_of_heap HN2.out.b
        have lw := lt_of_heap HN2.out.bx.bx
        go_wp2_with fail
        go_at_call 9
        refine (HF.out _ HN2.out.bx.bel).mono ?_
        rintro e w3 ⟨rfl, hb3⟩
        have HN3 := Lib.hid (HN2.out.keep hb3)
        clear hb3 k0 k1 k2 k3 k4 l0 l1 l2 l3 l4 b0 b1 b2 b3 la lb lw
        obtain ⟨k0, k1, k2, k3, k4, -⟩ := box5c HN3.out.a
        obtain ⟨l0, l1, l2, l3, l4, -⟩ := box5c HN3.out.b
        obtain ⟨b0, b1, b2, b3⟩ := HN3.out.bx.cells
        have la := lt_of_heap HN3.out.a
        have lb := lt_of_heap HN3.out.b
        have lw := lt_of_heap HN3.out.bx.bx
        go_wp2_with fail
        go_at_call 19
        refine (HS0.out _ HN3.out.bx.bel).mono ?_
        rintro e w4 ⟨rfl, hb4⟩
        have HN4 := Lib.hid (HN3.out.keep hb4)
        clear hb4 k0 k1 k2 k3 k4 l0 l1 l2 l3 l4 b0 b1 b2 b3 la lb lw
        obtain ⟨k0, k1, k2, k3, k4, -⟩ := box5c HN4.out.a
        obtain ⟨l0, l1, l2, l3, l4, -⟩ := box5c HN4.out.b
        obtain ⟨b0, b1, b2, b3⟩ := HN4.out.bx.cells
        have la := lt_of_heap HN4.out.a
        have lb := lt_of_heap HN4.out.b
        have lw := lt_of_heap HN4.out.bx.bx
        go_wp2_with fail
        go_at_call 19
        refine (HS1.out _ HN4.out.bx.bel).mono ?_
        rintro e w5 ⟨rfl, hb5⟩
        have HN5 := Lib.hid (HN4.out.keep hb5)
        clear hb5 k0 k1 k2 k3 k4 l0 l1 l2 l3 l4 b0 b1 b2 b3 la lb lw
        obtain ⟨k0, k1, k2, k3, k4, -⟩ := box5c HN5.out.a
        obtain ⟨l0, l1, l2, l3, l4, -⟩ := box5c HN5.out.b
        obtain ⟨b0, b1, b2, b3⟩ := HN5.out.bx.cells
        have la := lt_of_heap HN5.out.a
        have lb := lt_of_heap HN5.out.b
        have lw := lt_of_heap HN5.out.bx.bx
        go_wp2_with fail
        go_at_call 19
        refine (HS0.out _ HN5.out.bx.bel).mono ?_
        rintro e w6 ⟨rfl, hb6⟩
        have HN6 := Lib.hid (HN5.out.keep hb6)
        clear hb6 k0 k1 k2 k3 k4 l0 l1 l2 l3 l4 b0 b1 b2 b3 la lb lw
        obtain ⟨k0, k1, k2, k3, k4, -⟩ := box5c HN6.out.a
        obtain ⟨l0, l1, l2, l3, l4, -⟩ := box5c HN6.out.b
        obtain ⟨b0, b1, b2, b3⟩ := HN6.out.bx.cells
        have la := lt_of_heap HN6.out.a
        have lb := lt_of_heap HN6.out.b
        have lw := lt_of_heap HN6.out.bx.bx
        cases hra : a.rs
        all_goals cases hrb : b.rs
        all_goals (first
          | (have hbs : b.s = true := HHH.out.1 hra)
          | skip)
        all_goals (first
          | (have has : a.s = true := HHH.out.2 hrb)
          | skip)
        all_goals
          go_wp2_with fail
          go_at_call 10
          refine (HA.out _ HN6.out.bx.bel).mono ?_
          rintro e w9 ⟨rfl, hb9⟩
          have HN9 := Lib.hid (HN6.out.keep hb9)
          clear hb9 k0 k1 k2 k3 k4 l0 l1 l2 l3 l4 b0 b1 b2 b3 la lb lw
          obtain ⟨k0, k1, k2, k3, k4, -⟩ := box5c HN9.out.a
          obtain ⟨l0, l1, l2, l3, l4, -⟩ := box5c HN9.out.b
          obtain ⟨b0, b1, b2, b3⟩ := HN9.out.bx.cells
          have la := lt_of_heap HN9.out.a
          have lb := lt_of_heap HN9.out.b
          have lw := lt_of_heap HN9.out.bx.bx
          go_wp2_with fail
          go_ret
          exact ⟨rfl, HN9.out.bx.bel⟩
      · obtain ⟨rfl, rfl⟩ := HFR.out.1 (.inr hm1)
        have hmn : ¬ msg < ((p.ms.length : Nat) : Int) := by omega
        clear hm1
        go_enter Tryd.func5, Tryd.ntmps5
        go_wp2_with fail
        go_at_call 11
        refine (HO0.out _ HW.out.bel).mono ?_
        rintro e w1 ⟨rfl, hb1⟩
        have hba := hb1.alloc hb1.size (.cells #[.bool a.s, .bool a.e, .bool a.rs, .bool a.re, .int .i64 a.n] 30)
        have HW1 := Lib.hid (HW.out.keep hba)
        have HK1 := Lib.hid (heap_alloc_new w1 (.cells #[.bool a.s, .bool a.e, .bool a.rs, .bool a.re, .int .i64 a.n] 30))
        obtain ⟨b0, b1, b2, b3⟩ := HW1.out.cells
        have lw := lt_of_heap HW1.out.bx
        clear hb1 hba
        go_wp2_with fail
        go_at_call 11
        refine (HO1.out _ HW1.out.bel).mono ?_
        rintro e w2 ⟨rfl, hb2⟩
        have hbb := hb2.alloc hb2.size (.cells #[.bool b.s, .bool b.e, .bool b.rs, .bool b.re, .int .i64 b.n] 30)
        have HN2 : Hid (Bn2 w x p w1.heap.size w2.heap.size a b (w2.alloc (.cells #[.bool b.s, .bool b.e, .bool b.rs, .bool b.re, .int .i64 b.n] 30))) := Lib.hid ⟨HW1.out.keep hbb, (hbb.block _ (lt_of_heap HK1.out)).trans HK1.out, heap_alloc_new w2 _⟩
        clear hb2 hbb b0 b1 b2 b3 lw
        obtain ⟨k0, k1, k2, k3, k4, -⟩ := box5c HN2.out.a
        obtain ⟨l0, l1, l2, l3, l4, -⟩ := box5c HN2.out.b
        obtain ⟨b0, b1, b2, b3⟩ := HN2.out.bx.cells
        have la := lt_of_heap HN2.out.a
        have lb := lt_of_heap HN2.out.b
        have lw := lt_of_heap HN2.out.bx.bx
        go_wp2_with fail
        go_at_call 9
        refine (HF.out _ HN2.out.bx.bel).mono ?_
        rintro e w3 ⟨rfl, hb3⟩
        have HN3 := Lib.hid (HN2.out.keep hb3)
        clear hb3 k0 k1 k2 k3 k4 l0 l1 l2 l3 l4 b0 b1 b2 b3 la lb lw
        obtain ⟨k0, k1, k2, k3, k4, -⟩ := box5c HN3.out.a
        obtain ⟨l0, l1, l2, l3, l4, -⟩ := box5c HN3.out.b
        obtain ⟨b0, b1, b2, b3⟩ := HN3.out.bx.cells
        have la := lt_of_heap HN3.out.a
        have lb := lt_of_heap HN3.out.b
        have lw := lt_of_heap HN3.out.bx.bx
        go_wp2_with fail
        go_at_call 19
        refine (HS0.out _ HN3.out.bx.bel).mono ?_
        rintro e w4 ⟨rfl, hb4⟩
        have HN4 := Lib.hid (HN3.out.keep hb4)
        clear hb4 k0 k1 k2 k3 k4 l0 l1 l2 l3 l4 b0 b1 b2 b3 la lb lw
        obtain ⟨k0, k1, k2, k3, k4, -⟩ := box5c HN4.out.a
        obtain ⟨l0, l1, l2, l3, l4, -⟩ := box5c HN4.out.b
        obtain ⟨b0, b1, b2, b3⟩ := HN4.out.bx.cells
        have la := lt_of_heap HN4.out.a
        have lb := lt_of_heap HN4.out.b
        have lw := lt_of_heap HN4.out.bx.bx
        go_wp2_with fail
        go_at_call 19
        refine (HS1.out _ HN4.out.bx.bel).mono ?_
        rintro e w5 ⟨rfl, hb5⟩
        have HN5 := Lib.hid (HN4.out.keep hb5)
        clear hb5 k0 k1 k2 k3 k4 l0 l1 l2 l3 l4 b0 b1 b2 b3 la lb lw
        obtain ⟨k0, k1, k2, k3, k4, -⟩ := box5c HN5.out.a
        obtain ⟨l0, l1, l2, l3, l4, -⟩ := box5c HN5.out.b
        obtain ⟨b0, b1, b2, b3⟩ := HN5.out.bx.cells
        have la := lt_of_heap HN5.out.a
        have lb := lt_of_heap HN5.out.b
        have lw := lt_of_heap HN5.out.bx.bx
        go_wp2_with fail
        go_at_call 19
        refine (HS0.out _ HN5.out.bx.bel).mono ?_
        rintro e w6 ⟨rfl, hb6⟩
        have HN6 := Lib.hid (HN5.out.keep hb6)
        clear hb6 k0 k1 k2 k3 k4 l0 l1 l2 l3 l4 b0 b1 b2 b3 la lb lw
        obtain ⟨k0, k1, k2, k3, k4, -⟩ := box5c HN6.out.a
        obtain ⟨l0, l1, l2, l3, l4, -⟩ := box5c HN6.out.b
        obtain ⟨b0, b1, b2, b3⟩ := HN6.out.bx.cells
        have la := lt_of_heap HN6.out.a
        have lb := lt_of_heap HN6.out.b
        have lw := lt_of_heap HN6.out.bx.bx
        cases hra : a.rs
        all_goals cases hrb : b.rs
        all_goals (first
          | (have hbs : b.s = true := HHH.out.1 hra)
          | skip)
        all_goals (first
          | (have has : a.s = true := HHH.out.2 hrb)
          | skip)
        all_goals
          go_wp2_with fail
          go_at_call 10
          refine (HA.out _ HN6.out.bx.bel).mono ?_
          rintro e w9 ⟨rfl, hb9⟩
          have HN9 := Lib.hid (HN6.out.keep hb9)
          clear hb9 k0 k1 k2 k3 k4 l0 l1 l2 l3 l4 b0 b1 b2 b3 la lb lw
          obtain ⟨k0, k1, k2, k3, k4, -⟩ := box5c HN9.out.a
          obtain ⟨l0, l1, l2, l3, l4, -⟩ := box5c HN9.out.b
          obtain ⟨b0, b1, b2, b3⟩ := HN9.out.bx.cells
          have la := lt_of_heap HN9.out.a
          have lb := lt_of_heap HN9.out.b
          have lw := lt_of_heap HN9.out.bx.bx
          go_wp2_with fail
          go_ret
          exact ⟨rfl, HN9.out.bx.bel⟩
      · rcases HFR.out.2 hm0 hm1 with ⟨rfl, rfl⟩ | ⟨rfl, rfl⟩
        · go_enter Tryd.func5, Tryd.ntmps5
          go_wp2_with fail
          go_at_call 11
          refine (HO0.out _ HW.out.bel).mono ?_
          rintro e w1 ⟨rfl, hb1⟩
          have hba := hb1.alloc hb1.size (.cells #[.bool a.s, .bool a.e, .bool a.rs, .bool a.re, .int .i64 a.n] 30)
          have HW1 := Lib.hid (HW.out.keep hba)
          have HK1 := Lib.hid (heap_alloc_new w1 (.cells #[.bool a.s, .bool a.e, .bool a.rs, .bool a.re, .int .i64 a.n] 30))
          obtain ⟨b0, b1, b2, b3⟩ := HW1.out.cells
          have lw := lt_of_heap HW1.out.bx
          clear hb1 hba
          go_wp2_with fail
          go_at_call 11
          refine (HO1.out _ HW1.out.bel).mono ?_
          rintro e w2 ⟨rfl, hb2⟩
          have hbb := hb2.alloc hb2.size (.cells #[.bool b.s, .bool b.e, .bool b.rs, .bool b.re, .int .i64 b.n] 30)
          have HN2 : Hid (Bn2 w x p w1.heap.size w2.heap.size a b (w2.alloc (.cells #[.bool b.s, .bool b.e, .bool b.rs, .bool b.re, .int .i64 b.n] 30))) := Lib.hid ⟨HW1.out.keep hbb, (hbb.block _ (lt_of_heap HK1.out)).trans HK1.out, heap_alloc_new w2 _⟩
          clear hb2 hbb b0 b1 b2 b3 lw
          obtain ⟨k0, k1, k2, k3, k4, -⟩ := box5c HN2.out.a
          obtain ⟨l0, l1, l2, l3, l4, -⟩ := box5c HN2.out.b
          obtain ⟨b0, b1, b2, b3⟩ := HN2.out.bx.cells
          have la := lt_of_heap HN2.out.a
          have lb := lt_of_heap HN2.out.b
          have lw := lt_of_heap HN2.out.bx.bx
          go_wp2_with fail
          go_at_call 9
          refine (HF.out _ HN2.out.bx.bel).mono ?_
          rintro e w3 ⟨rfl, hb3⟩
          have HN3 := Lib.hid (HN2.out.keep hb3)
          clear hb3 k0 k1 k2 k3 k4 l0 l1 l2 l3 l4 b0 b1 b2 b3 la lb lw
          obtain ⟨k0, k1, k2, k3, k4, -⟩ := box5c HN3.out.a
          obtain ⟨l0, l1, l2, l3, l4, -⟩ := box5c HN3.out.b
          obtain ⟨b0, b1, b2, b3⟩ := HN3.out.bx.cells
          have la := lt_of_heap HN3.out.a
          have lb := lt_of_heap HN3.out.b
          have lw := lt_of_heap HN3.out.bx.bx
          go_wp2_with fail
          go_at_call 19
          refine (HS0.out _ HN3.out.bx.bel).mono ?_
          rintro e w4 ⟨rfl, hb4⟩
          have HN4 := Lib.hid (HN3.out.keep hb4)
          clear hb4 k0 k1 k2 k3 k4 l0 l1 l2 l3 l4 b0 b1 b2 b3 la lb lw
          obtain ⟨k0, k1, k2, k3, k4, -⟩ := box5c HN4.out.a
          obtain ⟨l0, l1, l2, l3, l4, -⟩ := box5c HN4.out.b
          obtain ⟨b0, b1, b2, b3⟩ := HN4.out.bx.cells
          have la := lt_of_heap HN4.out.a
          have lb := lt_of_heap HN4.out.b
          have lw := lt_of_heap HN4.out.bx.bx
          go_wp2_with fail
          go_at_call 19
          refine (HS0.out _ HN4.out.bx.bel).mono ?_
          rintro e w5 ⟨rfl, hb5⟩
          have HN5 := Lib.hid (HN4.out.keep hb5)
          clear hb5 k0 k1 k2 k3 k4 l0 l1 l2 l3 l4 b0 b1 b2 b3 la lb lw
          obtain ⟨k0, k1, k2, k3, k4, -⟩ := box5c HN5.out.a
          obtain ⟨l0, l1, l2, l3, l4, -⟩ := box5c HN5.out.b
          obtain ⟨b0, b1, b2, b3⟩ := HN5.out.bx.cells
          have la := lt_of_heap HN5.out.a
          have lb := lt_of_heap HN5.out.b
          have lw := lt_of_heap HN5.out.bx.bx
          go_wp2_with fail
          go_at_call 19
          refine (HS1.out _ HN5.out.bx.bel).mono ?_
          rintro e w6 ⟨rfl, hb6⟩
          have HN6 := Lib.hid (HN5.out.keep hb6)
          clear hb6 k0 k1 k2 k3 k4 l0 l1 l2 l3 l4 b0 b1 b2 b3 la lb lw
          obtain ⟨k0, k1, k2, k3, k4, -⟩ := box5c HN6.out.a
          obtain ⟨l0, l1, l2, l3, l4, -⟩ := box5c HN6.out.b
          obtain ⟨b0, b1, b2, b3⟩ := HN6.out.bx.cells
          have la := lt_of_heap HN6.out.a
          have lb := lt_of_heap HN6.out.b
          have lw := lt_of_heap HN6.out.bx.bx
          cases hra : a.rs
          all_goals cases hrb : b.rs
          all_goals (first
            | (have hbs : b.s = true := HHH.out.1 hra)
            | skip)
          all_goals (first
            | (have has : a.s = true := HHH.out.2 hrb)
            | skip)
          all_goals
            go_wp2_with fail
            go_at_call 10
            refine (HA.out _ HN6.out.bx.bel).mono ?_
            rintro e w9 ⟨rfl, hb9⟩
            have HN9 := Lib.hid (HN6.out.keep hb9)
            clear hb9 k0 k1 k2 k3 k4 l0 l1 l2 l3 l4 b0 b1 b2 b3 la lb lw
            obtain ⟨k0, k1, k2, k3, k4, -⟩ := box5c HN9.out.a
            obtain ⟨l0, l1, l2, l3, l4, -⟩ := box5c HN9.out.b
            obtain ⟨b0, b1, b2, b3⟩ := HN9.out.bx.cells
            have la := lt_of_heap HN9.out.a
            have lb := lt_of_heap HN9.out.b
            have lw := lt_of_heap HN9.out.bx.bx
            go_wp2_with fail
            go_ret
            exact ⟨rfl, HN9.out.bx.bel⟩
        · go_enter Tryd.func5, Tryd.ntmps5
          go_wp2_with fail
          go_at_call 11
          refine (HO0.out _ HW.out.bel).mono ?_
          rintro e w1 ⟨rfl, hb1⟩
          have hba := hb1.alloc hb1.size (.cells #[.bool a.s, .bool a.e, .bool a.rs, .bool a.re, .int .i64 a.n] 30)
          have HW1 := Lib.hid (HW.out.keep hba)
          have HK1 := Lib.hid (heap_alloc_new w1 (.cells #[.bool a.s, .bool a.e, .bool a.rs, .bool a.re, .int .i64 a.n] 30))
          obtain ⟨b0, b1, b2, b3⟩ := HW1.out.cells
          have lw := lt_of_heap HW1.out.bx
          clear hb1 hba
          go_wp2_with fail
          go_at_call 11
          refine (HO1.out _ HW1.out.bel).mono ?_
          rintro e w2 ⟨rfl, hb2⟩
          have hbb := hb2.alloc hb2.size (.cells #[.bool b.s, .bool b.e, .bool b.rs, .bool b.re, .int .i64 b.n] 30)
          have HN2 : Hid (Bn2 w x p w1.heap.size w2.heap.size a b (w2.alloc (.cells #[.bool b.s, .bool b.e, .bool b.rs, .bool b.re, .int .i64 b.n] 30))) := Lib.hid ⟨HW1.out.keep hbb, (hbb.block _ (lt_of_heap HK1.out)).trans HK1.out, heap_alloc_new w2 _⟩
          clear hb2 hbb b0 b1 b2 b3 lw
          obtain ⟨k0, k1, k2, k3, k4, -⟩ := box5c HN2.out.a
          obtain ⟨l0, l1, l2, l3, l4, -⟩ := box5c HN2.out.b
          obtain ⟨b0, b1, b2, b3⟩ := HN2.out.bx.cells
          have la := lt_of_heap HN2.out.a
          have lb := lt_of_heap HN2.out.b
          have lw := lt_of_heap HN2.out.bx.bx
          go_wp2_with fail
          go_at_call 9
          refine (HF.out _ HN2.out.bx.bel).mono ?_
          rintro e w3 ⟨rfl, hb3⟩
          have HN3 := Lib.hid (HN2.out.keep hb3)
          clear hb3 k0 k1 k2 k3 k4 l0 l1 l2 l3 l4 b0 b1 b2 b3 la lb lw
          obtain ⟨k0, k1, k2, k3, k4, -⟩ := box5c HN3.out.a
          obtain ⟨l0, l1, l2, l3, l4, -⟩ := box5c HN3.out.b
          obtain ⟨b0, b1, b2, b3⟩ := HN3.out.bx.cells
          have la := lt_of_heap HN3.out.a
          have lb := lt_of_heap HN3.out.b
          have lw := lt_of_heap HN3.out.bx.bx
          go_wp2_with fail
          go_at_call 19
          refine (HS0.out _ HN3.out.bx.bel).mono ?_
          rintro e w4 ⟨rfl, hb4⟩
          have HN4 := Lib.hid (HN3.out.keep hb4)
          clear hb4 k0 k1 k2 k3 k4 l0 l1 l2 l3 l4 b0 b1 b2 b3 la lb lw
          obtain ⟨k0, k1, k2, k3, k4, -⟩ := box5c HN4.out.a
          obtain ⟨l0, l1, l2, l3, l4, -⟩ := box5c HN4.out.b
          obtain ⟨b0, b1, b2, b3⟩ := HN4.out.bx.cells
          have la := lt_of_heap HN4.out.a
          have lb := lt_of_heap HN4.out.b
          have lw := lt_of_heap HN4.out.bx.bx
          go_wp2_with fail
          go_at_call 19
          refine (HS1.out _ HN4.out.bx.bel).mono ?_
          rintro e w5 ⟨rfl, hb5⟩
          have HN5 := Lib.hid (HN4.out.keep hb5)
          clear hb5 k0 k1 k2 k3 k4 l0 l1 l2 l3 l4 b0 b1 b2 b3 la lb lw
          obtain ⟨k0, k1, k2, k3, k4, -⟩ := box5c HN5.out.a
          obtain ⟨l0, l1, l2, l3, l4, -⟩ := box5c HN5.out.b
          obtain ⟨b0, b1, b2, b3⟩ := HN5.out.bx.cells
          have la := lt_of_heap HN5.out.a
          have lb := lt_of_heap HN5.out.b
          have lw := lt_of_heap HN5.out.bx.bx
          go_wp2_with fail
          go_at_call 19
          refine (HS0.out _ HN5.out.bx.bel).mono ?_
          rintro e w6 ⟨rfl, hb6⟩
          have HN6 := Lib.hid (HN5.out.keep hb6)
          clear hb6 k0 k1 k2 k3 k4 l0 l1 l2 l3 l4 b0 b1 b2 b3 la lb lw
          obtain ⟨k0, k1, k2, k3, k4, -⟩ := box5c HN6.out.a
          obtain ⟨l0, l1, l2, l3, l4, -⟩ := box5c HN6.out.b
          obtain ⟨b0, b1, b2, b3⟩ := HN6.out.bx.cells
          have la := lt_of_heap HN6.out.a
          have lb := lt_of_heap HN6.out.b
          have lw := lt_of_heap HN6.out.bx.bx
          cases hra : a.rs
          all_goals cases hrb : b.rs
          all_goals (first
            | (have hbs : b.s = true := HHH.out.1 hra)
            | skip)
          all_goals (first
            | (have has : a.s = true := HHH.out.2 hrb)
            | skip)
          all_goals
            go_wp2_with fail
            go_at_call 10
            refine (HA.out _ HN6.out.bx.bel).mono ?_
            rintro e w9 ⟨rfl, hb9⟩
            have HN9 := Lib.hid (HN6.out.keep hb9)
            clear hb9 k0 k1 k2 k3 k4 l0 l1 l2 l3 l4 b0 b1 b2 b3 la lb lw
            obtain ⟨k0, k1, k2, k3, k4, -⟩ := box5c HN9.out.a
            obtain ⟨l0, l1, l2, l3, l4, -⟩ := box5c HN9.out.b
            obtain ⟨b0, b1, b2, b3⟩ := HN9.out.bx.cells
            have la := lt_of_heap HN9.out.a
            have lb := lt_of_heap HN9.out.b
            have lw := lt_of_heap HN9.out.bx.bx
            go_wp2_with fail
            go_ret
            exact ⟨rfl, HN9.out.bx.bel⟩
    · have hvb : (v != 0) = true := by simpa using hv
      have hvv : (v == v) = true := beq_self_eq_true _
      clear hv
      go_enter Tryd.func5, Tryd.ntmps5
      go_wp2_with fail
      go_at_call 11
      refine (HO0.out _ HW.out.bel).mono ?_
      rintro e w1 ⟨rfl, hb1⟩
      have hba := hb1.alloc hb1.size (.cells #[.bool a.s, .bool a.e, .bool a.rs, .bool a.re, .int .i64 a.n] 30)
      have HW1 := Lib.hid (HW.out.keep hba)
      have HK1 := Lib.hid (heap_alloc_new w1 (.cells #[.bool a.s, .bool a.e, .bool a.rs, .bool a.re, .int .i64 a.n] 30))
      obtain ⟨b0, b1, b2, b3⟩ := HW1.out.cells
      have lw := lt_of_heap HW1.out.bx
      clear hb1 hba
      go_wp2_with fail
      go_at_call 11
      refine (HO1.out _ HW1.out.bel).mono ?_
      rintro e w2 ⟨rfl, hb2⟩
      have hbb := hb2.alloc hb2.size (.cells #[.bool b.s, .bool b.e, .bool b.rs, .bool b.re, .int .i64 b.n] 30)
      have HN2 : Hid (Bn2 w x p w1.heap.size w2.heap.size a b (w2.alloc (.cells #[.bool b.s, .bool b.e, .bool b.rs, .bool b.re, .int .i64 b.n] 30))) := Lib.hid ⟨HW1.out.keep hbb, (hbb.block _ (lt_of_heap HK1.out)).trans HK1.out, heap_alloc_new w2 _⟩
      clear hb2 hbb b0 b1 b2 b3 lw
      obtain ⟨k0, k1, k2, k3, k4, -⟩ := box5c HN2.out.a
      obtain ⟨l0, l1, l2, l3, l4, -⟩ := box5c HN2.out.b
      obtain ⟨b0, b1, b2, b3⟩ := HN2.out.bx.cells
      have la := lt_of_heap HN2.out.a
      have lb := lt_of_heap HN2.out.b
      have lw := lt_of_heap HN2.out.bx.bx
      go_wp2_with fail
      go_at_call 9
      refine (HF.out _ HN2.out.bx.bel).mono ?_
      rintro e w3 ⟨rfl, hb3⟩
      have HN3 := Lib.hid (HN2.out.keep hb3)
      clear hb3 k0 k1 k2 k3 k4 l0 l1 l2 l3 l4 b0 b1 b2 b3 la lb lw
      obtain ⟨k0, k1, k2, k3, k4, -⟩ := box5c HN3.out.a
      obtain ⟨l0, l1, l2, l3, l4, -⟩ := box5c HN3.out.b
      obtain ⟨b0, b1, b2, b3⟩ := HN3.out.bx.cells
      have la := lt_of_heap HN3.out.a
      have lb := lt_of_heap HN3.out.b
      have lw := lt_of_heap HN3.out.bx.bx
      go_wp2_with fail
      go_at_call 9
      refine (HF.out _ HN3.out.bx.bel).mono ?_
      rintro e w4 ⟨rfl, hb4⟩
      have HN4 := Lib.hid (HN3.out.keep hb4)
      clear hb4 k0 k1 k2 k3 k4 l0 l1 l2 l3 l4 b0 b1 b2 b3 la lb lw
      obtain ⟨k0, k1, k2, k3, k4, -⟩ := box5c HN4.out.a
      obtain ⟨l0, l1, l2, l3, l4, -⟩ := box5c HN4.out.b
      obtain ⟨b0, b1, b2, b3⟩ := HN4.out.bx.cells
      have la := lt_of_heap HN4.out.a
      have lb := lt_of_heap HN4.out.b
      have lw := lt_of_heap HN4.out.bx.bx
      go_wp2_with fail
      go_at_call 10
      refine (HA.out _ HN4.out.bx.bel).mono ?_
      rintro e w5 ⟨rfl, hb5⟩
      have HN5 := Lib.hid (HN4.out.keep hb5)
      clear hb5 k0 k1 k2 k3 k4 l0 l1 l2 l3 l4 b0 b1 b2 b3 la lb lw
      obtain ⟨k0, k1, k2, k3, k4, -⟩ := box5c HN5.out.a
      obtain ⟨l0, l1, l2, l3, l4, -⟩ := box5c HN5.out.b
      obtain ⟨b0, b1, b2, b3⟩ := HN5.out.bx.cells
      have la := lt_of_heap HN5.out.a
      have lb := lt_of_heap HN5.out.b
      have lw := lt_of_heap HN5.out.bx.bx
      go_wp2_with fail
      go_ret
      exact ⟨rfl, HN5.out.bx.bel⟩
end Go.Proofs.YtjnijppghgemeaaDoor
