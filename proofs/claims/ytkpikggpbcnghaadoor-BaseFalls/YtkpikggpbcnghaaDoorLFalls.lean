/- The law BaseFalls. -/
import Derived.Test.YtkpikggpbcnghaaDoorLa6
namespace Go.Proofs.YtkpikggpbcnghaaDoor
open Go.RowKit Go.Shelf

set_option maxRecDepth 100000 in
set_option maxHeartbeats 2000000 in
theorem falls_good (x : Sl) (p : Pt) (w : World) (hE : Eb w) (hp : PatA w x p) : Calls Tryd.prog 6 #[patV x p] w fun e w' => e = .returned (.bool true) ∧ Below w.heap.size w w' := by
  have HE := Lib.hid hE; clear hE
  have HP := Lib.hid hp; clear hp
  have HA := Lib.hid (fun wx (hb : Below w.heap.size w wx) => awake_any wx (HE.out.keep hb))
  have HF := Lib.hid (fun wx (hb : Below w.heap.size w wx) => few_any x p wx (HP.out.keep hb))
  have HFB := Lib.hid (fun wx (hb : Below w.heap.size w wx) => fallback_any x p wx (HP.out.keep hb))
  have HW := Lib.hid (bx_new w x p)
  unfold patV at HF HFB ⊢
  by_cases he : fbE p = 0
  · obtain ⟨q, hq⟩ : ∃ q, q = fbP p := ⟨_, rfl⟩
    have hag := fb_again he
    have hrq := fb_right he
    have heq := fb_eq he
    obtain ⟨hr, hok⟩ := fb_ok he
    rw [he, ← hq] at HFB
    rw [← hq] at hag hrq heq
    have hzz : q.ms.length = p.ms.length - 1 ∧ q.p0.length = (p.ms.getD 0 default).t.length ∧ q.p1.length = p.p1.length := by rw [heq]; simp
    obtain ⟨hlen, -, htl⟩ := first_len hr
    obtain ⟨g, o, hx2, hms⟩ := HP.out.im (by omega)
    obtain ⟨-, sx, cx, m1, -⟩ := hms 0 (by omega)
    clear hms
    obtain ⟨n, hn⟩ : ∃ n, n = (p.ms.getD 0 default).t.length := ⟨_, rfl⟩
    simp only [Nat.zero_mul, Nat.add_zero] at m1
    rw [← hn] at m1 hzz
    have HM : Hid (∀ wx, Below w.heap.size w wx → wx.cell? ⟨g, o + 1, none⟩ = some (.slice sx n cx)) := Lib.hid (fun wx hb => by rw [hb.cell (p := ⟨g, o + 1, none⟩) (World.block_lt_of_cell? _ _ m1)]; exact m1)
    have HFQ := Lib.hid (fun wx y (h : PatA wx y q) => fallback_any y q wx h)
    have HRQ := Lib.hid (fun wx y (h : PatA wx y q) => right_any y q wx h)
    rw [hrq] at HRQ
    rw [hag] at HFQ
    have HZZ := Lib.hid hzz
    clear hzz
    have HZ := Lib.hid hlen
    obtain ⟨s0, c0, s1, c1, s2, c2⟩ := x
    simp only at hx2 HF HFB HW ⊢
    subst hx2
    clear m1 hn hag hrq heq hr hok he hlen htl hq
    cases f1 : fewB p with
    | false =>
      rw [f1] at HF
      clear f1
      go_enter Tryd.func6, Tryd.ntmps6
      go_wp2_with (first
        | (go_at_call 20; refine (HFB.out _ HW.out.bel).mono ?_; rintro e w1 ⟨y, rfl, hy1, hb1⟩; have HY1 := Lib.hid hy1; have HB1 := Lib.hid (HW.out.keep hb1); clear hb1 hy1; have HC1 := Lib.hid (HB1.out.keep ((Below.refl _ _).alloc (Nat.le_refl _) (.cells #[.string ⟨q.nm.toArray⟩, .slice y.s0 q.p0.length y.c0, .slice y.s1 q.p1.length y.c1, .slice y.s2 q.ms.length y.c2] 29))); have HQ1 := Lib.hid (heap_alloc_new w1 (.cells #[.string ⟨q.nm.toArray⟩, .slice y.s0 q.p0.length y.c0, .slice y.s1 q.p1.length y.c1, .slice y.s2 q.ms.length y.c2] 29)); obtain ⟨a0, a1, a2, a3⟩ := HB1.out.cells; have lp1 := lt_of_heap HB1.out.bx)
        | (go_at_call 19; refine (HF.out _ HC1.out.bel).mono ?_; rintro e w2 ⟨rfl, hb2⟩; have HC2 := Lib.hid (HC1.out.keep hb2); have HQ2 := Lib.hid ((hb2.block _ (lt_of_heap HQ1.out)).trans HQ1.out); have HY2 := Lib.hid (HY1.out.keep (((Below.refl _ _).alloc (Nat.le_refl _) _).trans (hb2.mono (by simp)))); clear hb2 a0 a1 a2 a3 lp1; obtain ⟨a0, a1, a2, a3⟩ := HC2.out.cells; obtain ⟨b0, b1, b2, b3, -⟩ := box4c HQ2.out; have m1 := HM.out _ HC2.out.bel; have lg := World.block_lt_of_cell? _ _ m1)
        | (go_at_call 8; refine (HA.out _ HC2.out.bel).mono ?_; rintro e w9 ⟨rfl, hb9⟩; have HB9 := Lib.hid (HC2.out.bel.trans (hb9.mono HC2.out.bel.size)); clear hb9))
      go_ret
      exact ⟨rfl, HB9.out⟩
    | true =>
      rw [f1] at HF
      clear f1
      unfold patV at HFQ HRQ
      have hl1 : (1 : Int) ≤ p.ms.length := by have := HZ.out; omega
      have hl6 : (p.ms.length : Int) ≤ 6 := by have := HZ.out; omega
      have hw : IntKind.i64.wrap ((p.ms.length : Int) - 1) = (p.ms.length : Int) - 1 := by
        have := HZ.out
        exact wrap_small (by omega) (by omega)
      have e1 : ((q.ms.length : Int) != IntKind.i64.wrap ((p.ms.length : Int) - 1)) = false := by rw [hw]; have := HZ.out; have := HZZ.out.1; simp; omega
      have e2 : ((n : Int) != (q.p0.length : Int)) = false := by rw [HZZ.out.2.1]; simp
      have e3 : ((q.p1.length : Int) != (p.p1.length : Int)) = false := by rw [HZZ.out.2.2]; simp
      clear hw
      have hz0 : (0 : Int) < p.ms.length := by omega
      have hz0n : 0 < p.ms.length := by omega
      go_enter Tryd.func6, Tryd.ntmps6
      go_wp2_with (first
        | (go_at_call 20; refine (HFB.out _ HW.out.bel).mono ?_; rintro e w1 ⟨y, rfl, hy1, hb1⟩; have HY1 := Lib.hid hy1; have HB1 := Lib.hid (HW.out.keep hb1); clear hb1 hy1; have HC1 := Lib.hid (HB1.out.keep ((Below.refl _ _).alloc (Nat.le_refl _) (.cells #[.string ⟨q.nm.toArray⟩, .slice y.s0 q.p0.length y.c0, .slice y.s1 q.p1.length y.c1, .slice y.s2 q.ms.length y.c2] 29))); have HQ1 := Lib.hid (heap_alloc_new w1 (.cells #[.string ⟨q.nm.toArray⟩, .slice y.s0 q.p0.length y.c0, .slice y.s1 q.p1.length y.c1, .slice y.s2 q.ms.length y.c2] 29)); obtain ⟨a0, a1, a2, a3⟩ := HB1.out.cells; have lp1 := lt_of_heap HB1.out.bx)
        | (go_at_call 19; refine (HF.out _ HC1.out.bel).mono ?_; rintro e w2 ⟨rfl, hb2⟩; have HC2 := Lib.hid (HC1.out.keep hb2); have HQ2 := Lib.hid ((hb2.block _ (lt_of_heap HQ1.out)).trans HQ1.out); have HY2 := Lib.hid (HY1.out.keep (((Below.refl _ _).alloc (Nat.le_refl _) _).trans (hb2.mono (by simp)))); clear hb2 a0 a1 a2 a3 lp1; obtain ⟨a0, a1, a2, a3⟩ := HC2.out.cells; obtain ⟨b0, b1, b2, b3, -⟩ := box4c HQ2.out; have m1 := HM.out _ HC2.out.bel; have lg := World.block_lt_of_cell? _ _ m1))
      go_quiet (fail)
      go_wp2_with (first
        | (have _k := HY2; go_at_call 20; refine (HFQ.out _ y (HY2.out.keep (belowN (Below.refl _ _)))).mono ?_; rintro e w3 ⟨z, rfl, hz3, hb3'⟩; have hb3 := (belowN (Below.refl w2.heap.size w2)).trans hb3'; clear hb3'; have HC3 := Lib.hid (HC2.out.keep hb3); have HQ3 := Lib.hid ((hb3.block _ (lt_of_heap HQ2.out)).trans HQ2.out); have HY3 := Lib.hid (HY2.out.keep hb3); clear hb3 hz3 a0 a1 a2 a3 b0 b1 b2 b3; obtain ⟨b0, b1, b2, b3, -⟩ := box4c HQ3.out; have lq3 := lt_of_heap HQ3.out)
        | (go_at_call 17; refine (HRQ.out _ y (HY3.out.keep ((Below.refl _ _).alloc (Nat.le_refl _) _))).mono ?_; rintro e w4 ⟨rfl, hb4⟩; have HC4 := Lib.hid (HC3.out.keep (((Below.refl _ _).alloc (Nat.le_refl _) _).trans (hb4.mono (by simp)))); clear hb4)
        | (go_at_call 8; refine (HA.out _ HC4.out.bel).mono ?_; rintro e w9 ⟨rfl, hb9⟩; have HB9 := Lib.hid (HC4.out.bel.trans (hb9.mono HC4.out.bel.size)); clear hb9))
      go_ret
      exact ⟨rfl, HB9.out⟩
  · have heb : (fbE p == 0) = false := by simpa using he
    obtain ⟨q, hq⟩ : ∃ q, q = fbP p := ⟨_, rfl⟩
    obtain ⟨fe, hfe⟩ : ∃ fe, fe = fbE p := ⟨_, rfl⟩
    rw [← hq, ← hfe] at HFB
    rw [← hfe] at heb
    clear hq hfe he
    cases f1 : fewB p with
    | false =>
      rw [f1] at HF
      clear f1
      go_enter Tryd.func6, Tryd.ntmps6
      go_wp2_with (first
        | (go_at_call 20; refine (HFB.out _ HW.out.bel).mono ?_; rintro e w1 ⟨y, rfl, hy1, hb1⟩; have HY1 := Lib.hid hy1; have HB1 := Lib.hid (HW.out.keep hb1); clear hb1 hy1; have HC1 := Lib.hid (HB1.out.keep ((Below.refl _ _).alloc (Nat.le_refl _) (.cells #[.string ⟨q.nm.toArray⟩, .slice y.s0 q.p0.length y.c0, .slice y.s1 q.p1.length y.c1, .slice y.s2 q.ms.length y.c2] 29))); have HQ1 := Lib.hid (heap_alloc_new w1 (.cells #[.string ⟨q.nm.toArray⟩, .slice y.s0 q.p0.length y.c0, .slice y.s1 q.p1.length y.c1, .slice y.s2 q.ms.length y.c2] 29)); obtain ⟨a0, a1, a2, a3⟩ := HB1.out.cells; have lp1 := lt_of_heap HB1.out.bx)
        | (go_at_call 19; refine (HF.out _ HC1.out.bel).mono ?_; rintro e w2 ⟨rfl, hb2⟩; have HC2 := Lib.hid (HC1.out.keep hb2); have HQ2 := Lib.hid ((hb2.block _ (lt_of_heap HQ1.out)).trans HQ1.out); have HY2 := Lib.hid (HY1.out.keep (((Below.refl _ _).alloc (Nat.le_refl _) _).trans (hb2.mono (by simp)))); clear hb2 a0 a1 a2 a3 lp1; obtain ⟨a0, a1, a2, a3⟩ := HC2.out.cells; obtain ⟨b0, b1, b2, b3, -⟩ := box4c HQ2.out)
        | (go_at_call 8; refine (HA.out _ HC2.out.bel).mono ?_; rintro e w9 ⟨rfl, hb9⟩; have HB9 := Lib.hid (HC2.out.bel.trans (hb9.mono HC2.out.bel.size)); clear hb9))
      go_ret
      exact ⟨rfl, HB9.out⟩
    | true =>
      rw [f1] at HF
      clear f1
      go_enter Tryd.func6, Tryd.ntmps6
      go_wp2_with (first
        | (go_at_call 20; refine (HFB.out _ HW.out.bel).mono ?_; rintro e w1 ⟨y, rfl, hy1, hb1⟩; have HY1 := Lib.hid hy1; have HB1 := Lib.hid (HW.out.keep hb1); clear hb1 hy1; have HC1 := Lib.hid (HB1.out.keep ((Below.refl _ _).alloc (Nat.le_refl _) (.cells #[.string ⟨q.nm.toArray⟩, .slice y.s0 q.p0.length y.c0, .slice y.s1 q.p1.length y.c1, .slice y.s2 q.ms.length y.c2] 29))); have HQ1 := Lib.hid (heap_alloc_new w1 (.cells #[.string ⟨q.nm.toArray⟩, .slice y.s0 q.p0.length y.c0, .slice y.s1 q.p1.length y.c1, .slice y.s2 q.ms.length y.c2] 29)); obtain ⟨a0, a1, a2, a3⟩ := HB1.out.cells; have lp1 := lt_of_heap HB1.out.bx)
        | (go_at_call 19; refine (HF.out _ HC1.out.bel).mono ?_; rintro e w2 ⟨rfl, hb2⟩; have HC2 := Lib.hid (HC1.out.keep hb2); have HQ2 := Lib.hid ((hb2.block _ (lt_of_heap HQ1.out)).trans HQ1.out); have HY2 := Lib.hid (HY1.out.keep (((Below.refl _ _).alloc (Nat.le_refl _) _).trans (hb2.mono (by simp)))); clear hb2 a0 a1 a2 a3 lp1; obtain ⟨a0, a1, a2, a3⟩ := HC2.out.cells; obtain ⟨b0, b1, b2, b3, -⟩ := box4c HQ2.out)
        | (go_at_call 8; refine (HA.out _ HC2.out.bel).mono ?_; rintro e w9 ⟨rfl, hb9⟩; have HB9 := Lib.hid (HC2.out.bel.trans (hb9.mono HC2.out.bel.size)); clear hb9))
      go_ret
      exact ⟨rfl, HB9.out⟩
end Go.Proofs.YtkpikggpbcnghaaDoor
