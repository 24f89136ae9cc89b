/- The law BaseModifies. -/
import Derived.Test.YtkdcdnkfcbngaaaGreatDoorLa6
import Derived.Test.YtkdcdnkfcbngaaaGreatDoorBx
import Derived.Test.YtkdcdnkfcbngaaaGreatDoorNe
namespace Go.Proofs.YtkdcdnkfcbngaaaGreatDoor
open Go.RowKit Go.Shelf

theorem same_zero (x : Sl) (w : World) (hx : PatA w x zP) : Calls Tryz.prog 11 #[patV x zP, patV nilS zP] w fun e w' => e = .returned (.bool true) ∧ Below w.heap.size w w' :=
  (same_any x nilS zP zP w hx (patA_zero w) zero_short zero_short).mono fun _ _ ⟨he, hb⟩ => ⟨by rw [he]; simp, hb⟩
/-- A pattern in a box. -/
structure Bt (T : TypeId) (b : Nat) (y : Sl) (q : Pt) (wr : World) : Prop where
  bx : wr.heap[b]? = some (.cells #[.string ⟨q.nm.toArray⟩, .slice y.s0 q.p0.length y.c0, .slice y.s1 q.p1.length y.c1, .slice y.s2 q.ms.length y.c2] T (0, 0))
  pa : PatA wr y q
theorem Bt.keep {T : TypeId} {b : Nat} {y : Sl} {q : Pt} {wr wx : World} (h : Bt T b y q wr) (hb : Below wr.heap.size wr wx) : Bt T b y q wx := ⟨(hb.block _ (lt_of_heap h.bx)).trans h.bx, h.pa.keep hb⟩
theorem Bt.cells {T : TypeId} {b : Nat} {y : Sl} {q : Pt} {wr : World} (h : Bt T b y q wr) : (wr.cell? ⟨b, 0, none⟩ = some (.string ⟨q.nm.toArray⟩) ∧ wr.cell? ⟨b, 1, none⟩ = some (.slice y.s0 q.p0.length y.c0) ∧ wr.cell? ⟨b, 2, none⟩ = some (.slice y.s1 q.p1.length y.c1) ∧ wr.cell? ⟨b, 3, none⟩ = some (.slice y.s2 q.ms.length y.c2)) ∧ b < wr.heap.size := by
  obtain ⟨h0, h1, h2, h3, -⟩ := box4c h.bx
  exact ⟨⟨h0, h1, h2, h3⟩, lt_of_heap h.bx⟩
theorem bt_new {T : TypeId} {y : Sl} {q : Pt} {w : World} (h : PatA w y q) : Bt T w.heap.size y q (w.alloc (.cells #[.string ⟨q.nm.toArray⟩, .slice y.s0 q.p0.length y.c0, .slice y.s1 q.p1.length y.c1, .slice y.s2 q.ms.length y.c2] T)) := ⟨heap_alloc_new w _, h.keep ((Below.refl _ _).alloc (Nat.le_refl _) _)⟩
set_option maxRecDepth 100000 in
set_option maxHeartbeats 2000000 in
theorem modifies_good (x : Sl) (p : Pt) (n : Int) (w : World) (hE : Eb w) (hp : PatA w x p) : Calls Tryz.prog 3 #[patV x p, .int .i64 n] w fun e w' => e = .returned (.bool true) ∧ Below w.heap.size w w' := by
  have HE := Lib.hid hE; clear hE
  have HP := Lib.hid hp; clear hp
  have HA := Lib.hid (fun wx (hb : Below w.heap.size w wx) => awake_any wx (HE.out.keep hb))
  have HF := Lib.hid (fun wx (hb : Below w.heap.size w wx) => few_any x p wx (HP.out.keep hb))
  have HPR := Lib.hid (fun wx (hb : Below w.heap.size w wx) => print_any x p wx (HP.out.keep hb) (HE.out.en.keep hb))
  have HPK := Lib.hid (fun wx (hb : Below w.heap.size w wx) => psk_any x p n wx (HP.out.keep hb))
  have HFB := Lib.hid (fun wx (hb : Below w.heap.size w wx) => fallback_any x p wx (HP.out.keep hb))
  have HW := Lib.hid (bx_new w x p)
  cases f1 : fewB p with
  | false =>
    rw [f1] at HF
    unfold patV at HF ⊢
    clear f1
    go_enter Tryz.func3, Tryz.ntmps3
    go_wp2_with (first
      | (go_at_call 4; refine (HF.out _ HW.out.bel).mono ?_; rintro e w1 ⟨rfl, hb1⟩; have HB1 := Lib.hid (HW.out.keep hb1); clear hb1)
      | (go_at_call 5; refine (HA.out _ HB1.out.bel).mono ?_; rintro e w9 ⟨rfl, hb9⟩; have HB9 := Lib.hid (HB1.out.bel.trans (hb9.mono HB1.out.bel.size)); clear hb9))
    go_ret
    exact ⟨rfl, HB9.out⟩
  | true =>
    rw [f1] at HF
    have HSH := Lib.hid (few_short f1)
    have HOF := Lib.hid (fun wx (hb : Below w.heap.size w wx) => of_any x p HSH.out.2.2.1 wx (HP.out.keep hb))
    have hnl : p.nm.length ≤ 65536 := by
      simp only [fewB, Bool.and_eq_true, decide_eq_true_eq] at f1; omega
    have HRR := Lib.hid (fun y wx (h : PatA wx y p) => rright_any y p wx h hnl HSH.out.2.2.1)
    obtain ⟨S, hS⟩ : ∃ S : ByteArray, S = ⟨(prnR p).toArray⟩ := ⟨_, rfl⟩
    obtain ⟨pe, hpe⟩ : ∃ pe, pe = prnE p := ⟨_, rfl⟩
    rw [← hS, ← hpe] at HPR
    clear hS hpe hnl f1
    cases hr : right p with
    | false =>
      have hz : pskP p n = zP ∧ pskE p n = 1 ∧ fbP p = zP ∧ fbE p = 1 := by
        unfold pskP pskE fbP fbE; rw [hr]; exact ⟨rfl, rfl, rfl, rfl⟩
      rw [hz.1, hz.2.1] at HPK
      rw [hz.2.2.1, hz.2.2.2] at HFB
      rw [hr] at HRR
      clear hz hr
      unfold patV at HF HPR HPK HFB HOF HRR ⊢
      simp only [zP, List.length_nil] at HPK HFB
      go_enter Tryz.func3, Tryz.ntmps3
      go_wp2_with (first
        | (go_at_call 4; refine (HF.out _ HW.out.bel).mono ?_; rintro e w1 ⟨rfl, hb1⟩; have HB1 := Lib.hid (HW.out.keep hb1); clear hb1; obtain ⟨a0, a1, a2, a3⟩ := HB1.out.cells)
        | (go_at_call 6; refine (HPR.out _ HB1.out.bel).mono ?_; rintro e w2 ⟨rfl, hb2⟩; have HB2 := Lib.hid (HB1.out.keep hb2); clear hb2 a0 a1 a2 a3; obtain ⟨a0, a1, a2, a3⟩ := HB2.out.cells)
        | (go_at_call 7; refine (HPK.out _ HB2.out.bel).mono ?_; rintro e w3 ⟨y3, rfl, hy3, hb3⟩; have HB3 := Lib.hid (HB2.out.keep hb3); have HY3 := Lib.hid hy3; clear hb3 hy3 a0 a1 a2 a3; obtain ⟨a0, a1, a2, a3⟩ := HB3.out.cells; have lp3 := lt_of_heap HB3.out.bx; have K3 := Lib.hid ((Below.refl w3.heap.size w3).alloc (Nat.le_refl _) (.cells #[.string ⟨#[]⟩, .slice y3.s0 0 y3.c0, .slice y3.s1 0 y3.c1, .slice y3.s2 0 y3.c2] 26)); have Q3 := Lib.hid (heap_alloc_new w3 (.cells #[.string ⟨#[]⟩, .slice y3.s0 0 y3.c0, .slice y3.s1 0 y3.c1, .slice y3.s2 0 y3.c2] 26)))
        | (go_at_call 8; refine (HFB.out _ (HB3.out.keep K3.out).bel).mono ?_; rintro e w4 ⟨y4, rfl, hy4, hb4⟩; have HB4 := Lib.hid ((HB3.out.keep K3.out).keep hb4); have HYA := Lib.hid ((HY3.out.keep K3.out).keep hb4); have QA := Lib.hid ((hb4.block _ (lt_of_heap Q3.out)).trans Q3.out); have HYB := Lib.hid hy4; clear hb4 hy4 a0 a1 a2 a3 lp3; obtain ⟨a0, a1, a2, a3⟩ := HB4.out.cells; have lp4 := lt_of_heap HB4.out.bx; have K4 := Lib.hid ((Below.refl w4.heap.size w4).alloc (Nat.le_refl _) (.cells #[.string ⟨#[]⟩, .slice y4.s0 0 y4.c0, .slice y4.s1 0 y4.c1, .slice y4.s2 0 y4.c2] 26)); have Q4 := Lib.hid (heap_alloc_new w4 (.cells #[.string ⟨#[]⟩, .slice y4.s0 0 y4.c0, .slice y4.s1 0 y4.c1, .slice y4.s2 0 y4.c2] 26)))
        | (go_at_call 10; refine (HOF.out _ (HB4.out.keep K4.out).bel).mono ?_; rintro e w5 ⟨y5, rfl, hy5, hb5⟩; have HB5 := Lib.hid ((HB4.out.keep K4.out).keep hb5); have HYA5 := Lib.hid ((HYA.out.keep K4.out).keep hb5); have HYB5 := Lib.hid ((HYB.out.keep K4.out).keep hb5); have QA5 := Lib.hid (((K4.out.trans (hb5.mono (by simp))).block _ (lt_of_heap QA.out)).trans QA.out); have QB5 := Lib.hid ((hb5.block _ (lt_of_heap Q4.out)).trans Q4.out); have HY5 := Lib.hid hy5; clear hb5 hy5 a0 a1 a2 a3 lp4)
        | (go_at_call 9; refine (HRR.out y5 _ HY5.out).mono ?_; rintro e w6 ⟨rfl, hb6⟩; have HB6 := Lib.hid (HB5.out.keep hb6); have HYA6 := Lib.hid (HYA5.out.keep hb6); have HYB6 := Lib.hid (HYB5.out.keep hb6); have QA6 := Lib.hid ((hb6.block _ (lt_of_heap QA5.out)).trans QA5.out); have QB6 := Lib.hid ((hb6.block _ (lt_of_heap QB5.out)).trans QB5.out); clear hb6; obtain ⟨c0, c1, c2, c3, -⟩ := box4c QA6.out; obtain ⟨d0, d1, d2, d3, -⟩ := box4c QB6.out))
      have HS3 : Hid (∀ wx, PatA wx y3 zP → Calls Tryz.prog 11 #[.agg #[.string ⟨#[]⟩, .slice y3.s0 0 y3.c0, .slice y3.s1 0 y3.c1, .slice y3.s2 0 y3.c2], .agg #[.string ⟨#[]⟩, .slice none 0 0, .slice none 0 0, .slice none 0 0]] wx fun e w' => e = .returned (.bool true) ∧ Below wx.heap.size wx w') := Lib.hid (fun wx h => same_zero y3 wx h)
      have HS4 : Hid (∀ wx, PatA wx y4 zP → Calls Tryz.prog 11 #[.agg #[.string ⟨#[]⟩, .slice y4.s0 0 y4.c0, .slice y4.s1 0 y4.c1, .slice y4.s2 0 y4.c2], .agg #[.string ⟨#[]⟩, .slice none 0 0, .slice none 0 0, .slice none 0 0]] wx fun e w' => e = .returned (.bool true) ∧ Below wx.heap.size wx w') := Lib.hid (fun wx h => same_zero y4 wx h)
      refine (HS3.out _ HYA6.out).mono ?_
      rintro e w7 ⟨rfl, hb7⟩
      have HB7 := Lib.hid (HB6.out.keep hb7)
      have HYB7 := Lib.hid (HYB6.out.keep hb7)
      have QB7 := Lib.hid ((hb7.block _ (lt_of_heap QB6.out)).trans QB6.out)
      clear hb7 c0 c1 c2 c3 d0 d1 d2 d3
      obtain ⟨d0, d1, d2, d3, -⟩ := box4c QB7.out
      go_wp2_with (first
        | (go_at_call 11; refine (HS4.out _ HYB7.out).mono ?_; rintro e w8 ⟨rfl, hb8⟩; have HB8 := Lib.hid (HB7.out.keep hb8); clear hb8)
        | (go_at_call 5; refine (HA.out _ HB8.out.bel).mono ?_; rintro e w9 ⟨rfl, hb9⟩; have HB9 := Lib.hid (HB8.out.bel.trans (hb9.mono HB8.out.bel.size)); clear hb9))
      go_ret
      exact ⟨rfl, HB9.out⟩
    | true =>
      have HRP := Lib.hid (fun y wx (h : PatA wx y p) => rpsk_any y p n wx h hr)
      have HRF := Lib.hid (fun y wx (h : PatA wx y p) => rfall_any y p wx h hr)
      rw [hr] at HRR
      obtain ⟨a, ha⟩ : ∃ a, a = pskP p n := ⟨_, rfl⟩
      obtain ⟨b, hb⟩ : ∃ b, b = fbP p := ⟨_, rfl⟩
      obtain ⟨ea, hea⟩ : ∃ ea, ea = pskE p n := ⟨_, rfl⟩
      obtain ⟨eb, heb⟩ : ∃ eb, eb = fbE p := ⟨_, rfl⟩
      rw [← ha, ← hea] at HPK HRP
      rw [← hb, ← heb] at HFB HRF
      have HSA : Hid (shortP a) := Lib.hid (by
        rw [ha]
        by_cases h : pskE p n = 0
        · exact right_short (psk_right h)
        · rw [psk_zero h]; exact zero_short)
      have HSB : Hid (shortP b) := Lib.hid (by
        rw [hb]
        by_cases h : fbE p = 0
        · exact right_short (fb_right h)
        · rw [fb_zero h]; exact zero_short)
      have HOA := Lib.hid (fun y wx (h : PatA wx y a) => of_any y a HSA.out.2.2.1 wx h)
      have HOB := Lib.hid (fun y wx (h : PatA wx y b) => of_any y b HSB.out.2.2.1 wx h)
      have HQA : Hid (∀ u v wx, PatA wx u a → PatA wx v a → Calls Tryz.prog 14 #[patV u a, patV v a] wx fun e w' => e = .returned (.bool true) ∧ Below wx.heap.size wx w') := Lib.hid (fun u v wx h1 h2 => (rsame_any u v a a wx h1 h2 HSA.out HSA.out).mono fun _ _ ⟨he, hb⟩ => ⟨by rw [he]; simp, hb⟩)
      have HQB : Hid (∀ u v wx, PatA wx u b → PatA wx v b → Calls Tryz.prog 14 #[patV u b, patV v b] wx fun e w' => e = .returned (.bool true) ∧ Below wx.heap.size wx w') := Lib.hid (fun u v wx h1 h2 => (rsame_any u v b b wx h1 h2 HSB.out HSB.out).mono fun _ _ ⟨he, hb⟩ => ⟨by rw [he]; simp, hb⟩)
      clear ha hb hea heb hr
      unfold patV at HF HPR HPK HFB HOF HRR HRP HRF HOA HOB HQA HQB ⊢
      go_enter Tryz.func3, Tryz.ntmps3
      have HB0 := HW
      go_wp2_with fail
      go_at_call 4
      refine (HF.out _ HB0.out.bel).mono ?_
      rintro e w1 ⟨rfl, hb1⟩
      have hbk := hb1
      have HB1 := Lib.hid (HB0.out.keep hbk)
      clear hb1 hbk
      obtain ⟨a0, a1, a2, a3⟩ := HB1.out.cells
      have lp := lt_of_heap HB1.out.bx
      go_wp2_with fail
      go_at_call 6
      refine (HPR.out _ HB1.out.bel).mono ?_
      rintro e w2 ⟨rfl, hb2⟩
      have hbk := hb2
      have HB2 := Lib.hid (HB1.out.keep hbk)
      clear hb2 hbk
      clear a0 a1 a2 a3 lp
      obtain ⟨a0, a1, a2, a3⟩ := HB2.out.cells
      have lp := lt_of_heap HB2.out.bx
      go_wp2_with fail
      go_at_call 7
      refine (HPK.out _ HB2.out.bel).mono ?_
      rintro e w3 ⟨y3, rfl, hy3, hb3⟩
      have hbk := hb3.alloc hb3.size (.cells #[.string ⟨a.nm.toArray⟩, .slice y3.s0 a.p0.length y3.c0, .slice y3.s1 a.p1.length y3.c1, .slice y3.s2 a.ms.length y3.c2] 26)
      have QA3 := Lib.hid (bt_new (T := 26) hy3)
      have HB3 := Lib.hid (HB2.out.keep hbk)
      clear hb3 hbk hy3
      clear a0 a1 a2 a3 lp
      obtain ⟨a0, a1, a2, a3⟩ := HB3.out.cells
      have lp := lt_of_heap HB3.out.bx
      go_wp2_with fail
      go_at_call 8
      refine (HFB.out _ HB3.out.bel).mono ?_
      rintro e w4 ⟨y4, rfl, hy4, hb4⟩
      have hbk := hb4.alloc hb4.size (.cells #[.string ⟨b.nm.toArray⟩, .slice y4.s0 b.p0.length y4.c0, .slice y4.s1 b.p1.length y4.c1, .slice y4.s2 b.ms.length y4.c2] 26)
      have QB4 := Lib.hid (bt_new (T := 26) hy4)
      have HB4 := Lib.hid (HB3.out.keep hbk)
      have QA4 := Lib.hid (QA3.out.keep hbk)
      clear hb4 hbk hy4
      clear a0 a1 a2 a3 lp
      obtain ⟨a0, a1, a2, a3⟩ := HB4.out.cells
      have lp := lt_of_heap HB4.out.bx
      go_wp2_with fail
      go_at_call 10
      refine (HOF.out _ HB4.out.bel).mono ?_
      rintro e w5 ⟨y5, rfl, hy5, hb5⟩
      have hbk := hb5
      have HB5 := Lib.hid (HB4.out.keep hbk)
      have QA5 := Lib.hid (QA4.out.keep hbk)
      have QB5 := Lib.hid (QB4.out.keep hbk)
      have HY5 := Lib.hid hy5
      clear hb5 hbk hy5
      clear a0 a1 a2 a3 lp
      obtain ⟨a0, a1, a2, a3⟩ := HB5.out.cells
      have lp := lt_of_heap HB5.out.bx
      go_wp2_with fail
      go_at_call 9
      refine (HRR.out y5 _ HY5.out).mono ?_
      rintro e w6 ⟨rfl, hb6⟩
      have hbk := hb6
      have HB6 := Lib.hid (HB5.out.keep hbk)
      have QA6 := Lib.hid (QA5.out.keep hbk)
      have QB6 := Lib.hid (QB5.out.keep hbk)
      clear hb6 hbk
      clear a0 a1 a2 a3 lp
      obtain ⟨a0, a1, a2, a3⟩ := HB6.out.cells
      have lp := lt_of_heap HB6.out.bx
      go_wp2_with fail
      go_at_call 10
      refine (HOF.out _ HB6.out.bel).mono ?_
      rintro e w7 ⟨y7, rfl, hy7, hb7⟩
      have hbk := hb7
      have HB7 := Lib.hid (HB6.out.keep hbk)
      have QA7 := Lib.hid (QA6.out.keep hbk)
      have QB7 := Lib.hid (QB6.out.keep hbk)
      have HY7 := Lib.hid hy7
      clear hb7 hbk hy7
      clear a0 a1 a2 a3 lp
      obtain ⟨a0, a1, a2, a3⟩ := HB7.out.cells
      have lp := lt_of_heap HB7.out.bx
      go_wp2_with fail
      go_at_call 12
      refine (HRP.out y7 _ HY7.out).mono ?_
      rintro e w8 ⟨y8, rfl, hy8, hb8⟩
      have hbk := hb8.alloc hb8.size (.cells #[.string ⟨a.nm.toArray⟩, .slice y8.s0 a.p0.length y8.c0, .slice y8.s1 a.p1.length y8.c1, .slice y8.s2 a.ms.length y8.c2] 38)
      have QX8 := Lib.hid (bt_new (T := 38) hy8)
      have HB8 := Lib.hid (HB7.out.keep hbk)
      have QA8 := Lib.hid (QA7.out.keep hbk)
      have QB8 := Lib.hid (QB7.out.keep hbk)
      clear hb8 hbk hy8
      clear a0 a1 a2 a3 lp
      obtain ⟨a0, a1, a2, a3⟩ := HB8.out.cells
      have lp := lt_of_heap HB8.out.bx
      go_wp2_with fail
      go_at_call 10
      refine (HOF.out _ HB8.out.bel).mono ?_
      rintro e w9 ⟨y9, rfl, hy9, hb9⟩
      have hbk := hb9
      have HB9 := Lib.hid (HB8.out.keep hbk)
      have QA9 := Lib.hid (QA8.out.keep hbk)
      have QB9 := Lib.hid (QB8.out.keep hbk)
      have QX9 := Lib.hid (QX8.out.keep hbk)
      have HY9 := Lib.hid hy9
      clear hb9 hbk hy9
      clear a0 a1 a2 a3 lp
      obtain ⟨a0, a1, a2, a3⟩ := HB9.out.cells
      have lp := lt_of_heap HB9.out.bx
      go_wp2_with fail
      go_at_call 13
      refine (HRF.out y9 _ HY9.out).mono ?_
      rintro e w10 ⟨y10, rfl, hy10, hb10⟩
      have hbk := hb10.alloc hb10.size (.cells #[.string ⟨b.nm.toArray⟩, .slice y10.s0 b.p0.length y10.c0, .slice y10.s1 b.p1.length y10.c1, .slice y10.s2 b.ms.length y10.c2] 38)
      have QY10 := Lib.hid (bt_new (T := 38) hy10)
      have HB10 := Lib.hid (HB9.out.keep hbk)
      have QA10 := Lib.hid (QA9.out.keep hbk)
      have QB10 := Lib.hid (QB9.out.keep hbk)
      have QX10 := Lib.hid (QX9.out.keep hbk)
      clear hb10 hbk hy10
      clear a0 a1 a2 a3 lp
      obtain ⟨a0, a1, a2, a3⟩ := HB10.out.cells
      have lp := lt_of_heap HB10.out.bx
      go_wp2_with fail
      go_at_call 6
      refine (HPR.out _ HB10.out.bel).mono ?_
      rintro e w11 ⟨rfl, hb11⟩
      have hbk := hb11
      have HB11 := Lib.hid (HB10.out.keep hbk)
      have QA11 := Lib.hid (QA10.out.keep hbk)
      have QB11 := Lib.hid (QB10.out.keep hbk)
      have QX11 := Lib.hid (QX10.out.keep hbk)
      have QY11 := Lib.hid (QY10.out.keep hbk)
      clear hb11 hbk a0 a1 a2 a3 lp
      obtain ⟨⟨a0, a1, a2, a3⟩, la⟩ := QA11.out.cells
      obtain ⟨⟨b0, b1, b2, b3⟩, lb⟩ := QB11.out.cells
      obtain ⟨⟨c0, c1, c2, c3⟩, lc⟩ := QX11.out.cells
      obtain ⟨⟨d0, d1, d2, d3⟩, ld⟩ := QY11.out.cells
      go_wp2_with fail
      refine wp_region_noPanic ?_
      refine wp_region_held_drew (S := (fun w' => w'.cell? ⟨w3.heap.size, 0, none⟩ = some (.string ⟨a.nm.toArray⟩) ∧ w'.cell? ⟨w3.heap.size, 1, none⟩ = some (.slice y3.s0 a.p0.length y3.c0) ∧ w'.cell? ⟨w3.heap.size, 2, none⟩ = some (.slice y3.s1 a.p1.length y3.c1) ∧ w'.cell? ⟨w3.heap.size, 3, none⟩ = some (.slice y3.s2 a.ms.length y3.c2) ∧ w'.cell? ⟨w4.heap.size, 0, none⟩ = some (.string ⟨b.nm.toArray⟩) ∧ w'.cell? ⟨w4.heap.size, 1, none⟩ = some (.slice y4.s0 b.p0.length y4.c0) ∧ w'.cell? ⟨w4.heap.size, 2, none⟩ = some (.slice y4.s1 b.p1.length y4.c1) ∧ w'.cell? ⟨w4.heap.size, 3, none⟩ = some (.slice y4.s2 b.ms.length y4.c2) ∧ w'.cell? ⟨w8.heap.size, 0, none⟩ = some (.string ⟨a.nm.toArray⟩) ∧ w'.cell? ⟨w8.heap.size, 1, none⟩ = some (.slice y8.s0 a.p0.length y8.c0) ∧ w'.cell? ⟨w8.heap.size, 2, none⟩ = some (.slice y8.s1 a.p1.length y8.c1) ∧ w'.cell? ⟨w8.heap.size, 3, none⟩ = some (.slice y8.s2 a.ms.length y8.c2) ∧ w'.cell? ⟨w10.heap.size, 0, none⟩ = some (.string ⟨b.nm.toArray⟩) ∧ w'.cell? ⟨w10.heap.size, 1, none⟩ = some (.slice y10.s0 b.p0.length y10.c0) ∧ w'.cell? ⟨w10.heap.size, 2, none⟩ = some (.slice y10.s1 b.p1.length y10.c1) ∧ w'.cell? ⟨w10.heap.size, 3, none⟩ = some (.slice y10.s2 b.ms.length y10.c2))) (by kernel_rfl) ?_ (fun hHeld => ?_)
      · exact ⟨a0, a1, a2, a3, b0, b1, b2, b3, c0, c1, c2, c3, d0, d1, d2, d3⟩
      refine wpAnyH_take (i := 0) (v := ?_) rfl (by kernel_rfl) (by kernel_rfl) (by kernel_rfl) (fun _ _ _ h => h) (Or.inl ⟨by rfl, ?_⟩) (by assumption) ?_
      rotate_left
      · (intro w hSw; (try dsimp only at hSw); go_simp; try with_reducible rfl)
      try simp only [List.getElem_toArray, List.getElem_cons_succ, List.getElem_cons_zero, Act.put, List.setIfInBounds_toArray, List.set_cons_zero, List.set_cons_succ]
      refine wpAnyH_take (i := 2) (v := ?_) rfl (by kernel_rfl) (by kernel_rfl) (by kernel_rfl) (fun _ _ _ h => h) (Or.inl ⟨by rfl, ?_⟩) (by assumption) ?_
      rotate_left
      · (intro w hSw; (try dsimp only at hSw); go_simp; try with_reducible rfl)
      try simp only [List.getElem_toArray, List.getElem_cons_succ, List.getElem_cons_zero, Act.put, List.setIfInBounds_toArray, List.set_cons_zero, List.set_cons_succ]
      refine wpAnyH_ready (rs := [1]) (by kernel_rfl) (by simp) ?_
      refine AllReadyH.cons rfl (fun K hK => ?_) AllReadyH.nil
      go_simp
      refine (HOA.out y3 _ (QA11.out.keep (Below.refl _ _).drew).pa).mono ?_
      rintro e v12 ⟨ya, rfl, hya, hb12⟩
      have HYA := Lib.hid hya
      have HB12 := Lib.hid ((HB11.out.keep (Below.refl _ _).drew).keep hb12)
      have QA12 := Lib.hid ((QA11.out.keep (Below.refl _ _).drew).keep hb12)
      have QB12 := Lib.hid ((QB11.out.keep (Below.refl _ _).drew).keep hb12)
      have QX12 := Lib.hid ((QX11.out.keep (Below.refl _ _).drew).keep hb12)
      have QY12 := Lib.hid ((QY11.out.keep (Below.refl _ _).drew).keep hb12)
      clear a0 a1 a2 a3 la b0 b1 b2 b3 lb c0 c1 c2 c3 lc d0 d1 d2 d3 ld
      obtain ⟨⟨a0, a1, a2, a3⟩, la⟩ := QA12.out.cells
      obtain ⟨⟨b0, b1, b2, b3⟩, lb⟩ := QB12.out.cells
      obtain ⟨⟨c0, c1, c2, c3⟩, lc⟩ := QX12.out.cells
      obtain ⟨⟨d0, d1, d2, d3⟩, ld⟩ := QY12.out.cells
      clear hya hb12
      go_wp2_with fail
      refine hK.out _ _ ?_ (fun hHeld => ?_)
      · exact ⟨a0, a1, a2, a3, b0, b1, b2, b3, c0, c1, c2, c3, d0, d1, d2, d3⟩
      clear hK K
      try simp only [List.getElem_toArray, List.getElem_cons_succ, List.getElem_cons_zero, Act.put, List.setIfInBounds_toArray, List.set_cons_zero, List.set_cons_succ]
      refine wpAnyH_ready (rs := [3]) (by kernel_rfl) (by simp) ?_
      refine AllReadyH.cons rfl (fun K hK => ?_) AllReadyH.nil
      go_simp
      refine (HQA.out ya y8 _ HYA.out QX12.out.pa).mono ?_
      rintro e v13 ⟨rfl, hb13⟩
      have HB13 := Lib.hid (HB12.out.keep hb13)
      have QA13 := Lib.hid (QA12.out.keep hb13)
      have QB13 := Lib.hid (QB12.out.keep hb13)
      have QX13 := Lib.hid (QX12.out.keep hb13)
      have QY13 := Lib.hid (QY12.out.keep hb13)
      clear a0 a1 a2 a3 la b0 b1 b2 b3 lb c0 c1 c2 c3 lc d0 d1 d2 d3 ld
      obtain ⟨⟨a0, a1, a2, a3⟩, la⟩ := QA13.out.cells
      obtain ⟨⟨b0, b1, b2, b3⟩, lb⟩ := QB13.out.cells
      obtain ⟨⟨c0, c1, c2, c3⟩, lc⟩ := QX13.out.cells
      obtain ⟨⟨d0, d1, d2, d3⟩, ld⟩ := QY13.out.cells
      clear hb13
      go_wp2_with fail
      refine hK.out _ _ ?_ (fun hHeld => ?_)
      · exact ⟨a0, a1, a2, a3, b0, b1, b2, b3, c0, c1, c2, c3, d0, d1, d2, d3⟩
      clear hK K
      try simp only [List.getElem_toArray, List.getElem_cons_succ, List.getElem_cons_zero, Act.put, List.setIfInBounds_toArray, List.set_cons_zero, List.set_cons_succ]
      refine wpAnyH_take (i := 4) (v := ?_) rfl (by kernel_rfl) (by kernel_rfl) (by kernel_rfl) (fun _ _ _ h => h) (Or.inl ⟨by rfl, ?_⟩) (by assumption) ?_
      rotate_left
      · (intro w hSw; (try dsimp only at hSw); go_simp; try with_reducible rfl)
      try simp only [List.getElem_toArray, List.getElem_cons_succ, List.getElem_cons_zero, Act.put, List.setIfInBounds_toArray, List.set_cons_zero, List.set_cons_succ]
      refine wpAnyH_take (i := 5) (v := ?_) rfl (by kernel_rfl) (by kernel_rfl) (by kernel_rfl) (fun _ _ _ h => h) (Or.inl ⟨by rfl, ?_⟩) (by assumption) ?_
      rotate_left
      · (intro w hSw; (try dsimp only at hSw); go_simp; try with_reducible rfl)
      try simp only [List.getElem_toArray, List.getElem_cons_succ, List.getElem_cons_zero, Act.put, List.setIfInBounds_toArray, List.set_cons_zero, List.set_cons_succ]
      refine wpAnyH_take (i := 6) (v := ?_) rfl (by kernel_rfl) (by kernel_rfl) (by kernel_rfl) (fun _ _ _ h => h) (Or.inl ⟨by rfl, ?_⟩) (by assumption) ?_
      rotate_left
      · (intro w hSw; (try dsimp only at hSw); go_simp; try with_reducible rfl)
      try simp only [List.getElem_toArray, List.getElem_cons_succ, List.getElem_cons_zero, Act.put, List.setIfInBounds_toArray, List.set_cons_zero, List.set_cons_succ]
      refine wpAnyH_take (i := 7) (v := ?_) rfl (by kernel_rfl) (by kernel_rfl) (by kernel_rfl) (fun _ _ _ h => h) (Or.inl ⟨by rfl, ?_⟩) (by assumption) ?_
      rotate_left
      · (intro w hSw; (try dsimp only at hSw); go_simp; try with_reducible rfl)
      try simp only [List.getElem_toArray, List.getElem_cons_succ, List.getElem_cons_zero, Act.put, List.setIfInBounds_toArray, List.set_cons_zero, List.set_cons_succ]
      refine wpAnyH_take (i := 8) (v := ?_) rfl (by kernel_rfl) (by kernel_rfl) (by kernel_rfl) (fun _ _ _ h => h) (Or.inl ⟨by rfl, ?_⟩) (by assumption) ?_
      rotate_left
      · (intro w hSw; (try dsimp only at hSw); go_simp; try with_reducible rfl)
      try simp only [List.getElem_toArray, List.getElem_cons_succ, List.getElem_cons_zero, Act.put, List.setIfInBounds_toArray, List.set_cons_zero, List.set_cons_succ]
      refine wpAnyH_take (i := 9) (v := ?_) rfl (by kernel_rfl) (by kernel_rfl) (by kernel_rfl) (fun _ _ _ h => h) (Or.inl ⟨by rfl, ?_⟩) (by assumption) ?_
      rotate_left
      · (intro w hSw; (try dsimp only at hSw); go_simp; try with_reducible rfl)
      try simp only [List.getElem_toArray, List.getElem_cons_succ, List.getElem_cons_zero, Act.put, List.setIfInBounds_toArray, List.set_cons_zero, List.set_cons_succ]
      refine wpAnyH_take (i := 10) (v := ?_) rfl (by kernel_rfl) (by kernel_rfl) (by kernel_rfl) (fun _ _ _ h => h) (Or.inl ⟨by rfl, ?_⟩) (by assumption) ?_
      rotate_left
      · (intro w hSw; (try dsimp only at hSw); go_simp; try with_reducible rfl)
      try simp only [List.getElem_toArray, List.getElem_cons_succ, List.getElem_cons_zero, Act.put, List.setIfInBounds_toArray, List.set_cons_zero, List.set_cons_succ]
      refine wpAnyH_take (i := 12) (v := ?_) rfl (by kernel_rfl) (by kernel_rfl) (by kernel_rfl) (fun _ _ _ h => h) (Or.inl ⟨by rfl, ?_⟩) (by assumption) ?_
      rotate_left
      · (intro w hSw; (try dsimp only at hSw); go_simp; try with_reducible rfl)
      try simp only [List.getElem_toArray, List.getElem_cons_succ, List.getElem_cons_zero, Act.put, List.setIfInBounds_toArray, List.set_cons_zero, List.set_cons_succ]
      refine wpAnyH_ready (rs := [11]) (by kernel_rfl) (by simp) ?_
      refine AllReadyH.cons rfl (fun K hK => ?_) AllReadyH.nil
      go_simp
      refine (HOB.out y4 _ QB13.out.pa).mono ?_
      rintro e v14 ⟨yb, rfl, hyb, hb14⟩
      have HYB := Lib.hid hyb
      have HB14 := Lib.hid (HB13.out.keep hb14)
      have QA14 := Lib.hid (QA13.out.keep hb14)
      have QB14 := Lib.hid (QB13.out.keep hb14)
      have QX14 := Lib.hid (QX13.out.keep hb14)
      have QY14 := Lib.hid (QY13.out.keep hb14)
      clear a0 a1 a2 a3 la b0 b1 b2 b3 lb c0 c1 c2 c3 lc d0 d1 d2 d3 ld
      obtain ⟨⟨a0, a1, a2, a3⟩, la⟩ := QA14.out.cells
      obtain ⟨⟨b0, b1, b2, b3⟩, lb⟩ := QB14.out.cells
      obtain ⟨⟨c0, c1, c2, c3⟩, lc⟩ := QX14.out.cells
      obtain ⟨⟨d0, d1, d2, d3⟩, ld⟩ := QY14.out.cells
      clear hyb hb14
      go_wp2_with fail
      refine hK.out _ _ ?_ (fun hHeld => ?_)
      · exact ⟨a0, a1, a2, a3, b0, b1, b2, b3, c0, c1, c2, c3, d0, d1, d2, d3⟩
      clear hK K
      try simp only [List.getElem_toArray, List.getElem_cons_succ, List.getElem_cons_zero, Act.put, List.setIfInBounds_toArray, List.set_cons_zero, List.set_cons_succ]
      refine wpAnyH_ready (rs := [13]) (by kernel_rfl) (by simp) ?_
      refine AllReadyH.cons rfl (fun K hK => ?_) AllReadyH.nil
      go_simp
      refine (HQB.out yb y10 _ HYB.out QY14.out.pa).mono ?_
      rintro e v15 ⟨rfl, hb15⟩
      have HB15 := Lib.hid (HB14.out.keep hb15)
      have QA15 := Lib.hid (QA14.out.keep hb15)
      have QB15 := Lib.hid (QB14.out.keep hb15)
      have QX15 := Lib.hid (QX14.out.keep hb15)
      have QY15 := Lib.hid (QY14.out.keep hb15)
      clear a0 a1 a2 a3 la b0 b1 b2 b3 lb c0 c1 c2 c3 lc d0 d1 d2 d3 ld
      obtain ⟨⟨a0, a1, a2, a3⟩, la⟩ := QA15.out.cells
      obtain ⟨⟨b0, b1, b2, b3⟩, lb⟩ := QB15.out.cells
      obtain ⟨⟨c0, c1, c2, c3⟩, lc⟩ := QX15.out.cells
      obtain ⟨⟨d0, d1, d2, d3⟩, ld⟩ := QY15.out.cells
      clear hb15
      go_wp2_with fail
      refine hK.out _ _ ?_ (fun hHeld => ?_)
      · exact ⟨a0, a1, a2, a3, b0, b1, b2, b3, c0, c1, c2, c3, d0, d1, d2, d3⟩
      clear hK K
      try simp only [List.getElem_toArray, List.getElem_cons_succ, List.getElem_cons_zero, Act.put, List.setIfInBounds_toArray, List.set_cons_zero, List.set_cons_succ]
      refine wpAnyH_take (i := 14) (v := ?_) rfl (by kernel_rfl) (by kernel_rfl) (by kernel_rfl) (fun _ _ _ h => h) (Or.inl ⟨by rfl, ?_⟩) (by assumption) ?_
      rotate_left
      · (intro w hSw; (try dsimp only at hSw); go_simp; try with_reducible rfl)
      try simp only [List.getElem_toArray, List.getElem_cons_succ, List.getElem_cons_zero, Act.put, List.setIfInBounds_toArray, List.set_cons_zero, List.set_cons_succ]
      refine wpAnyH_take (i := 15) (v := ?_) rfl (by kernel_rfl) (by kernel_rfl) (by kernel_rfl) (fun _ _ _ h => h) (Or.inl ⟨by rfl, ?_⟩) (by assumption) ?_
      rotate_left
      · (intro w hSw; (try dsimp only at hSw); go_simp; try with_reducible rfl)
      try simp only [List.getElem_toArray, List.getElem_cons_succ, List.getElem_cons_zero, Act.put, List.setIfInBounds_toArray, List.set_cons_zero, List.set_cons_succ]
      refine wpAnyH_take (i := 16) (v := ?_) rfl (by kernel_rfl) (by kernel_rfl) (by kernel_rfl) (fun _ _ _ h => h) (Or.inl ⟨by rfl, ?_⟩) (by assumption) ?_
      rotate_left
      · (intro w hSw; (try dsimp only at hSw); go_simp; try with_reducible rfl)
      try simp only [List.getElem_toArray, List.getElem_cons_succ, List.getElem_cons_zero, Act.put, List.setIfInBounds_toArray, List.set_cons_zero, List.set_cons_succ]
      refine wpAnyH_take (i := 17) (v := ?_) rfl (by kernel_rfl) (by kernel_rfl) (by kernel_rfl) (fun _ _ _ h => h) (Or.inl ⟨by rfl, ?_⟩) (by assumption) ?_
      rotate_left
      · (intro w hSw; (try dsimp only at hSw); go_simp; try with_reducible rfl)
      try simp only [List.getElem_toArray, List.getElem_cons_succ, List.getElem_cons_zero, Act.put, List.setIfInBounds_toArray, List.set_cons_zero, List.set_cons_succ]
      refine wpAnyH_take (i := 18) (v := ?_) rfl (by kernel_rfl) (by kernel_rfl) (by kernel_rfl) (fun _ _ _ h => h) (Or.inl ⟨by rfl, ?_⟩) (by assumption) ?_
      rotate_left
      · (intro w hSw; (try dsimp only at hSw); go_simp; try with_reducible rfl)
      try simp only [List.getElem_toArray, List.getElem_cons_succ, List.getElem_cons_zero, Act.put, List.setIfInBounds_toArray, List.set_cons_zero, List.set_cons_succ]
      refine wpAnyH_take (i := 19) (v := ?_) rfl (by kernel_rfl) (by kernel_rfl) (by kernel_rfl) (fun _ _ _ h => h) (Or.inl ⟨by rfl, ?_⟩) (by assumption) ?_
      rotate_left
      · (intro w hSw; (try dsimp only at hSw); go_simp; try with_reducible rfl)
      try simp only [List.getElem_toArray, List.getElem_cons_succ, List.getElem_cons_zero, Act.put, List.setIfInBounds_toArray, List.set_cons_zero, List.set_cons_succ]
      refine wpAnyH_take (i := 20) (v := ?_) rfl (by kernel_rfl) (by kernel_rfl) (by kernel_rfl) (fun _ _ _ h => h) (Or.inl ⟨by rfl, ?_⟩) (by assumption) ?_
      rotate_left
      · (intro w hSw; (try dsimp only at hSw); go_simp; try with_reducible rfl)
      try simp only [List.getElem_toArray, List.getElem_cons_succ, List.getElem_cons_zero, Act.put, List.setIfInBounds_toArray, List.set_cons_zero, List.set_cons_succ]
      refine wpAnyH_take (i := 21) (v := ?_) rfl (by kernel_rfl) (by kernel_rfl) (by kernel_rfl) (fun _ _ _ h => h) (Or.inl ⟨by rfl, ?_⟩) (by assumption) ?_
      rotate_left
      · (intro w hSw; (try dsimp only at hSw); go_simp; try with_reducible rfl)
      try simp only [List.getElem_toArray, List.getElem_cons_succ, List.getElem_cons_zero, Act.put, List.setIfInBounds_toArray, List.set_cons_zero, List.set_cons_succ]
      refine wpAnyH_take (i := 22) (v := ?_) rfl (by kernel_rfl) (by kernel_rfl) (by kernel_rfl) (fun _ _ _ h => h) (Or.inl ⟨by rfl, ?_⟩) (by assumption) ?_
      rotate_left
      · (intro w hSw; (try dsimp only at hSw); go_simp; try with_reducible rfl)
      try simp only [List.getElem_toArray, List.getElem_cons_succ, List.getElem_cons_zero, Act.put, List.setIfInBounds_toArray, List.set_cons_zero, List.set_cons_succ]
      refine wpAnyH_take (i := 23) (v := ?_) rfl (by kernel_rfl) (by kernel_rfl) (by kernel_rfl) (fun _ _ _ h => h) (Or.inl ⟨by rfl, ?_⟩) (by assumption) ?_
      rotate_left
      · (intro w hSw; (try dsimp only at hSw); go_simp; try with_reducible rfl)
      try simp only [List.getElem_toArray, List.getElem_cons_succ, List.getElem_cons_zero, Act.put, List.setIfInBounds_toArray, List.set_cons_zero, List.set_cons_succ]
      refine wpAnyH_take (i := 24) (v := ?_) rfl (by kernel_rfl) (by kernel_rfl) (by kernel_rfl) (fun _ _ _ h => h) (Or.inl ⟨by rfl, ?_⟩) (by assumption) ?_
      rotate_left
      · (intro w hSw; (try dsimp only at hSw); go_simp; try with_reducible rfl)
      try simp only [List.getElem_toArray, List.getElem_cons_succ, List.getElem_cons_zero, Act.put, List.setIfInBounds_toArray, List.set_cons_zero, List.set_cons_succ]
      refine wpAnyH_take (i := 25) (v := ?_) rfl (by kernel_rfl) (by kernel_rfl) (by kernel_rfl) (fun _ _ _ h => h) (Or.inl ⟨by rfl, ?_⟩) (by assumption) ?_
      rotate_left
      · (intro w hSw; (try dsimp only at hSw); go_simp; try with_reducible rfl)
      try simp only [List.getElem_toArray, List.getElem_cons_succ, List.getElem_cons_zero, Act.put, List.setIfInBounds_toArray, List.set_cons_zero, List.set_cons_succ]
      refine wpAnyH_ready (rs := [26]) (by kernel_rfl) (by simp) ?_
      refine AllReadyH.cons rfl (fun K hK => ?_) AllReadyH.nil
      go_simp
      refine (HA.out _ HB15.out.bel).mono ?_
      rintro e v16 ⟨rfl, hb16⟩
      have HB16 := Lib.hid (HB15.out.keep hb16)
      have QA16 := Lib.hid (QA15.out.keep hb16)
      have QB16 := Lib.hid (QB15.out.keep hb16)
      have QX16 := Lib.hid (QX15.out.keep hb16)
      have QY16 := Lib.hid (QY15.out.keep hb16)
      clear a0 a1 a2 a3 la b0 b1 b2 b3 lb c0 c1 c2 c3 lc d0 d1 d2 d3 ld
      obtain ⟨⟨a0, a1, a2, a3⟩, la⟩ := QA16.out.cells
      obtain ⟨⟨b0, b1, b2, b3⟩, lb⟩ := QB16.out.cells
      obtain ⟨⟨c0, c1, c2, c3⟩, lc⟩ := QX16.out.cells
      obtain ⟨⟨d0, d1, d2, d3⟩, ld⟩ := QY16.out.cells
      clear hb16
      go_wp2_with fail
      refine hK.out _ _ ?_ (fun hHeld => ?_)
      · exact ⟨a0, a1, a2, a3, b0, b1, b2, b3, c0, c1, c2, c3, d0, d1, d2, d3⟩
      clear hK K
      try simp only [List.getElem_toArray, List.getElem_cons_succ, List.getElem_cons_zero, Act.put, List.setIfInBounds_toArray, List.set_cons_zero, List.set_cons_succ]
      refine wpAnyH_take (i := 27) (v := ?_) rfl (by kernel_rfl) (by kernel_rfl) (by kernel_rfl) (fun _ _ _ h => h) (Or.inl ⟨by rfl, ?_⟩) (by assumption) ?_
      rotate_left
      · (intro w hSw; (try dsimp only at hSw); go_simp; try with_reducible rfl)
      try simp only [List.getElem_toArray, List.getElem_cons_succ, List.getElem_cons_zero, Act.put, List.setIfInBounds_toArray, List.set_cons_zero, List.set_cons_succ]
      refine wpAnyH_take (i := 28) (v := ?_) rfl (by kernel_rfl) (by kernel_rfl) (by kernel_rfl) (fun _ _ _ h => h) (Or.inl ⟨by rfl, ?_⟩) (by assumption) ?_
      rotate_left
      · (intro w hSw; (try dsimp only at hSw); go_simp; try with_reducible rfl)
      try simp only [List.getElem_toArray, List.getElem_cons_succ, List.getElem_cons_zero, Act.put, List.setIfInBounds_toArray, List.set_cons_zero, List.set_cons_succ]
      refine wpAnyH_done (by kernel_rfl) ?_ _
      refine NoPanic.normal ?_
      go_wp2_with fail
      go_ret
      exact ⟨rfl, HB16.out.bel⟩
end Go.Proofs.YtkdcdnkfcbngaaaGreatDoor
