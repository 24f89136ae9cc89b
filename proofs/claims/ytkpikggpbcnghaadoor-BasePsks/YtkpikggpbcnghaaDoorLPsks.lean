/- The law BasePsks. -/
import Derived.Test.YtkpikggpbcnghaaDoorLa6
namespace Go.Proofs.YtkpikggpbcnghaaDoor
open Go.RowKit Go.Shelf

theorem psk_len {p : Pt} {n : Int} (h : pskE p n = 0) : (pskP p n).ms.length = p.ms.length ∧ (pskP p n).nm = p.nm := by rw [psk_eq h]; simp
theorem psk_other {p : Pt} {n : Int} (h : pskE p n = 0) {k : Nat} (hk : k ≠ pskI n) : ((pskP p n).ms.getD k default).t.length = (p.ms.getD k default).t.length := by
  rw [psk_eq h]; simp only [List.getD_eq_getElem?_getD]; rw [List.getElem?_set_ne (fun e => hk e.symm)]
theorem psk_at {p : Pt} {n : Int} (h : pskE p n = 0) : ((pskP p n).ms.getD (pskI n) default).t = insT n (p.ms.getD (pskI n) default).t := by
  obtain ⟨hr, hf⟩ := psk_ok h
  have hlt := pskI_lt hr hf
  rw [psk_eq h]; simp only [List.getD_eq_getElem?_getD]; rw [List.getElem?_set_self hlt]
  show insT n (p.ms.getD (pskI n) default).t = _
  simp only [List.getD_eq_getElem?_getD]

set_option maxRecDepth 100000 in
set_option maxHeartbeats 2000000 in
theorem psks_good (x : Sl) (p : Pt) (n : Int) (w : World) (hE : Eb w) (hp : PatA w x p) : Calls Tryd.prog 5 #[patV x p, .int .i64 n] w fun e w' => e = .returned (.bool true) ∧ Below w.heap.size w w' := by
  have HE := Lib.hid hE; clear hE
  have HP := Lib.hid hp; clear hp
  have HA := Lib.hid (fun wx (hb : Below w.heap.size w wx) => awake_any wx (HE.out.keep hb))
  have HF := Lib.hid (fun wx (hb : Below w.heap.size w wx) => few_any x p wx (HP.out.keep hb))
  have HFB := Lib.hid (fun wx (hb : Below w.heap.size w wx) => psk_any x p n wx (HP.out.keep hb))
  have HW := Lib.hid (bx_new w x p)
  unfold patV at HF HFB ⊢
  by_cases he : pskE p n = 0
  · obtain ⟨q, hq⟩ : ∃ q, q = pskP p n := ⟨_, rfl⟩
    obtain ⟨hr, hok⟩ := psk_ok he
    have hlt := pskI_lt hr hok
    obtain ⟨hlen, -, htl⟩ := first_len hr
    have hnb : 0 ≤ n ∧ n ≤ 6 := by
      simp only [pskOk, Bool.and_eq_true, decide_eq_true_eq] at hok; omega
    have HK : Hid (q.ms.length = p.ms.length ∧ q.nm = p.nm ∧ (∀ k, k ≠ pskI n → (q.ms.getD k default).t.length = (p.ms.getD k default).t.length) ∧ (q.ms.getD (pskI n) default).t = insT n (p.ms.getD (pskI n) default).t) := Lib.hid (by
      rw [hq]; exact ⟨(psk_len he).1, (psk_len he).2, fun k hk => psk_other he hk, psk_at he⟩)
    rw [he, ← hq] at HFB
    rw [HK.out.1, HK.out.2.1] at HFB
    have HTL := Lib.hid htl
    have HLN := Lib.hid hlen
    have HLT := Lib.hid hlt
    clear hr hok hlt hlen htl he hq
    cases f1 : fewB p with
    | false =>
      rw [f1] at HF
      clear f1
      go_enter Tryd.func5, Tryd.ntmps5
      go_wp2_with (first
        | (go_at_call 18; refine (HFB.out _ HW.out.bel).mono ?_; rintro e w1 ⟨y, rfl, hy1, hb1⟩; have HY1 := Lib.hid hy1; have HB1 := Lib.hid (HW.out.keep hb1); clear hb1 hy1; have HC1 := Lib.hid (HB1.out.keep ((Below.refl _ _).alloc (Nat.le_refl _) (.cells #[.string ⟨p.nm.toArray⟩, .slice y.s0 q.p0.length y.c0, .slice y.s1 q.p1.length y.c1, .slice y.s2 p.ms.length y.c2] 29))); have HQ1 := Lib.hid (heap_alloc_new w1 (.cells #[.string ⟨p.nm.toArray⟩, .slice y.s0 q.p0.length y.c0, .slice y.s1 q.p1.length y.c1, .slice y.s2 p.ms.length y.c2] 29)); obtain ⟨a0, a1, a2, a3⟩ := HB1.out.cells; have lp1 := lt_of_heap HB1.out.bx)
        | (go_at_call 19; refine (HF.out _ HC1.out.bel).mono ?_; rintro e w2 ⟨rfl, hb2⟩; have HC2 := Lib.hid (HC1.out.keep hb2); have HQ2 := Lib.hid ((hb2.block _ (lt_of_heap HQ1.out)).trans HQ1.out); have HY2 := Lib.hid (HY1.out.keep (((Below.refl _ _).alloc (Nat.le_refl _) _).trans (hb2.mono (by simp)))); clear hb2 a0 a1 a2 a3 lp1; obtain ⟨a0, a1, a2, a3⟩ := HC2.out.cells; obtain ⟨b0, b1, b2, b3, -⟩ := box4c HQ2.out)
        | (go_at_call 8; refine (HA.out _ HC2.out.bel).mono ?_; rintro e w9 ⟨rfl, hb9⟩; have HB9 := Lib.hid (HC2.out.bel.trans (hb9.mono HC2.out.bel.size)); clear hb9))
      go_ret
      exact ⟨rfl, HB9.out⟩
    | true =>
      rw [f1] at HF
      clear f1
      have hlt2 : ¬ (p.ms.length : Int) ≤ (pskI n : Int) := by have := HLT.out; omega
      have hat : max (n - 1) 0 = (pskI n : Int) := by unfold pskI; omega
      have hw : IntKind.i64.wrap (n - 1) = n - 1 := by
        by_cases h : n = 0
        · subst h; rfl
        · exact wrap_small (by omega) (by omega)
      go_enter Tryd.func5, Tryd.ntmps5
      go_wp2_with (first
        | (go_at_call 18; refine (HFB.out _ HW.out.bel).mono ?_; rintro e w1 ⟨y, rfl, hy1, hb1⟩; have HY1 := Lib.hid hy1; have HB1 := Lib.hid (HW.out.keep hb1); clear hb1 hy1; have HC1 := Lib.hid (HB1.out.keep ((Below.refl _ _).alloc (Nat.le_refl _) (.cells #[.string ⟨p.nm.toArray⟩, .slice y.s0 q.p0.length y.c0, .slice y.s1 q.p1.length y.c1, .slice y.s2 p.ms.length y.c2] 29))); have HQ1 := Lib.hid (heap_alloc_new w1 (.cells #[.string ⟨p.nm.toArray⟩, .slice y.s0 q.p0.length y.c0, .slice y.s1 q.p1.length y.c1, .slice y.s2 p.ms.length y.c2] 29)); obtain ⟨a0, a1, a2, a3⟩ := HB1.out.cells; have lp1 := lt_of_heap HB1.out.bx)
        | (go_at_call 19; refine (HF.out _ HC1.out.bel).mono ?_; rintro e w2 ⟨rfl, hb2⟩; have HC2 := Lib.hid (HC1.out.keep hb2); have HQ2 := Lib.hid ((hb2.block _ (lt_of_heap HQ1.out)).trans HQ1.out); have HY2 := Lib.hid (HY1.out.keep (((Below.refl _ _).alloc (Nat.le_refl _) _).trans (hb2.mono (by simp)))); clear hb2 a0 a1 a2 a3 lp1; obtain ⟨a0, a1, a2, a3⟩ := HC2.out.cells; obtain ⟨b0, b1, b2, b3, -⟩ := box4c HQ2.out))
      have HST := Lib.hid (And.intro HC2.out (And.intro HQ2.out HY2.out))
      clear a0 a1 a2 a3 b0 b1 b2 b3 HC1 HC2 HQ1 HQ2 HY1 HY2 HB1 hw
      have HI0 : Hid ((n = 0 → pskI n = 0) ∧ (∀ t, insT n t = if n = 0 then 7 :: t else t ++ [7])) := Lib.hid ⟨fun h => by rw [h]; rfl, fun t => rfl⟩
      generalize pskI n = j at *
      clear hat hlt2
      have hj6 : (j : Int) < 6 := by have := HLT.out; have := HLN.out; omega
      generalize n - 1 = n1
      generalize decide (p.ms.length ≤ j) = bz
      go_loopg [8, 9, 10, 52] p.ms.length (fun g _ _ _ u52 wr => ∃ k : Nat, k + g = p.ms.length ∧ u52 = .int .i64 k ∧ Aside (Bx w w.heap.size x p wr ∧ wr.heap[w1.heap.size]? = some (.cells #[.string ⟨p.nm.toArray⟩, .slice y.s0 q.p0.length y.c0, .slice y.s1 q.p1.length y.c1, .slice y.s2 p.ms.length y.c2] 29 (0, 0)) ∧ PatA wr y q))
      case atStart => exact ⟨0, by omega, rfl, HST.out⟩
      case round =>
        obtain ⟨k, hkq, rfl, hr⟩ := hrel
        have HR := Lib.hid hr.out
        clear hr
        obtain ⟨a0, a1, a2, a3⟩ := HR.out.1.cells
        obtain ⟨b0, b1, b2, b3, -⟩ := box4c HR.out.2.1
        by_cases hlt : k < p.ms.length
        · obtain ⟨g, o, hx2, hms⟩ := (HP.out.keep HR.out.1.bel).im (by omega)
          obtain ⟨-, sx, cx, m1, -⟩ := hms k hlt
          obtain ⟨g2, o2, hy2, hms2⟩ := HR.out.2.2.im (by rw [HK.out.1]; omega)
          obtain ⟨-, su, cu, m2, hu⟩ := hms2 k (by rw [HK.out.1]; exact hlt)
          clear hms hms2
          obtain ⟨tl, htl⟩ : ∃ n, n = (p.ms.getD k default).t.length := ⟨_, rfl⟩
          obtain ⟨U, hU⟩ : ∃ u, u = (q.ms.getD k default).t := ⟨_, rfl⟩
          rw [← htl] at m1
          rw [← hU] at m2 hu
          have HU := Lib.hid hu
          have hk2 : (k : Int) < p.ms.length := by omega
          have hl6 : (p.ms.length : Int) ≤ 6 := by have := HLN.out; omega
          have ht12 : tl ≤ 12 := by rw [htl]; exact (HTL.out k hlt).2
          rw [hx2] at a3
          rw [hy2] at b3
          rw [hx2, hy2]
          clear hu
          by_cases hkj : k = j
          · subst hkj
            have hUi : U = insT n (p.ms.getD k default).t := by rw [hU]; exact HK.out.2.2.2
            have hUl : U.length = tl + 1 := by rw [hUi, insT_len, htl]
            have hU13 : (U.length : Int) = (tl : Int) + 1 := by omega
            obtain ⟨gu, ou, hsu, hci⟩ := HU.out (by omega)
            subst hsu
            rw [hUl] at m2
            have hti : (tl : Int) ≤ 12 := by omega
            by_cases hn0 : n = 0
            · have c7 : wr.cell? ⟨gu, ou, none⟩ = some (.int .i64 7) := by
                have := hci 0 (by omega)
                rw [hUi, HI0.out.2, if_pos hn0] at this
                simpa using this
              subst hn0
              clear htl hU hUi hUl hU13 hci
              go_wp2_with fail
              go_quiet (fail)
              go_wp2_with fail
              rw [← hx2, ← hy2]
              go_roundg (p.ms.length - (k + 1))
              case measure => omega
              case rel => exact ⟨k + 1, by omega, by go_num, (show _ ∧ _ from ⟨HR.out.1.keep (belowN (Below.refl _ _)), (((belowN (Below.refl wr.heap.size wr)).block _ (lt_of_heap HR.out.2.1)).trans HR.out.2.1), HR.out.2.2.keep (belowN (Below.refl _ _))⟩)⟩
            · have c7 : wr.cell? ⟨gu, ou + tl, none⟩ = some (.int .i64 7) := by
                have := hci tl (by omega)
                rw [hUi, HI0.out.2, if_neg hn0, htl] at this
                rw [htl]
                simpa using this
              have hnz : (n == 0) = false := by simpa using hn0
              have hnp : 0 < n := by omega
              clear htl hU hUi hUl hU13 hci hn0
              go_wp2_with fail
              go_quiet (fail)
              go_wp2_with fail
              rw [← hx2, ← hy2]
              go_roundg (p.ms.length - (k + 1))
              case measure => omega
              case rel => exact ⟨k + 1, by omega, by go_num, (show _ ∧ _ from ⟨HR.out.1.keep (belowN (Below.refl _ _)), (((belowN (Below.refl wr.heap.size wr)).block _ (lt_of_heap HR.out.2.1)).trans HR.out.2.1), HR.out.2.2.keep (belowN (Below.refl _ _))⟩)⟩
          · have hkb : ((k : Int) == (j : Int)) = false := by simp; omega
            have hkb2 : ¬ (k : Int) = (j : Int) := by omega
            have hUl : U.length = tl := by rw [hU, htl]; exact HK.out.2.2.1 k hkj
            rw [hUl] at m2
            clear htl hU hUl
            go_wp2_with fail
            go_quiet (fail)
            go_wp2_with fail
            rw [← hx2, ← hy2]
            go_roundg (p.ms.length - (k + 1))
            case measure => omega
            case rel => exact ⟨k + 1, by omega, by go_num, (show _ ∧ _ from ⟨HR.out.1.keep (belowN (Below.refl _ _)), (((belowN (Below.refl wr.heap.size wr)).block _ (lt_of_heap HR.out.2.1)).trans HR.out.2.1), HR.out.2.2.keep (belowN (Below.refl _ _))⟩)⟩
        · have hk2 : ¬ (k : Int) < p.ms.length := by omega
          go_wp2_with (go_at_call 8; refine (HA.out _ HR.out.1.bel).mono ?_; rintro e w9 ⟨rfl, hb9⟩; have HB9 := Lib.hid (HR.out.1.bel.trans (hb9.mono HR.out.1.bel.size)); clear hb9)
          go_ret
          exact ⟨rfl, HB9.out⟩
  · have heb : (pskE p n == 0) = false := by simpa using he
    obtain ⟨q, hq⟩ : ∃ q, q = pskP p n := ⟨_, rfl⟩
    obtain ⟨fe, hfe⟩ : ∃ fe, fe = pskE p n := ⟨_, rfl⟩
    rw [← hq, ← hfe] at HFB
    rw [← hfe] at heb
    clear hq hfe he
    cases f1 : fewB p with
    | false =>
      rw [f1] at HF
      clear f1
      go_enter Tryd.func5, Tryd.ntmps5
      go_wp2_with (first
        | (go_at_call 18; refine (HFB.out _ HW.out.bel).mono ?_; rintro e w1 ⟨y, rfl, hy1, hb1⟩; have HY1 := Lib.hid hy1; have HB1 := Lib.hid (HW.out.keep hb1); clear hb1 hy1; have HC1 := Lib.hid (HB1.out.keep ((Below.refl _ _).alloc (Nat.le_refl _) (.cells #[.string ⟨q.nm.toArray⟩, .slice y.s0 q.p0.length y.c0, .slice y.s1 q.p1.length y.c1, .slice y.s2 q.ms.length y.c2] 29))); have HQ1 := Lib.hid (heap_alloc_new w1 (.cells #[.string ⟨q.nm.toArray⟩, .slice y.s0 q.p0.length y.c0, .slice y.s1 q.p1.length y.c1, .slice y.s2 q.ms.length y.c2] 29)); obtain ⟨a0, a1, a2, a3⟩ := HB1.out.cells; have lp1 := lt_of_heap HB1.out.bx)
        | (go_at_call 19; refine (HF.out _ HC1.out.bel).mono ?_; rintro e w2 ⟨rfl, hb2⟩; have HC2 := Lib.hid (HC1.out.keep hb2); have HQ2 := Lib.hid ((hb2.block _ (lt_of_heap HQ1.out)).trans HQ1.out); have HY2 := Lib.hid (HY1.out.keep (((Below.refl _ _).alloc (Nat.le_refl _) _).trans (hb2.mono (by simp)))); clear hb2 a0 a1 a2 a3 lp1; obtain ⟨a0, a1, a2, a3⟩ := HC2.out.cells; obtain ⟨b0, b1, b2, b3, -⟩ := box4c HQ2.out)
        | (go_at_call 8; refine (HA.out _ HC2.out.bel).mono ?_; rintro e w9 ⟨rfl, hb9⟩; have HB9 := Lib.hid (HC2.out.bel.trans (hb9.mono HC2.out.bel.size)); clear hb9))
      go_ret
      exact ⟨rfl, HB9.out⟩
    | true =>
      rw [f1] at HF
      clear f1
      go_enter Tryd.func5, Tryd.ntmps5
      go_wp2_with (first
        | (go_at_call 18; refine (HFB.out _ HW.out.bel).mono ?_; rintro e w1 ⟨y, rfl, hy1, hb1⟩; have HY1 := Lib.hid hy1; have HB1 := Lib.hid (HW.out.keep hb1); clear hb1 hy1; have HC1 := Lib.hid (HB1.out.keep ((Below.refl _ _).alloc (Nat.le_refl _) (.cells #[.string ⟨q.nm.toArray⟩, .slice y.s0 q.p0.length y.c0, .slice y.s1 q.p1.length y.c1, .slice y.s2 q.ms.length y.c2] 29))); have HQ1 := Lib.hid (heap_alloc_new w1 (.cells #[.string ⟨q.nm.toArray⟩, .slice y.s0 q.p0.length y.c0, .slice y.s1 q.p1.length y.c1, .slice y.s2 q.ms.length y.c2] 29)); obtain ⟨a0, a1, a2, a3⟩ := HB1.out.cells; have lp1 := lt_of_heap HB1.out.bx)
        | (go_at_call 19; refine (HF.out _ HC1.out.bel).mono ?_; rintro e w2 ⟨rfl, hb2⟩; have HC2 := Lib.hid (HC1.out.keep hb2); have HQ2 := Lib.hid ((hb2.block _ (lt_of_heap HQ1.out)).trans HQ1.out); have HY2 := Lib.hid (HY1.out.keep (((Below.refl _ _).alloc (Nat.le_refl _) _).trans (hb2.mono (by simp)))); clear hb2 a0 a1 a2 a3 lp1; obtain ⟨a0, a1, a2, a3⟩ := HC2.out.cells; obtain ⟨b0, b1, b2, b3, -⟩ := box4c HQ2.out)
        | (go_at_call 8; refine (HA.out _ HC2.out.bel).mono ?_; rintro e w9 ⟨rfl, hb9⟩; have HB9 := Lib.hid (HC2.out.bel.trans (hb9.mono HC2.out.bel.size)); clear hb9))
      go_ret
      exact ⟨rfl, HB9.out⟩
end Go.Proofs.YtkpikggpbcnghaaDoor
