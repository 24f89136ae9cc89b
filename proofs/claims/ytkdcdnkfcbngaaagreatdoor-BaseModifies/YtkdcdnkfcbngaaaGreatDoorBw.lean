/- Layer 6: the walk of the reference's Psk. -/
import Derived.Test.YtkdcdnkfcbngaaaGreatDoorBv
namespace Go.Proofs.YtkdcdnkfcbngaaaGreatDoor
open Go.RowKit Go.Shelf

theorem own_some {w : World} {B n : Nat} {t : TypeId} {v : Value} {xs : List Value} (h : w.ownsRow B t 1 v n xs) (h1 : 1 ≤ n) : ∃ g c, v = .slice (some ⟨g, 0, none⟩) n c := by
  obtain ⟨_, ⟨_, e⟩ | ⟨g, cap, _, e, _⟩⟩ := h
  · omega
  · exact ⟨g, cap, e⟩
theorem rpsk_end {w wr : World} {x : Sl} {p : Pt} {L : List Ms} {sv : Option Addr} {cv : Nat} {sg : Option Addr} {ng cg : Nat} (hp : PatA w x p) (h : Rb w (.string ⟨p.nm.toArray⟩) (.slice x.s0 p.p0.length x.c0) (.slice x.s1 p.p1.length x.c1) (.slice sg ng cg) wr) (hm : MsR wr (w.heap.size + 2) (.slice sv p.ms.length cv) L) (hL : L.length = p.ms.length) (u0 u1 u2 u3 u4 : Value) :
    ∃ y, Ending.returned (.tuple #[.agg #[.string ⟨p.nm.toArray⟩, .slice x.s0 p.p0.length x.c0, .slice x.s1 p.p1.length x.c1, .slice sv p.ms.length cv], .int .i64 0]) = .returned (.tuple #[.agg #[.string ⟨p.nm.toArray⟩, .slice y.s0 p.p0.length y.c0, .slice y.s1 p.p1.length y.c1, .slice y.s2 L.length y.c2], .int .i64 0]) ∧
      PatA (((((wr.setCell ⟨w.heap.size, 3, none⟩ u0).setCell ⟨w.heap.size + 1, 0, none⟩ u1).setCell ⟨w.heap.size + 1, 1, none⟩ u2).setCell ⟨w.heap.size + 1, 2, none⟩ u3).setCell ⟨w.heap.size + 1, 3, none⟩ u4) y ⟨p.nm, p.p0, p.p1, L⟩ ∧
      Below w.heap.size w (((((wr.setCell ⟨w.heap.size, 3, none⟩ u0).setCell ⟨w.heap.size + 1, 0, none⟩ u1).setCell ⟨w.heap.size + 1, 1, none⟩ u2).setCell ⟨w.heap.size + 1, 2, none⟩ u3).setCell ⟨w.heap.size + 1, 3, none⟩ u4) := by
  obtain ⟨s, c, e, hM, hc⟩ := hm.msgs
  have e1 : sv = s ∧ cv = c := by
    have := Value.slice.inj e
    exact ⟨this.1, this.2.2⟩
  have hA : PatA wr ⟨x.s0, x.c0, x.s1, x.c1, sv, cv⟩ ⟨p.nm, p.p0, p.p1, L⟩ := ⟨hp.i0.keep h.bel, hp.i1.keep h.bel, by rw [e1.1]; exact hM, by rw [e1.2]; exact hc⟩
  have h1 := hA.other (noInt_res h.pb) (fun j hj => Below.heap_setCell wr ⟨w.heap.size, 3, none⟩ u0 j (by simpa using hj))
  have hr : (wr.setCell ⟨w.heap.size, 3, none⟩ u0).heap[w.heap.size + 1]? = _ := (Below.heap_setCell _ _ _ _ (by simp)).trans h.res
  exact ⟨⟨x.s0, x.c0, x.s1, x.c1, sv, cv⟩, by rw [hL], h1.other (noInt_res hr) (set4_only _ _ _ _ _ _), set4_below (h.bel.setCell (Nat.le_refl _) _) (Nat.le_succ _) _ _ _ _⟩

set_option maxRecDepth 100000 in
set_option maxHeartbeats 4000000 in
theorem rpsk_in (x : Sl) (p : Pt) (n : Int) (w : World) (hp : PatA w x p) (hr : right p = true) (hok : pskOk p n = true) : Calls Tryz.prog 12 #[patV x p, .int .i64 n] w fun e w' => ∃ y, e = .returned (.tuple #[patV y (pskP p n), .int .i64 0]) ∧ PatA w' y (pskP p n) ∧ Below w.heap.size w w' := by
  obtain ⟨i0, hi0, hz0, hz1, hz2⟩ := info_parts Tryz.infoQ
  obtain ⟨j0, hj0, hjz0, hjz1, hjz2⟩ := info_parts Tryz.infoI
  obtain ⟨hlen, hpl, htl⟩ := first_len hr
  have hlt := pskI_lt hr hok
  have hnb : 0 ≤ n ∧ n ≤ p.ms.length ∧ (p.ms.getD (pskI n) default).t.length < 12 := by
    simp only [pskOk, Bool.and_eq_true, decide_eq_true_eq] at hok; exact ⟨hok.1.1, hok.1.2, hok.2⟩
  have heq := psk_eq (p := p) (n := n) (by unfold pskE; rw [hr, hok]; rfl)
  obtain ⟨L, hL⟩ : ∃ L, L = p.ms.set (pskI n) (pskM p n) := ⟨_, rfl⟩
  rw [← hL] at heq
  have HLE : Hid (L.length = p.ms.length ∧ (∀ k, k ≠ pskI n → L.getD k default = p.ms.getD k default) ∧ L.getD (pskI n) default = pskM p n) := Lib.hid (by
    rw [hL]
    refine ⟨by simp, fun k hk => ?_, ?_⟩
    · simp only [List.getD_eq_getElem?_getD]; rw [List.getElem?_set_ne (fun e => hk e.symm)]
    · simp only [List.getD_eq_getElem?_getD]; rw [List.getElem?_set_self hlt]; rfl)
  have HEQ := Lib.hid heq
  have HP := Lib.hid hp
  have HTL := Lib.hid htl
  have HLN := Lib.hid hlen
  obtain ⟨g, o, hx2, hms⟩ := hp.im (by omega)
  have h0 : ¬ n < 0 := by omega
  have hn1 : ¬ (p.ms.length : Int) < n := by omega
  have hn6 : n ≤ 6 := by omega
  have HMS := Lib.hid hms
  obtain ⟨-, sj, cj, mj, -⟩ := hms (pskI n) hlt
  obtain ⟨tj, htj⟩ : ∃ tj, tj = (p.ms.getD (pskI n) default).t.length := ⟨_, rfl⟩
  rw [← htj] at mj
  have lg := World.block_lt_of_cell? _ _ mj
  have htj12 : ¬ (12 : Int) ≤ tj := by omega
  have hji : (pskI n : Int) < p.ms.length := by omega
  have hl6 : (p.ms.length : Int) ≤ 6 := by omega
  have HRN := Lib.hid (rb_new w (.string ⟨p.nm.toArray⟩) (.slice x.s0 p.p0.length x.c0) (.slice x.s1 p.p1.length x.c1) (.slice (some ⟨g, o, none⟩) p.ms.length x.c2))
  have HNB := Lib.hid hnb
  have HLT := Lib.hid hlt
  unfold patV
  rw [hx2]
  rw [HEQ.out]
  clear hms hp hok heq hL hlen hpl htl hnb htj hr hlt
  have HJ0 : Hid (n = 0 → pskI n = 0) := Lib.hid (fun h => by rw [h]; rfl)
  have HPM : Hid (pskM p n = ⟨(p.ms.getD (pskI n) default).fr, insT n (p.ms.getD (pskI n) default).t⟩) := Lib.hid rfl
  have hat : n = 0 ∨ n - 1 = (pskI n : Int) := by
    by_cases h : n = 0
    · exact .inl h
    · right; unfold pskI; omega
  generalize pskI n = j at *
  rcases hat with hz | hj1
  · subst hz
    obtain rfl : j = 0 := HJ0.out rfl
    go_enter Tryz.func12, Tryz.ntmps12
    go_wp2_with fail
    generalize (w.alloc (.cells #[.string ⟨p.nm.toArray⟩, .slice x.s0 p.p0.length x.c0, .slice x.s1 p.p1.length x.c1, .slice (some ⟨g, o, none⟩) p.ms.length x.c2] 38)).alloc (.cells #[.string ⟨#[]⟩, .slice none 0 0, .slice none 0 0, .slice none 0 0] 38) = W at *
    go_loopg [7, 8, 9] p.ms.length (fun q u7 u8 _ wr => ∃ k : Nat, k + q = p.ms.length ∧ u8 = .int .i64 k ∧ Aside (Rp w (.string ⟨p.nm.toArray⟩) (.slice x.s0 p.p0.length x.c0) (.slice x.s1 p.p1.length x.c1) (.slice (some ⟨g, o, none⟩) p.ms.length x.c2) L k u7 wr))
    case atStart => exact ⟨0, by omega, rfl, ⟨HRN.out, ⟨[], rfl, World.ownsRow_nil _ _ _ _, fun i u hu => by simp at hu⟩⟩⟩
    case round =>
      obtain ⟨k, hkq, rfl, hrp⟩ := hrel
      have HR := Lib.hid hrp.out
      clear hrp
      obtain ⟨sv, cv, hsv, -, -⟩ := HR.out.ms.msgs
      by_cases hlt : k < p.ms.length
      · have hLk : (L.take k).length = k := by have := HLE.out.1; simp; omega
        rw [hLk] at hsv
        subst hsv
        obtain ⟨a0, a1, a2, a3, -⟩ := box4c HR.out.rb.pb
        obtain ⟨m0, sx, cx, m1, m2⟩ := (HMS.out k hlt).keep HR.out.rb.bel
        obtain ⟨f, hfe⟩ : ∃ f, f = (p.ms.getD k default).fr := ⟨_, rfl⟩
        obtain ⟨t, hte⟩ : ∃ t, t = (p.ms.getD k default).t := ⟨_, rfl⟩
        have htb : 1 ≤ t.length ∧ t.length ≤ 12 := by rw [hte]; exact HTL.out k hlt
        rw [← hfe] at m0
        rw [← hte] at m1 m2
        obtain ⟨gl, ol, hsx, hci⟩ := m2 (by omega)
        subst hsx
        have HCI := Lib.hid hci
        have HF := Lib.hid hfe
        have HT := Lib.hid hte
        have HTB := Lib.hid htb
        have hk2 : (k : Int) < p.ms.length := by omega
        have l0 := lt_of_heap HR.out.rb.pb
        have lgw := World.block_lt_of_cell? _ _ m0
        have llw : gl < wr.heap.size := World.block_lt_of_cell? _ _ (hci 0 (by omega))
        clear hci hfe hte m2 htb
        obtain ⟨vs, hv1, hv2, hv3⟩ := HR.out.ms
        have HV := Lib.hid (And.intro hv1 (And.intro hv2 hv3))
        clear hv1 hv2 hv3
        go_wp2_with (at_builtin; refine wpList_append_own _ rfl _ _ 22 rfl wr.heap.size 3 j0 (.int .i64 0) 1 8 Tryz.underlying22 hj0 hjz0 hjz1 hjz2 rfl (by decide) _ _ _ rfl (own_empty wr 3) ⟨gl, ol, none⟩ t.length cx (t.map (Value.int .i64)) rfl (by simp) ?c1 ?c2 ?c3 ?c4 ?c5 ?_)
        case c1 =>
          intro i u hu
          have := HCI.out i (List.getElem?_eq_some_iff.1 hu).1
          rw [List.getD_eq_getElem?_getD, hu] at this; exact this
        case c2 => intro a _; rfl
        case c3 => have := HTB.out.2; unfold maxLen; omega
        case c4 => have := HTB.out.2; omega
        intro v3 w3 hown3 hgr3 _
        have H3 : Hid (w3.ownsRow wr.heap.size 3 1 v3 t.length (t.map (Value.int .i64)) ∧ Below wr.heap.size wr w3) := Lib.hid ⟨by simpa using hown3, ((Below.refl wr.heap.size wr).alloc (Nat.le_refl _) _).grown hgr3 (by simp) (fun q e => ((own_empty wr 3).lt q e).1)⟩
        clear hown3 hgr3
        obtain ⟨g3, c3, hs3⟩ : ∃ g3 c3, v3 = .slice (some ⟨g3, 0, none⟩) t.length c3 := own_some H3.out.1 HTB.out.1
        subst hs3
        have R3 := Lib.hid (HR.out.rb.keep H3.out.2)
        have V3 : Hid (w3.ownsRow (w.heap.size + 2) 56 2 (.slice sv k cv) (L.take k).length (msC (L.take k) vs) ∧ ∀ i u, vs[i]? = some u → w3.ownsRow (w.heap.size + 2) 3 1 u ((L.take k).getD i default).t.length (((L.take k).getD i default).t.map (Value.int .i64))) := Lib.hid ⟨row_below HV.out.2.1 H3.out.2, fun i u hu => row_below (HV.out.2.2 i u hu) H3.out.2⟩
        have MK := Lib.hid (And.intro m0 m1)
        obtain ⟨e0, e1⟩ := keep2 H3.out.2 m0 m1
        clear a0 a1 a2 a3 m0 m1
        obtain ⟨a0, a1, a2, a3, -⟩ := box4c R3.out.pb
        have l3 : wr.heap.size ≤ w3.heap.size := H3.out.2.size
        have lgw3 : g < w3.heap.size := by omega
        have l03 : w.heap.size < w3.heap.size := by omega
        by_cases hkj : k = 0
        · subst hkj
          go_wp2_with (at_builtin; refine wpList_append_own _ rfl _ _ 22 rfl w3.heap.size 3 j0 (.int .i64 0) 1 8 Tryz.underlying22 hj0 hjz0 hjz1 hjz2 rfl (by decide) _ _ _ rfl (own_one w3 3 (.int .i64 7)) ⟨g3, 0, none⟩ t.length c3 (t.map (Value.int .i64)) rfl (by simp) ?d1 ?d2 ?d3 ?d4 ?d5 ?_)
          case d1 =>
            intro i u hu
            have HD := row_cells H3.out.1 i
            first
              | (have := HD (.int .i64 u) (by rw [List.getElem?_map, hu]; rfl)
                 rw [Nat.zero_add] at this
                 first | exact this | (rw [((Below.refl w3.heap.size w3).alloc (Nat.le_refl _) _).cell (p := ⟨g3, i, none⟩) (World.block_lt_of_cell? _ _ this)]; exact this))
              | (have := HD u hu
                 rw [Addr.add_lit]
                 rw [((Below.refl w3.heap.size w3).alloc (Nat.le_refl _) _).cell (p := ⟨g3, 0 + i, none⟩) (World.block_lt_of_cell? _ _ this)]; exact this)
          case d2 => first | (intro u _; rfl) | (intro u hu; simp at hu; obtain ⟨z, _, rfl⟩ := hu; rfl)
          case d3 => have := HTB.out.2; unfold maxLen; omega
          case d4 => have := HTB.out.2; omega
          case d5 => simp
          intro v5 w5 hown5 hgr5 _
          have H5 : Hid (w5.ownsRow wr.heap.size 3 1 v5 (t.length + 1) ((7 :: t).map (Value.int .i64)) ∧ Below wr.heap.size wr w5) := Lib.hid ⟨own_less (by have := hown5; rw [Nat.add_comm] at this; simpa using this) l3, (H3.out.2.alloc l3 _).grown hgr5 (by simp; omega) (fun q e => Nat.le_trans l3 ((own_one w3 3 (.int .i64 7)).lt q e).1)⟩
          clear hown5 hgr5
          obtain ⟨s5, c5, hs5⟩ := own_slice H5.out.1
          subst hs5
          have R5 := Lib.hid (HR.out.rb.keep H5.out.2)
          have V5 : Hid (w5.ownsRow (w.heap.size + 2) 56 2 (.slice sv 0 cv) (L.take 0).length (msC (L.take 0) vs) ∧ ∀ i u, vs[i]? = some u → w5.ownsRow (w.heap.size + 2) 3 1 u ((L.take 0).getD i default).t.length (((L.take 0).getD i default).t.map (Value.int .i64))) := Lib.hid ⟨row_below HV.out.2.1 H5.out.2, fun i u hu => row_below (HV.out.2.2 i u hu) H5.out.2⟩
          obtain ⟨q0, q1⟩ := keep2 H5.out.2 MK.out.1 MK.out.2
          simp only [Nat.zero_mul, Nat.add_zero] at q0 q1
          clear a0 a1 a2 a3 e0 e1
          obtain ⟨a0, a1, a2, a3, -⟩ := box4c R5.out.pb
          have l5 : wr.heap.size ≤ w5.heap.size := H5.out.2.size
          have lgw5 : g < w5.heap.size := by omega
          have l05 : w.heap.size < w5.heap.size := by omega
          go_wp2_with (at_builtin; refine wpList_append_own _ rfl _ _ 36 rfl (w.heap.size + 2) 56 i0 (.agg #[.int .i64 0, .slice none 0 0]) 2 32 Tryz.underlying36 hi0 hz0 hz1 hz2 rfl (by decide) _ _ _ rfl (World.ownsRow.alloc (by have := V5.out.1; rw [hLk] at this; exact this) _) ⟨w5.heap.size, 0, none⟩ 1 1 [.int .i64 f, .slice s5 (t.length + 1) c5] rfl rfl ?e1 ?e2 ?e3 ?e4 ?e5 ?_)
          case e1 =>
            intro j u hj
            match j, hj with
            | 0, hj => simp at hj; subst hj; simp [Addr.add]
            | 1, hj => simp at hj; subst hj; simp [Addr.add]
          case e2 => intro u hu; simp at hu; rcases hu with rfl | rfl <;> rfl
          case e3 => have := HLN.out; unfold maxLen; omega
          case e4 => have := HLN.out; omega
          case e5 => have := lt_of_heap R5.out.res; simp; omega
          intro v6 w6 hown6 hgr6 _
          have HN : Hid (Rp w (.string ⟨p.nm.toArray⟩) (.slice x.s0 p.p0.length x.c0) (.slice x.s1 p.p1.length x.c1) (.slice (some ⟨g, o, none⟩) p.ms.length x.c2) L (0 + 1) v6 w6) := Lib.hid (Rp.step (m := ⟨f, 7 :: t⟩) (vs := vs) (u := .slice s5 (t.length + 1) c5) R5.out (by rw [HLE.out.1]; exact hlt) (by rw [HLE.out.2.2, HPM.out, HF.out, HT.out]; rfl) ((Below.refl _ _).alloc (Nat.le_refl _) _) HV.out.1 (World.ownsRow.alloc V5.out.1 _) (fun i u hu => World.ownsRow.alloc (V5.out.2 i u hu) _) (World.ownsRow.alloc (own_less (by simpa using H5.out.1) (by have := lt_of_heap HR.out.rb.res; omega)) _) hgr6 (by rw [hLk]; exact hown6))
          clear hown6 hgr6
          go_wp2_with fail
          go_roundg (p.ms.length - (0 + 1))
          case measure => omega
          case rel => exact ⟨0 + 1, by omega, by go_num, HN.out⟩
        · have hkb : ((k : Int) == 0) = false := by simp; omega
          go_wp2_with (at_builtin; refine wpList_append_own _ rfl _ _ 36 rfl (w.heap.size + 2) 56 i0 (.agg #[.int .i64 0, .slice none 0 0]) 2 32 Tryz.underlying36 hi0 hz0 hz1 hz2 rfl (by decide) _ _ _ rfl (World.ownsRow.alloc (by have := V3.out.1; rw [hLk] at this; exact this) _) ⟨w3.heap.size, 0, none⟩ 1 1 [.int .i64 f, .slice (some ⟨g3, 0, none⟩) t.length c3] rfl rfl ?d1 ?d2 ?d3 ?d4 ?d5 ?_)
          case d1 =>
            intro j u hj
            match j, hj with
            | 0, hj => simp at hj; subst hj; simp [Addr.add]
            | 1, hj => simp at hj; subst hj; simp [Addr.add]
          case d2 => intro u hu; simp at hu; rcases hu with rfl | rfl <;> rfl
          case d3 => have := HLN.out; unfold maxLen; omega
          case d4 => have := HLN.out; omega
          case d5 => have := lt_of_heap R3.out.res; simp; omega
          intro v4 w4 hown4 hgr4 _
          have HN : Hid (Rp w (.string ⟨p.nm.toArray⟩) (.slice x.s0 p.p0.length x.c0) (.slice x.s1 p.p1.length x.c1) (.slice (some ⟨g, o, none⟩) p.ms.length x.c2) L (k + 1) v4 w4) := Lib.hid (Rp.step (m := ⟨f, t⟩) (vs := vs) (u := .slice (some ⟨g3, 0, none⟩) t.length c3) R3.out (by rw [HLE.out.1]; exact hlt) (by rw [HLE.out.2.1 k hkj, HF.out, HT.out]) ((Below.refl _ _).alloc (Nat.le_refl _) _) HV.out.1 (World.ownsRow.alloc V3.out.1 _) (fun i u hu => World.ownsRow.alloc (V3.out.2 i u hu) _) (World.ownsRow.alloc (own_less H3.out.1 (by have := lt_of_heap HR.out.rb.res; omega)) _) hgr4 (by rw [hLk]; exact hown4))
          clear hown4 hgr4
          go_wp2_with fail
          go_roundg (p.ms.length - (k + 1))
          case measure => omega
          case rel => exact ⟨k + 1, by omega, by go_num, HN.out⟩
      · have hk2 : ¬ (k : Int) < p.ms.length := by omega
        obtain rfl : k = p.ms.length := by omega
        have hLk : L.take p.ms.length = L := by rw [← HLE.out.1, List.take_length]
        have HMR : Hid (MsR wr (w.heap.size + 2) (.slice sv (L.take p.ms.length).length cv) L) := Lib.hid (by
          have := HR.out.ms; rw [hsv] at this; rw [hLk] at this ⊢; exact this)
        have hLl : (L.take p.ms.length).length = p.ms.length := by rw [hLk, HLE.out.1]
        rw [hLl] at hsv HMR
        subst hsv
        obtain ⟨a0, a1, a2, a3, z0, z1, z2, z3⟩ := box4c HR.out.rb.pb
        obtain ⟨r0, r1, r2, r3, y0, y1, y2, y3⟩ := box4c HR.out.rb.res
        go_wp2_with fail
        refine bodyPost_ret (v := .tuple #[.agg #[.string ⟨p.nm.toArray⟩, .slice x.s0 p.p0.length x.c0, .slice x.s1 p.p1.length x.c1, .slice sv p.ms.length cv], .int .i64 0]) (by rw [results_cell_tmp rfl]; go_simp) rfl ?_
        exact rpsk_end HP.out HR.out.rb HMR.out HLE.out.1 _ _ _ _ _
  · have hnz : (n == 0) = false := by
      have := HLT.out
      simp; omega
    have hnp : 0 < n := by omega
    go_enter Tryz.func12, Tryz.ntmps12
    go_wp2_with fail
    generalize (w.alloc (.cells #[.string ⟨p.nm.toArray⟩, .slice x.s0 p.p0.length x.c0, .slice x.s1 p.p1.length x.c1, .slice (some ⟨g, o, none⟩) p.ms.length x.c2] 38)).alloc (.cells #[.string ⟨#[]⟩, .slice none 0 0, .slice none 0 0, .slice none 0 0] 38) = W at *
    go_loopg [7, 8, 9] p.ms.length (fun q u7 u8 _ wr => ∃ k : Nat, k + q = p.ms.length ∧ u8 = .int .i64 k ∧ Aside (Rp w (.string ⟨p.nm.toArray⟩) (.slice x.s0 p.p0.length x.c0) (.slice x.s1 p.p1.length x.c1) (.slice (some ⟨g, o, none⟩) p.ms.length x.c2) L k u7 wr))
    case atStart => exact ⟨0, by omega, rfl, ⟨HRN.out, ⟨[], rfl, World.ownsRow_nil _ _ _ _, fun i u hu => by simp at hu⟩⟩⟩
    case round =>
      obtain ⟨k, hkq, rfl, hrp⟩ := hrel
      have HR := Lib.hid hrp.out
      clear hrp
      obtain ⟨sv, cv, hsv, -, -⟩ := HR.out.ms.msgs
      by_cases hlt : k < p.ms.length
      · have hLk : (L.take k).length = k := by have := HLE.out.1; simp; omega
        rw [hLk] at hsv
        subst hsv
        obtain ⟨a0, a1, a2, a3, -⟩ := box4c HR.out.rb.pb
        obtain ⟨m0, sx, cx, m1, m2⟩ := (HMS.out k hlt).keep HR.out.rb.bel
        obtain ⟨f, hfe⟩ : ∃ f, f = (p.ms.getD k default).fr := ⟨_, rfl⟩
        obtain ⟨t, hte⟩ : ∃ t, t = (p.ms.getD k default).t := ⟨_, rfl⟩
        have htb : 1 ≤ t.length ∧ t.length ≤ 12 := by rw [hte]; exact HTL.out k hlt
        rw [← hfe] at m0
        rw [← hte] at m1 m2
        obtain ⟨gl, ol, hsx, hci⟩ := m2 (by omega)
        subst hsx
        have HCI := Lib.hid hci
        have HF := Lib.hid hfe
        have HT := Lib.hid hte
        have HTB := Lib.hid htb
        have hk2 : (k : Int) < p.ms.length := by omega
        have l0 := lt_of_heap HR.out.rb.pb
        have lgw := World.block_lt_of_cell? _ _ m0
        have llw : gl < wr.heap.size := World.block_lt_of_cell? _ _ (hci 0 (by omega))
        clear hci hfe hte m2 htb
        obtain ⟨vs, hv1, hv2, hv3⟩ := HR.out.ms
        have HV := Lib.hid (And.intro hv1 (And.intro hv2 hv3))
        clear hv1 hv2 hv3
        go_wp2_with (at_builtin; refine wpList_append_own _ rfl _ _ 22 rfl wr.heap.size 3 j0 (.int .i64 0) 1 8 Tryz.underlying22 hj0 hjz0 hjz1 hjz2 rfl (by decide) _ _ _ rfl (own_empty wr 3) ⟨gl, ol, none⟩ t.length cx (t.map (Value.int .i64)) rfl (by simp) ?cx1 ?cx2 ?cx3 ?cx4 ?cx5 ?_)
        case cx1 =>
          intro i u hu
          have := HCI.out i (List.getElem?_eq_some_iff.1 hu).1
          rw [List.getD_eq_getElem?_getD, hu] at this; exact this
        case cx2 => intro a _; rfl
        case cx3 => have := HTB.out.2; unfold maxLen; omega
        case cx4 => have := HTB.out.2; omega
        intro v3 w3 hown3 hgr3 _
        have H3 : Hid (w3.ownsRow wr.heap.size 3 1 v3 t.length (t.map (Value.int .i64)) ∧ Below wr.heap.size wr w3) := Lib.hid ⟨by simpa using hown3, ((Below.refl wr.heap.size wr).alloc (Nat.le_refl _) _).grown hgr3 (by simp) (fun q e => ((own_empty wr 3).lt q e).1)⟩
        clear hown3 hgr3
        obtain ⟨s3, c3, hs3⟩ := own_slice H3.out.1
        subst hs3
        have R3 := Lib.hid (HR.out.rb.keep H3.out.2)
        have V3 : Hid (w3.ownsRow (w.heap.size + 2) 56 2 (.slice sv k cv) (L.take k).length (msC (L.take k) vs) ∧ ∀ i u, vs[i]? = some u → w3.ownsRow (w.heap.size + 2) 3 1 u ((L.take k).getD i default).t.length (((L.take k).getD i default).t.map (Value.int .i64))) := Lib.hid ⟨row_below HV.out.2.1 H3.out.2, fun i u hu => row_below (HV.out.2.2 i u hu) H3.out.2⟩
        have MK := Lib.hid (And.intro m0 m1)
        obtain ⟨e0, e1⟩ := keep2 H3.out.2 m0 m1
        clear a0 a1 a2 a3 m0 m1
        obtain ⟨a0, a1, a2, a3, -⟩ := box4c R3.out.pb
        have l3 : wr.heap.size ≤ w3.heap.size := H3.out.2.size
        have lgw3 : g < w3.heap.size := by omega
        have l03 : w.heap.size < w3.heap.size := by omega
        by_cases hkj : k = j
        · subst hkj
          go_wp2_with (at_builtin; refine wpList_append_own _ rfl _ _ 22 rfl wr.heap.size 3 j0 (.int .i64 0) 1 8 Tryz.underlying22 hj0 hjz0 hjz1 hjz2 rfl (by decide) _ _ _ rfl (World.ownsRow.alloc H3.out.1 _) ⟨w3.heap.size, 0, none⟩ 1 1 [.int .i64 7] rfl rfl ?dx1 ?dx2 ?dx3 ?dx4 ?dx5 ?_)
          case dx1 =>
            intro i u hu
            match i, hu with
            | 0, hu => simp at hu; subst hu; simp [Addr.add]
          case dx2 => intro u hu; simp at hu; subst hu; rfl
          case dx3 => have := HTB.out.2; unfold maxLen; omega
          case dx4 => have := HTB.out.2; omega
          case dx5 => simp; try omega
          intro v5 w5 hown5 hgr5 _
          have H5 : Hid (w5.ownsRow wr.heap.size 3 1 v5 (t.length + 1) ((t ++ [7]).map (Value.int .i64)) ∧ Below wr.heap.size wr w5) := Lib.hid ⟨by simpa using hown5, (H3.out.2.alloc l3 _).grown hgr5 (by simp; omega) (fun q e => (H3.out.1.lt q e).1)⟩
          clear hown5 hgr5
          obtain ⟨s5, c5, hs5⟩ := own_slice H5.out.1
          subst hs5
          have R5 := Lib.hid (HR.out.rb.keep H5.out.2)
          have V5 : Hid (w5.ownsRow (w.heap.size + 2) 56 2 (.slice sv k cv) (L.take k).length (msC (L.take k) vs) ∧ ∀ i u, vs[i]? = some u → w5.ownsRow (w.heap.size + 2) 3 1 u ((L.take k).getD i default).t.length (((L.take k).getD i default).t.map (Value.int .i64))) := Lib.hid ⟨row_below HV.out.2.1 H5.out.2, fun i u hu => row_below (HV.out.2.2 i u hu) H5.out.2⟩
          obtain ⟨q0, q1⟩ := keep2 H5.out.2 MK.out.1 MK.out.2
          clear a0 a1 a2 a3 e0 e1
          obtain ⟨a0, a1, a2, a3, -⟩ := box4c R5.out.pb
          have l5 : wr.heap.size ≤ w5.heap.size := H5.out.2.size
          have lgw5 : g < w5.heap.size := by omega
          have l05 : w.heap.size < w5.heap.size := by omega
          go_wp2_with (at_builtin; refine wpList_append_own _ rfl _ _ 36 rfl (w.heap.size + 2) 56 i0 (.agg #[.int .i64 0, .slice none 0 0]) 2 32 Tryz.underlying36 hi0 hz0 hz1 hz2 rfl (by decide) _ _ _ rfl (World.ownsRow.alloc (by have := V5.out.1; rw [hLk] at this; exact this) _) ⟨w5.heap.size, 0, none⟩ 1 1 [.int .i64 f, .slice s5 (t.length + 1) c5] rfl rfl ?ex1 ?ex2 ?ex3 ?ex4 ?ex5 ?_)
          case ex1 =>
            intro j u hj
            match j, hj with
            | 0, hj => simp at hj; subst hj; simp [Addr.add]
            | 1, hj => simp at hj; subst hj; simp [Addr.add]
          case ex2 => intro u hu; simp at hu; rcases hu with rfl | rfl <;> rfl
          case ex3 => have := HLN.out; unfold maxLen; omega
          case ex4 => have := HLN.out; omega
          case ex5 => have := lt_of_heap R5.out.res; simp; omega
          intro v6 w6 hown6 hgr6 _
          have HN : Hid (Rp w (.string ⟨p.nm.toArray⟩) (.slice x.s0 p.p0.length x.c0) (.slice x.s1 p.p1.length x.c1) (.slice (some ⟨g, o, none⟩) p.ms.length x.c2) L (k + 1) v6 w6) := Lib.hid (Rp.step (m := ⟨f, t ++ [7]⟩) (vs := vs) (u := .slice s5 (t.length + 1) c5) R5.out (by rw [HLE.out.1]; exact hlt) (by rw [HLE.out.2.2, HPM.out, HF.out, HT.out]; unfold insT; first | rw [if_pos rfl] | rw [if_neg (by omega)]) ((Below.refl _ _).alloc (Nat.le_refl _) _) HV.out.1 (World.ownsRow.alloc V5.out.1 _) (fun i u hu => World.ownsRow.alloc (V5.out.2 i u hu) _) (World.ownsRow.alloc (own_less (by simpa using H5.out.1) (by have := lt_of_heap HR.out.rb.res; omega)) _) hgr6 (by rw [hLk]; exact hown6))
          clear hown6 hgr6
          go_wp2_with fail
          go_roundg (p.ms.length - (k + 1))
          case measure => omega
          case rel => exact ⟨k + 1, by omega, by go_num, HN.out⟩
        · have hkb : ((k : Int) == (j : Int)) = false := by simp; omega
          go_wp2_with (at_builtin; refine wpList_append_own _ rfl _ _ 36 rfl (w.heap.size + 2) 56 i0 (.agg #[.int .i64 0, .slice none 0 0]) 2 32 Tryz.underlying36 hi0 hz0 hz1 hz2 rfl (by decide) _ _ _ rfl (World.ownsRow.alloc (by have := V3.out.1; rw [hLk] at this; exact this) _) ⟨w3.heap.size, 0, none⟩ 1 1 [.int .i64 f, .slice s3 t.length c3] rfl rfl ?dx1 ?dx2 ?dx3 ?dx4 ?dx5 ?_)
          case dx1 =>
            intro j u hj
            match j, hj with
            | 0, hj => simp at hj; subst hj; simp [Addr.add]
            | 1, hj => simp at hj; subst hj; simp [Addr.add]
          case dx2 => intro u hu; simp at hu; rcases hu with rfl | rfl <;> rfl
          case dx3 => have := HLN.out; unfold maxLen; omega
          case dx4 => have := HLN.out; omega
          case dx5 => have := lt_of_heap R3.out.res; simp; omega
          intro v4 w4 hown4 hgr4 _
          have HN : Hid (Rp w (.string ⟨p.nm.toArray⟩) (.slice x.s0 p.p0.length x.c0) (.slice x.s1 p.p1.length x.c1) (.slice (some ⟨g, o, none⟩) p.ms.length x.c2) L (k + 1) v4 w4) := Lib.hid (Rp.step (m := ⟨f, t⟩) (vs := vs) (u := .slice s3 t.length c3) R3.out (by rw [HLE.out.1]; exact hlt) (by rw [HLE.out.2.1 k hkj, HF.out, HT.out]) ((Below.refl _ _).alloc (Nat.le_refl _) _) HV.out.1 (World.ownsRow.alloc V3.out.1 _) (fun i u hu => World.ownsRow.alloc (V3.out.2 i u hu) _) (World.ownsRow.alloc (own_less H3.out.1 (by have := lt_of_heap HR.out.rb.res; omega)) _) hgr4 (by rw [hLk]; exact hown4))
          clear hown4 hgr4
          go_wp2_with fail
          go_roundg (p.ms.length - (k + 1))
          case measure => omega
          case rel => exact ⟨k + 1, by omega, by go_num, HN.out⟩
      · have hk2 : ¬ (k : Int) < p.ms.length := by omega
        obtain rfl : k = p.ms.length := by omega
        have hLk : L.take p.ms.length = L := by rw [← HLE.out.1, List.take_length]
        have HMR : Hid (MsR wr (w.heap.size + 2) (.slice sv (L.take p.ms.length).length cv) L) := Lib.hid (by
          have := HR.out.ms; rw [hsv] at this; rw [hLk] at this ⊢; exact this)
        have hLl : (L.take p.ms.length).length = p.ms.length := by rw [hLk, HLE.out.1]
        rw [hLl] at hsv HMR
        subst hsv
        obtain ⟨a0, a1, a2, a3, z0, z1, z2, z3⟩ := box4c HR.out.rb.pb
        obtain ⟨r0, r1, r2, r3, y0, y1, y2, y3⟩ := box4c HR.out.rb.res
        go_wp2_with fail
        refine bodyPost_ret (v := .tuple #[.agg #[.string ⟨p.nm.toArray⟩, .slice x.s0 p.p0.length x.c0, .slice x.s1 p.p1.length x.c1, .slice sv p.ms.length cv], .int .i64 0]) (by rw [results_cell_tmp rfl]; go_simp) rfl ?_
        exact rpsk_end HP.out HR.out.rb HMR.out HLE.out.1 _ _ _ _ _
end Go.Proofs.YtkdcdnkfcbngaaaGreatDoor
