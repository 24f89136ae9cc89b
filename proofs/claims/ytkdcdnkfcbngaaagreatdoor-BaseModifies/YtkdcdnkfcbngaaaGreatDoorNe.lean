/- Layer 5: the walks of the reference's rows, msgs, Same. -/
import Derived.Test.YtkdcdnkfcbngaaaGreatDoorNb
namespace Go.Proofs.YtkdcdnkfcbngaaaGreatDoor
open Go.RowKit Go.Shelf

theorem ints_ext {a b : List Int} (hl : a.length = b.length) (h : ∀ i, i < a.length → a.getD i 0 = b.getD i 0) : a = b := by
  refine List.ext_getElem hl fun i h1 h2 => ?_
  have := h i h1
  rw [List.getD_eq_getElem?_getD, List.getD_eq_getElem?_getD, List.getElem?_eq_getElem h1, List.getElem?_eq_getElem h2] at this
  simpa using this
set_option maxRecDepth 100000 in
set_option maxHeartbeats 4000000 in
theorem rows_q (s1 : Option Addr) (c1 : Nat) (l1 : List Int) (s2 : Option Addr) (c2 : Nat) (l2 : List Int) (w : World) (h1 : IntsV w s1 l1) (h2 : IntsV w s2 l2) (b1 : l1.length ≤ 65536) (_b2 : l2.length ≤ 65536) :
    Calls Tryz.prog 26 #[.slice s1 l1.length c1, .slice s2 l2.length c2] w fun e w' => e = .returned (.bool (decide (l1 = l2))) ∧ ∃ m, w' = w.drewN m := by
  have H1 := Lib.hid h1
  have H2 := Lib.hid h2
  clear h1 h2
  by_cases hl : l1.length = l2.length
  · obtain ⟨n, hn⟩ : ∃ n, n = l1.length := ⟨_, rfl⟩
    have hn2 : n = l2.length := by omega
    rw [← hn, ← hn2]
    have HN := Lib.hid hn
    have HN2 := Lib.hid hn2
    have hn3 : (n : Int) ≤ 65536 := by omega
    clear hl hn hn2 b1 _b2
    go_enter Tryz.func26, Tryz.ntmps26
    go_wp2_with fail
    go_loopg [5] n (fun q u5 wr => ∃ k : Nat, k + q = n ∧ u5 = .int .i64 k ∧ Aside ((∀ i, i < k → l1.getD i 0 = l2.getD i 0) ∧ ∃ m, wr = w.drewN m))
    case atStart => exact ⟨0, by omega, rfl, ⟨fun i hi => by omega, 0, rfl⟩⟩
    case round =>
      obtain ⟨k, hkq, rfl, hr⟩ := hrel
      obtain ⟨hal, m, hwr⟩ := hr.out
      have HR := Lib.hid hal
      have HWR := Lib.hid hwr
      have HBL : Hid (Below w.heap.size w wr) := Lib.hid (by rw [hwr]; exact belowN (Below.refl _ _))
      clear hr hal hwr
      by_cases hlt : k < n
      · obtain ⟨g1, o1, hs1, hia1⟩ := (H1.out.keep HBL.out) (by have := HN.out; omega)
        subst hs1
        obtain ⟨g2, o2, hs2, hia2⟩ := (H2.out.keep HBL.out) (by have := HN2.out; omega)
        subst hs2
        have q1 := hia1 k (by have := HN.out; omega)
        have q2 := hia2 k (by have := HN2.out; omega)
        clear hia1 hia2
        obtain ⟨a, ha⟩ : ∃ a, a = l1.getD k 0 := ⟨_, rfl⟩
        obtain ⟨b, hb⟩ : ∃ b, b = l2.getD k 0 := ⟨_, rfl⟩
        rw [← ha] at q1
        rw [← hb] at q2
        have HA := Lib.hid ha
        have HB := Lib.hid hb
        clear ha hb
        have hk2 : (k : Int) < n := by omega
        have hk3 : (0 : Int) ≤ k := by omega
        by_cases hab : a = b
        · have HAB := Lib.hid hab
          have hd : (a != b) = false := by simpa using hab
          clear hab
          go_wp2_with fail
          go_quiet (fail)
          go_wp2_with fail
          go_roundg (n - (k + 1))
          case measure => omega
          case rel => exact ⟨k + 1, by omega, by go_num, (show _ ∧ _ from ⟨fun i hi => by
            rcases Nat.lt_or_ge i k with h | h
            · exact HR.out i h
            · obtain rfl : i = k := by omega
              rw [← HA.out, ← HB.out]; exact HAB.out, m + nq, by rw [HWR.out, World.drewN_drewN]⟩)⟩
        · have HD : Hid (decide (l1 = l2) = false) := Lib.hid (by
            simp only [decide_eq_false_iff_not]
            exact fun e => hab (by rw [HA.out, HB.out, e]))
          have hd : (a != b) = true := by simpa using hab
          clear hab
          go_wp2_with fail
          go_quiet (fail)
          go_wp2_with fail
          go_ret
          exact ⟨by rw [HD.out]; rfl, m + nq, by rw [HWR.out, World.drewN_drewN]⟩
      · have hk2 : ¬ (k : Int) < n := by omega
        go_wp2_with fail
        go_ret
        have : l1 = l2 := ints_ext (by rw [← HN.out, ← HN2.out]) fun i hi => HR.out i (by have := HN.out; omega)
        exact ⟨by simp [this], m, HWR.out⟩
  · have hd : decide (l1 = l2) = false := by simp; intro e; rw [e] at hl; exact hl rfl
    have hb : (((l1.length : Nat) : Int) != ((l2.length : Nat) : Int)) = true := by simp; omega
    have HD := Lib.hid hd
    clear hd hl H1 H2 b1 _b2
    generalize l1.length = n1 at *
    generalize l2.length = n2 at *
    go_enter Tryz.func26, Tryz.ntmps26
    go_wp2_with fail
    go_ret
    exact ⟨by rw [HD.out]; rfl, 0, rfl⟩

theorem rows_any (s1 : Option Addr) (c1 : Nat) (l1 : List Int) (s2 : Option Addr) (c2 : Nat) (l2 : List Int) (w : World) (h1 : IntsV w s1 l1) (h2 : IntsV w s2 l2) (b1 : l1.length ≤ 65536) (b2 : l2.length ≤ 65536) :
    Calls Tryz.prog 26 #[.slice s1 l1.length c1, .slice s2 l2.length c2] w fun e w' => e = .returned (.bool (decide (l1 = l2))) ∧ Below w.heap.size w w' :=
  (rows_q s1 c1 l1 s2 c2 l2 w h1 h2 b1 b2).mono fun _ _ ⟨he, m, hm⟩ => ⟨he, by rw [hm]; exact belowN (Below.refl _ _)⟩

set_option maxRecDepth 100000 in
set_option maxHeartbeats 4000000 in
theorem msgs_any (a b : List Ms) (s1 : Option Addr) (c1 : Nat) (s2 : Option Addr) (c2 : Nat) (w : World) (h1 : MsgsV w s1 a) (h2 : MsgsV w s2 b) (b1 : shortM a) (b2 : shortM b) :
    Calls Tryz.prog 27 #[.slice s1 a.length c1, .slice s2 b.length c2] w fun e w' => e = .returned (.bool (decide (a = b))) ∧ Below w.heap.size w w' := by
  have H1 := Lib.hid h1
  have H2 := Lib.hid h2
  have HB1 := Lib.hid b1
  have HB2 := Lib.hid b2
  clear h1 h2 b1 b2
  by_cases hl : a.length = b.length
  · obtain ⟨n, hn⟩ : ∃ n, n = a.length := ⟨_, rfl⟩
    have hn2 : n = b.length := by omega
    rw [← hn, ← hn2]
    have HN := Lib.hid hn
    have HN2 := Lib.hid hn2
    have hn3 : (n : Int) ≤ 65536 := by have := HB1.out.1; omega
    clear hl hn hn2
    go_enter Tryz.func27, Tryz.ntmps27
    go_wp2_with fail
    go_loopg [5] n (fun q u5 wr => ∃ k : Nat, k + q = n ∧ u5 = .int .i64 k ∧ Aside ((∀ i, i < k → a.getD i default = b.getD i default) ∧ Below w.heap.size w wr))
    case atStart => exact ⟨0, by omega, rfl, ⟨fun i hi => by omega, Below.refl _ _⟩⟩
    case round =>
      obtain ⟨k, hkq, rfl, hr⟩ := hrel
      have HR := Lib.hid hr.out
      clear hr
      by_cases hlt : k < n
      · obtain ⟨g1, o1, hs1, hia1⟩ := (H1.out.keep HR.out.2) (by have := HN.out; omega)
        subst hs1
        obtain ⟨g2, o2, hs2, hia2⟩ := (H2.out.keep HR.out.2) (by have := HN2.out; omega)
        subst hs2
        obtain ⟨q0, sx, cx, q1, qi⟩ := hia1 k (by have := HN.out; omega)
        obtain ⟨r0, sy, cy, r1, ri⟩ := hia2 k (by have := HN2.out; omega)
        clear hia1 hia2
        obtain ⟨m1, hm1⟩ : ∃ m, m = a.getD k default := ⟨_, rfl⟩
        obtain ⟨m2, hm2⟩ : ∃ m, m = b.getD k default := ⟨_, rfl⟩
        rw [← hm1] at q0 q1 qi
        rw [← hm2] at r0 r1 ri
        have HM1 := Lib.hid hm1
        have HM2 := Lib.hid hm2
        have HS := Lib.hid (fun wx (hb : Below wr.heap.size wr wx) => rows_q sx cx m1.t sy cy m2.t wx (qi.keep hb) (ri.keep hb) (by rw [hm1]; exact HB1.out.2 k (by have := HN.out; omega)) (by rw [hm2]; exact HB2.out.2 k (by have := HN2.out; omega)))
        clear hm1 hm2 qi ri
        have hk2 : (k : Int) < n := by omega
        have hk3 : (0 : Int) ≤ k := by omega
        obtain ⟨f1, t1⟩ := m1
        obtain ⟨f2, t2⟩ := m2
        simp only at q0 q1 r0 r1 HS
        by_cases hf : f1 = f2
        · subst hf
          have hne : (f1 != f1) = false := by simp
          cases hd : decide (t1 = t2) with
          | true =>
            rw [hd] at HS
            have HD : Hid ((⟨f1, t1⟩ : Ms) = ⟨f1, t2⟩) := Lib.hid (by simpa using hd)
            clear hd
            go_wp2_with fail
            go_quiet ((go_at_call 26; refine Calls.quiet_of (HS.out _ (belowN (Below.refl _ _)))))
            go_wp2_with fail
            go_roundg (n - (k + 1))
            case measure => omega
            case rel => exact ⟨k + 1, by omega, by go_num, (show _ ∧ _ from ⟨fun i hi => by
              rcases Nat.lt_or_ge i k with h | h
              · exact HR.out.1 i h
              · obtain rfl : i = k := by omega
                rw [← HM1.out, ← HM2.out]; exact HD.out, belowN HR.out.2⟩)⟩
          | false =>
            rw [hd] at HS
            have HD : Hid (decide (a = b) = false) := Lib.hid (by
              simp only [decide_eq_false_iff_not] at hd ⊢
              exact fun e => hd (by have := HM1.out.trans ((congrArg (fun z : List Ms => z.getD k default) e).trans HM2.out.symm); injection this))
            clear hd
            go_wp2_with fail
            go_quiet ((go_at_call 26; refine Calls.quiet_of (HS.out _ (belowN (Below.refl _ _)))))
            go_wp2_with fail
            go_ret
            exact ⟨by rw [HD.out]; rfl, belowN HR.out.2⟩
        · have HD : Hid (decide (a = b) = false) := Lib.hid (by
            simp only [decide_eq_false_iff_not]
            exact fun e => hf (by have := HM1.out.trans ((congrArg (fun z : List Ms => z.getD k default) e).trans HM2.out.symm); injection this))
          have hne : (f1 != f2) = true := by simpa using hf
          clear hf
          go_wp2_with fail
          go_quiet (fail)
          go_wp2_with fail
          go_ret
          exact ⟨by rw [HD.out]; rfl, belowN HR.out.2⟩
      · have hk2 : ¬ (k : Int) < n := by omega
        go_wp2_with fail
        go_ret
        have : a = b := ms_ext (by rw [← HN.out, ← HN2.out]) fun i hi => HR.out.1 i (by have := HN.out; omega)
        exact ⟨by simp [this], HR.out.2⟩
  · have hd : decide (a = b) = false := by simp; intro e; rw [e] at hl; exact hl rfl
    have hb : (((a.length : Nat) : Int) != ((b.length : Nat) : Int)) = true := by simp; omega
    have HD := Lib.hid hd
    clear hd hl H1 H2 HB1 HB2
    generalize a.length = n1 at *
    generalize b.length = n2 at *
    go_enter Tryz.func27, Tryz.ntmps27
    go_wp2_with fail
    go_ret
    exact ⟨by rw [HD.out]; rfl, Below.refl _ _⟩

set_option maxRecDepth 100000 in
set_option maxHeartbeats 4000000 in
theorem rsame_any (x y : Sl) (p q : Pt) (w : World) (hp : PatA w x p) (hq : PatA w y q) (sp : shortP p) (sq : shortP q) :
    Calls Tryz.prog 14 #[patV x p, patV y q] w fun e w' => e = .returned (.bool (decide (p = q))) ∧ Below w.heap.size w w' := by
  have HP := Lib.hid hp
  have HQ := Lib.hid hq
  have SP := Lib.hid sp
  have SQ := Lib.hid sq
  clear hp hq sp sq
  obtain ⟨nm, p0, p1, ms⟩ := p
  obtain ⟨nm', q0, q1, ms'⟩ := q
  obtain ⟨s0, c0, s1, c1, s2, c2⟩ := x
  obtain ⟨t0, d0, t1, d1, t2, d2⟩ := y
  unfold patV
  simp only at HP HQ SP SQ ⊢
  have H0 := Lib.hid HP.out.i0
  have H1 := Lib.hid HP.out.i1
  have H2 := Lib.hid HP.out.im
  have K0 := Lib.hid HQ.out.i0
  have K1 := Lib.hid HQ.out.i1
  have K2 := Lib.hid HQ.out.im
  simp only at H0 H1 H2 K0 K1 K2
  clear HP HQ
  have W2 : Hid (Below w.heap.size w ((w.alloc (.cells #[.string ⟨nm.toArray⟩, .slice s0 p0.length c0, .slice s1 p1.length c1, .slice s2 ms.length c2] 38)).alloc (.cells #[.string ⟨nm'.toArray⟩, .slice t0 q0.length d0, .slice t1 q1.length d1, .slice t2 ms'.length d2] 38))) := Lib.hid (((Below.refl _ _).alloc (Nat.le_refl _) _).alloc (by simp) _)
  by_cases hn : nm = nm'
  · subst hn
    have hb0 : (((⟨nm.toArray⟩ : ByteArray).toList) == ((⟨nm.toArray⟩ : ByteArray).toList)) = true := by simp
    have HE0 := Lib.hid (fun wx (hb : Below w.heap.size w wx) => rows_any s0 c0 p0 t0 d0 q0 wx (H0.out.keep hb) (K0.out.keep hb) SP.out.1 SQ.out.1)
    cases h0 : decide (p0 = q0) with
    | false =>
      rw [h0] at HE0
      have HD : Hid (decide ((⟨nm, p0, p1, ms⟩ : Pt) = ⟨nm, q0, q1, ms'⟩) = false) := Lib.hid (by simp at h0; simp [h0])
      clear h0
      go_enter Tryz.func14, Tryz.ntmps14
      go_wp2_with (go_at_call 26; refine (HE0.out _ W2.out).mono ?_; rintro e w1 ⟨rfl, hb1⟩; obtain ⟨⟨a0, a1, a2, a3⟩, ⟨b0, b1, b2, b3⟩, hbw⟩ := box4a hb1; have HB1 := Lib.hid hbw; clear hb1 hbw)
      go_ret
      exact ⟨by rw [HD.out]; rfl, HB1.out⟩
    | true =>
      rw [h0] at HE0
      have h0' : p0 = q0 := by simpa using h0
      clear h0
      have HE1 := Lib.hid (fun wx (hb : Below w.heap.size w wx) => rows_any s1 c1 p1 t1 d1 q1 wx (H1.out.keep hb) (K1.out.keep hb) SP.out.2.1 SQ.out.2.1)
      cases h1 : decide (p1 = q1) with
      | false =>
        rw [h1] at HE1
        have HD : Hid (decide ((⟨nm, p0, p1, ms⟩ : Pt) = ⟨nm, q0, q1, ms'⟩) = false) := Lib.hid (by simp at h1; simp [h1])
        clear h1 h0'
        go_enter Tryz.func14, Tryz.ntmps14
        go_wp2_with (first
          | (have _k := HB1; go_at_call 26; refine (HE1.out _ HB1.out).mono ?_; rintro e w2 ⟨rfl, hb2⟩; have HB2 := Lib.hid (HB1.out.trans (hb2.mono HB1.out.size)); clear hb2)
          | (go_at_call 26; refine (HE0.out _ W2.out).mono ?_; rintro e w1 ⟨rfl, hb1⟩; obtain ⟨⟨a0, a1, a2, a3⟩, ⟨b0, b1, b2, b3⟩, hbw⟩ := box4a hb1; have HB1 := Lib.hid hbw; clear hb1 hbw))
        go_ret
        exact ⟨by rw [HD.out]; rfl, HB2.out⟩
      | true =>
        rw [h1] at HE1
        have h1' : p1 = q1 := by simpa using h1
        have HD : Hid (decide ((⟨nm, p0, p1, ms⟩ : Pt) = ⟨nm, q0, q1, ms'⟩) = decide (ms = ms')) := Lib.hid (by subst h0' h1'; simp)
        clear h1 h0' h1'
        have HF := Lib.hid (fun wx (hb : Below w.heap.size w wx) => msgs_any ms ms' s2 c2 t2 d2 wx (H2.out.keep hb) (K2.out.keep hb) SP.out.2.2 SQ.out.2.2)
        go_enter Tryz.func14, Tryz.ntmps14
        go_wp2_with (first
          | (go_at_call 27; refine (HF.out _ HB2.out).mono ?_; rintro e w3 ⟨rfl, hb3⟩; have HB3 := Lib.hid (HB2.out.trans (hb3.mono HB2.out.size)); clear hb3)
          | (have _k := HB1; go_at_call 26; refine (HE1.out _ HB1.out).mono ?_; rintro e w2 ⟨rfl, hb2⟩; obtain ⟨a3', b3'⟩ := keep2 hb2 a3 b3; have HB2 := Lib.hid (HB1.out.trans (hb2.mono HB1.out.size)); clear hb2)
          | (go_at_call 26; refine (HE0.out _ W2.out).mono ?_; rintro e w1 ⟨rfl, hb1⟩; obtain ⟨⟨a0, a1, a2, a3⟩, ⟨b0, b1, b2, b3⟩, hbw⟩ := box4a hb1; have HB1 := Lib.hid hbw; clear hb1 hbw))
        go_ret
        exact ⟨by rw [HD.out]; rfl, HB3.out⟩
  · have hb : ((⟨nm.toArray⟩ : ByteArray).toList == (⟨nm'.toArray⟩ : ByteArray).toList) = false := by rw [ByteArray.toList_eq, ByteArray.toList_eq]; simpa using hn
    have HD : Hid (decide ((⟨nm, p0, p1, ms⟩ : Pt) = ⟨nm', q0, q1, ms'⟩) = false) := Lib.hid (by simp [hn])
    clear hn
    generalize (⟨nm.toArray⟩ : ByteArray) = N1 at *
    generalize (⟨nm'.toArray⟩ : ByteArray) = N2 at *
    go_enter Tryz.func14, Tryz.ntmps14
    go_wp2_with fail
    go_ret
    exact ⟨by rw [HD.out]; rfl, W2.out⟩
end Go.Proofs.YtkdcdnkfcbngaaaGreatDoor
