/- Layer 5: the walks of slices.Equal, sameMsg, slices.EqualFunc, Same. -/
import Derived.Test.YtkdcdnkfcbngaaaGreatDoorMk
import Derived.Shelf.Slices.Equal
namespace Go.Proofs.YtkdcdnkfcbngaaaGreatDoor
open Go.RowKit Go.Shelf

theorem equal_same (s1 : Option Addr) (c1 : Nat) (l1 : List Int) (s2 : Option Addr) (c2 : Nat) (l2 : List Int) (w : World) (h1 : IntsV w s1 l1) (h2 : IntsV w s2 l2) (b1 : l1.length ≤ 65536) (_b2 : l2.length ≤ 65536) (hl : l1.length = l2.length) (h0 : 0 < l1.length) :
    Calls Tryz.prog 23 #[.slice s1 l1.length c1, .slice s2 l2.length c2] w fun e w' => e = .returned (.bool (decide (l1 = l2))) ∧ Below w.heap.size w w' := by
  obtain ⟨g1, o1, rfl, k1⟩ := h1 h0
  obtain ⟨g2, o2, rfl, k2⟩ := h2 (by omega)
  refine (Any.slices_Equal_int Tryz.lays111 g1 o1 l1.length c1 g2 o2 l2.length c2 l1 l2 w (Nat.le_refl _) (Nat.le_refl _) (by omega) (by omega) k1 k2).mono ?_
  rintro e w' ⟨rfl, q, rfl⟩
  rw [List.take_length, List.take_length]
  refine ⟨?_, belowN (Below.refl _ _)⟩
  by_cases h : l1 = l2
  · simp [h]
  · simp [h]
set_option maxRecDepth 100000 in
set_option maxHeartbeats 1000000 in
theorem equal_any (s1 : Option Addr) (c1 : Nat) (l1 : List Int) (s2 : Option Addr) (c2 : Nat) (l2 : List Int) (w : World) (h1 : IntsV w s1 l1) (h2 : IntsV w s2 l2) (b1 : l1.length ≤ 65536) (b2 : l2.length ≤ 65536) :
    Calls Tryz.prog 23 #[.slice s1 l1.length c1, .slice s2 l2.length c2] w fun e w' => e = .returned (.bool (decide (l1 = l2))) ∧ Below w.heap.size w w' := by
  by_cases hl : l1.length = l2.length
  · by_cases h0 : 0 < l1.length
    · exact equal_same s1 c1 l1 s2 c2 l2 w h1 h2 b1 b2 hl h0
    · have e1 : l1 = [] := List.length_eq_zero_iff.1 (by omega)
      have e2 : l2 = [] := List.length_eq_zero_iff.1 (by omega)
      subst e1 e2
      refine (Any.slices_Equal_int_empty Tryz.lays111 s1 s2 c1 0 c2 w (by omega)).mono ?_
      rintro e w' ⟨rfl, rfl⟩
      exact ⟨rfl, Below.refl _ _⟩
  · have hd : decide (l1 = l2) = false := by simp; intro e; rw [e] at hl; exact hl rfl
    have hb : (((l1.length : Nat) : Int) != ((l2.length : Nat) : Int)) = true := by simp; omega
    rw [hd]
    generalize l1.length = n1 at *
    generalize l2.length = n2 at *
    clear h1 h2
    go_enter Tryz.func23, Tryz.ntmps23
    go_wp2
    go_ret
    exact ⟨rfl, Below.refl _ _⟩

theorem box2 {w w1 : World} {v0 v1 u0 u1 : Value} {T T' : TypeId} (hb : Below ((w.alloc (.cells #[v0, v1] T)).alloc (.cells #[u0, u1] T')).heap.size ((w.alloc (.cells #[v0, v1] T)).alloc (.cells #[u0, u1] T')) w1) : Below w.heap.size w w1 :=
  (((Below.refl _ _).alloc (Nat.le_refl _) _).alloc (by simp) _).trans (hb.mono (by simp; omega))
set_option maxRecDepth 100000 in
set_option maxHeartbeats 1000000 in
theorem sameMsg_any (m n : Ms) (s1 : Option Addr) (c1 : Nat) (s2 : Option Addr) (c2 : Nat) (w : World) (h1 : IntsV w s1 m.t) (h2 : IntsV w s2 n.t) (b1 : m.t.length ≤ 65536) (b2 : n.t.length ≤ 65536) :
    Calls Tryz.prog 25 #[.agg #[.int .i64 m.fr, .slice s1 m.t.length c1], .agg #[.int .i64 n.fr, .slice s2 n.t.length c2]] w fun e w' => e = .returned (.bool (decide (m = n))) ∧ Below w.heap.size w w' := by
  obtain ⟨f1, t1⟩ := m
  obtain ⟨f2, t2⟩ := n
  simp only at h1 h2 b1 b2 ⊢
  have H1 := Lib.hid h1
  have H2 := Lib.hid h2
  clear h1 h2
  by_cases hf : f1 = f2
  · subst hf
    have HD : Hid (decide ((⟨f1, t1⟩ : Ms) = ⟨f1, t2⟩) = decide (t1 = t2)) := Lib.hid (by simp)
    go_enter Tryz.func25, Tryz.ntmps25
    go_wp2_with (go_at_call 23; refine (equal_any _ _ t1 _ _ t2 _ (H1.out.keep (((Below.refl _ _).alloc (Nat.le_refl _) _).alloc (by simp) _)) (H2.out.keep (((Below.refl _ _).alloc (Nat.le_refl _) _).alloc (by simp) _)) b1 b2).mono ?_; rintro e w1 ⟨rfl, hb1⟩; have HB := Lib.hid (box2 hb1); clear hb1)
    go_ret
    exact ⟨by rw [HD.out]; rfl, HB.out⟩
  · have hb : (f1 == f2) = false := by simpa using hf
    have HD : Hid (decide ((⟨f1, t1⟩ : Ms) = ⟨f2, t2⟩) = false) := Lib.hid (by simp [hf])
    clear hf
    go_enter Tryz.func25, Tryz.ntmps25
    go_wp2_with fail
    go_ret
    exact ⟨by rw [HD.out]; rfl, ((Below.refl _ _).alloc (Nat.le_refl _) _).alloc (by simp) _⟩

def shortM (ms : List Ms) : Prop := ms.length ≤ 65536 ∧ ∀ i, i < ms.length → (ms.getD i default).t.length ≤ 65536
theorem ms_ext {a b : List Ms} (hl : a.length = b.length) (h : ∀ i, i < a.length → a.getD i default = b.getD i default) : a = b := by
  refine List.ext_getElem hl fun i h1 h2 => ?_
  have := h i h1
  rw [List.getD_eq_getElem?_getD, List.getD_eq_getElem?_getD, List.getElem?_eq_getElem h1, List.getElem?_eq_getElem h2] at this
  simpa using this
set_option maxRecDepth 100000 in
set_option maxHeartbeats 4000000 in
theorem equalFunc_any (a b : List Ms) (s1 : Option Addr) (c1 : Nat) (s2 : Option Addr) (c2 : Nat) (w : World) (h1 : MsgsV w s1 a) (h2 : MsgsV w s2 b) (b1 : shortM a) (b2 : shortM b) :
    Calls Tryz.prog 24 #[.slice s1 a.length c1, .slice s2 b.length c2, .func (.func 25) #[] #[]] w fun e w' => e = .returned (.bool (decide (a = b))) ∧ Below w.heap.size w w' := by
  have H1 := Lib.hid h1
  have H2 := Lib.hid h2
  have HB1 := Lib.hid b1
  have HB2 := Lib.hid b2
  clear h1 h2 b1 b2
  by_cases hl : a.length = b.length
  · obtain ⟨n, hn⟩ : ∃ n, n = a.length := ⟨_, rfl⟩
    have hn2 : n = b.length := by omega
    rw [← hn, ← hn2]
    have HN := Lib.hid hn
    have HN2 := Lib.hid hn2
    have hn3 : (n : Int) ≤ 65536 := by have := HB1.out.1; omega
    clear hl hn hn2
    go_enter Tryz.func24, Tryz.ntmps24
    go_wp2_with fail
    go_loopg [7, 8, 9, 17] n (fun q _ _ _ u17 wr => ∃ k : Nat, k + q = n ∧ u17 = .int .i64 k ∧ Aside ((∀ i, i < k → a.getD i default = b.getD i default) ∧ Below w.heap.size w wr))
    case atStart => exact ⟨0, by omega, rfl, ⟨fun i hi => by omega, Below.refl _ _⟩⟩
    case round =>
      obtain ⟨k, hkq, rfl, hr⟩ := hrel
      have HR := Lib.hid hr.out
      clear hr
      by_cases hlt : k < n
      · obtain ⟨g1, o1, hs1, hia1⟩ := (H1.out.keep HR.out.2) (by have := HN.out; omega)
        subst hs1
        obtain ⟨g2, o2, hs2, hia2⟩ := (H2.out.keep HR.out.2) (by have := HN2.out; omega)
        subst hs2
        obtain ⟨q0, sx, cx, q1, qi⟩ := hia1 k (by have := HN.out; omega)
        obtain ⟨r0, sy, cy, r1, ri⟩ := hia2 k (by have := HN2.out; omega)
        clear hia1 hia2
        obtain ⟨m1, hm1⟩ : ∃ m, m = a.getD k default := ⟨_, rfl⟩
        obtain ⟨m2, hm2⟩ : ∃ m, m = b.getD k default := ⟨_, rfl⟩
        rw [← hm1] at q0 q1 qi
        rw [← hm2] at r0 r1 ri
        have HM1 := Lib.hid hm1
        have HM2 := Lib.hid hm2
        have l1 := World.block_lt_of_cell? _ _ q0
        have l2 := World.block_lt_of_cell? _ _ r0
        have l2' : g2 < wr.heap.size + 1 := by have : g2 < wr.heap.size := l2; omega
        have HS := Lib.hid (fun wx (hb : Below wr.heap.size wr wx) => sameMsg_any m1 m2 sx cx sy cy wx (qi.keep hb) (ri.keep hb) (by rw [hm1]; exact HB1.out.2 k (by have := HN.out; omega)) (by rw [hm2]; exact HB2.out.2 k (by have := HN2.out; omega)))
        clear hm1 hm2 qi ri
        have hk2 : (k : Int) < n := by omega
        cases hd : decide (m1 = m2) with
        | true =>
          rw [hd] at HS
          have HD : Hid (m1 = m2) := Lib.hid (by simpa using hd)
          clear hd
          go_wp2_with (go_at_call 25; refine (HS.out _ (((Below.refl _ _).alloc (Nat.le_refl _) _).alloc (by simp) _)).mono ?_; rintro e w1 ⟨rfl, hb1⟩; have HB := Lib.hid (box2 hb1); clear hb1)
          go_roundg (n - (k + 1))
          case measure => omega
          case rel => exact ⟨k + 1, by omega, by go_num, (show _ ∧ _ from ⟨fun i hi => by
            rcases Nat.lt_or_ge i k with h | h
            · exact HR.out.1 i h
            · obtain rfl : i = k := by omega
              rw [← HM1.out, ← HM2.out]; exact HD.out, HR.out.2.trans (HB.out.mono HR.out.2.size)⟩)⟩
        | false =>
          rw [hd] at HS
          have HD : Hid (decide (a = b) = false) := Lib.hid (by
            simp only [decide_eq_false_iff_not] at hd ⊢
            exact fun e => hd (by rw [HM1.out, HM2.out, e]))
          clear hd
          go_wp2_with (go_at_call 25; refine (HS.out _ (((Below.refl _ _).alloc (Nat.le_refl _) _).alloc (by simp) _)).mono ?_; rintro e w1 ⟨rfl, hb1⟩; have HB := Lib.hid (box2 hb1); clear hb1)
          go_ret
          exact ⟨by rw [HD.out]; rfl, HR.out.2.trans (HB.out.mono HR.out.2.size)⟩
      · have hk2 : ¬ (k : Int) < n := by omega
        go_wp2_with fail
        go_ret
        have : a = b := ms_ext (by rw [← HN.out, ← HN2.out]) fun i hi => HR.out.1 i (by have := HN.out; omega)
        exact ⟨by simp [this], HR.out.2⟩
  · have hd : decide (a = b) = false := by simp; intro e; rw [e] at hl; exact hl rfl
    have hb : (((a.length : Nat) : Int) != ((b.length : Nat) : Int)) = true := by simp; omega
    have HD := Lib.hid hd
    clear hd hl H1 H2 HB1 HB2
    generalize a.length = n1 at *
    generalize b.length = n2 at *
    go_enter Tryz.func24, Tryz.ntmps24
    go_wp2_with fail
    go_ret
    exact ⟨by rw [HD.out]; rfl, Below.refl _ _⟩

theorem box4a {w w1 : World} {v0 v1 v2 v3 u0 u1 u2 u3 : Value} {T : TypeId} (hb : Below ((w.alloc (.cells #[v0, v1, v2, v3] T)).alloc (.cells #[u0, u1, u2, u3] T)).heap.size ((w.alloc (.cells #[v0, v1, v2, v3] T)).alloc (.cells #[u0, u1, u2, u3] T)) w1) :
    (w1.cell? ⟨w.heap.size, 0, none⟩ = some v0 ∧ w1.cell? ⟨w.heap.size, 1, none⟩ = some v1 ∧ w1.cell? ⟨w.heap.size, 2, none⟩ = some v2 ∧ w1.cell? ⟨w.heap.size, 3, none⟩ = some v3) ∧
    (w1.cell? ⟨w.heap.size + 1, 0, none⟩ = some u0 ∧ w1.cell? ⟨w.heap.size + 1, 1, none⟩ = some u1 ∧ w1.cell? ⟨w.heap.size + 1, 2, none⟩ = some u2 ∧ w1.cell? ⟨w.heap.size + 1, 3, none⟩ = some u3) ∧ Below w.heap.size w w1 := by
  have h : ∀ b j, b ≤ w.heap.size + 1 → w1.cell? ⟨b, j, none⟩ = ((w.alloc (.cells #[v0, v1, v2, v3] T)).alloc (.cells #[u0, u1, u2, u3] T)).cell? ⟨b, j, none⟩ := fun b j hj => hb.cell (p := ⟨b, j, none⟩) (by simp; omega)
  refine ⟨⟨?_, ?_, ?_, ?_⟩, ⟨?_, ?_, ?_, ?_⟩, (((Below.refl _ _).alloc (Nat.le_refl _) _).alloc (by simp) _).trans (hb.mono (by simp; omega))⟩
  all_goals (rw [h _ _ (by omega)]; go_simp)
theorem keep2 {w w' : World} {a b : Addr} {u v : Value} (hb : Below w.heap.size w w') (h1 : w.cell? a = some u) (h2 : w.cell? b = some v) : w'.cell? a = some u ∧ w'.cell? b = some v :=
  ⟨(hb.cell (p := a) (World.block_lt_of_cell? _ _ h1)).trans h1, (hb.cell (p := b) (World.block_lt_of_cell? _ _ h2)).trans h2⟩
def shortP (p : Pt) : Prop := p.p0.length ≤ 65536 ∧ p.p1.length ≤ 65536 ∧ shortM p.ms
theorem arr_inj {a b : List UInt8} (h : (⟨a.toArray⟩ : ByteArray) = ⟨b.toArray⟩) : a = b := by
  have := congrArg (fun z : ByteArray => z.data.toList) h
  simpa using this

set_option maxRecDepth 100000 in
set_option maxHeartbeats 4000000 in
theorem same_any (x y : Sl) (p q : Pt) (w : World) (hp : PatA w x p) (hq : PatA w y q) (sp : shortP p) (sq : shortP q) :
    Calls Tryz.prog 11 #[patV x p, patV y q] w fun e w' => e = .returned (.bool (decide (p = q))) ∧ Below w.heap.size w w' := by
  have HP := Lib.hid hp
  have HQ := Lib.hid hq
  have SP := Lib.hid sp
  have SQ := Lib.hid sq
  clear hp hq sp sq
  obtain ⟨nm, p0, p1, ms⟩ := p
  obtain ⟨nm', q0, q1, ms'⟩ := q
  obtain ⟨s0, c0, s1, c1, s2, c2⟩ := x
  obtain ⟨t0, d0, t1, d1, t2, d2⟩ := y
  unfold patV
  simp only at HP HQ SP SQ ⊢
  have H0 := Lib.hid HP.out.i0
  have H1 := Lib.hid HP.out.i1
  have H2 := Lib.hid HP.out.im
  have K0 := Lib.hid HQ.out.i0
  have K1 := Lib.hid HQ.out.i1
  have K2 := Lib.hid HQ.out.im
  simp only at H0 H1 H2 K0 K1 K2
  clear HP HQ
  have W2 : Hid (Below w.heap.size w ((w.alloc (.cells #[.string ⟨nm.toArray⟩, .slice s0 p0.length c0, .slice s1 p1.length c1, .slice s2 ms.length c2] 26)).alloc (.cells #[.string ⟨nm'.toArray⟩, .slice t0 q0.length d0, .slice t1 q1.length d1, .slice t2 ms'.length d2] 26))) := Lib.hid (((Below.refl _ _).alloc (Nat.le_refl _) _).alloc (by simp) _)
  by_cases hn : nm = nm'
  · subst hn
    have hb0 : (((⟨nm.toArray⟩ : ByteArray).toList) == ((⟨nm.toArray⟩ : ByteArray).toList)) = true := by simp
    have HE0 := Lib.hid (fun wx (hb : Below w.heap.size w wx) => equal_any s0 c0 p0 t0 d0 q0 wx (H0.out.keep hb) (K0.out.keep hb) SP.out.1 SQ.out.1)
    cases h0 : decide (p0 = q0) with
    | false =>
      rw [h0] at HE0
      have HD : Hid (decide ((⟨nm, p0, p1, ms⟩ : Pt) = ⟨nm, q0, q1, ms'⟩) = false) := Lib.hid (by simp at h0; simp [h0])
      clear h0
      go_enter Tryz.func11, Tryz.ntmps11
      go_wp2_with (go_at_call 23; refine (HE0.out _ W2.out).mono ?_; rintro e w1 ⟨rfl, hb1⟩; obtain ⟨⟨a0, a1, a2, a3⟩, ⟨b0, b1, b2, b3⟩, hbw⟩ := box4a hb1; have HB1 := Lib.hid hbw; clear hb1 hbw)
      go_ret
      exact ⟨by rw [HD.out]; rfl, HB1.out⟩
    | true =>
      rw [h0] at HE0
      have h0' : p0 = q0 := by simpa using h0
      clear h0
      have HE1 := Lib.hid (fun wx (hb : Below w.heap.size w wx) => equal_any s1 c1 p1 t1 d1 q1 wx (H1.out.keep hb) (K1.out.keep hb) SP.out.2.1 SQ.out.2.1)
      cases h1 : decide (p1 = q1) with
      | false =>
        rw [h1] at HE1
        have HD : Hid (decide ((⟨nm, p0, p1, ms⟩ : Pt) = ⟨nm, q0, q1, ms'⟩) = false) := Lib.hid (by simp at h1; simp [h1])
        clear h1 h0'
        go_enter Tryz.func11, Tryz.ntmps11
        go_wp2_with (first
          | (have _k := HB1; go_at_call 23; refine (HE1.out _ HB1.out).mono ?_; rintro e w2 ⟨rfl, hb2⟩; have HB2 := Lib.hid (HB1.out.trans (hb2.mono HB1.out.size)); clear hb2)
          | (go_at_call 23; refine (HE0.out _ W2.out).mono ?_; rintro e w1 ⟨rfl, hb1⟩; obtain ⟨⟨a0, a1, a2, a3⟩, ⟨b0, b1, b2, b3⟩, hbw⟩ := box4a hb1; have HB1 := Lib.hid hbw; clear hb1 hbw))
        go_ret
        exact ⟨by rw [HD.out]; rfl, HB2.out⟩
      | true =>
        rw [h1] at HE1
        have h1' : p1 = q1 := by simpa using h1
        have HD : Hid (decide ((⟨nm, p0, p1, ms⟩ : Pt) = ⟨nm, q0, q1, ms'⟩) = decide (ms = ms')) := Lib.hid (by subst h0' h1'; simp)
        clear h1 h0' h1'
        have HF := Lib.hid (fun wx (hb : Below w.heap.size w wx) => equalFunc_any ms ms' s2 c2 t2 d2 wx (H2.out.keep hb) (K2.out.keep hb) SP.out.2.2 SQ.out.2.2)
        go_enter Tryz.func11, Tryz.ntmps11
        go_wp2_with (first
          | (go_at_call 24; refine (HF.out _ HB2.out).mono ?_; rintro e w3 ⟨rfl, hb3⟩; have HB3 := Lib.hid (HB2.out.trans (hb3.mono HB2.out.size)); clear hb3)
          | (have _k := HB1; go_at_call 23; refine (HE1.out _ HB1.out).mono ?_; rintro e w2 ⟨rfl, hb2⟩; obtain ⟨a3', b3'⟩ := keep2 hb2 a3 b3; have HB2 := Lib.hid (HB1.out.trans (hb2.mono HB1.out.size)); clear hb2)
          | (go_at_call 23; refine (HE0.out _ W2.out).mono ?_; rintro e w1 ⟨rfl, hb1⟩; obtain ⟨⟨a0, a1, a2, a3⟩, ⟨b0, b1, b2, b3⟩, hbw⟩ := box4a hb1; have HB1 := Lib.hid hbw; clear hb1 hbw))
        go_ret
        exact ⟨by rw [HD.out]; rfl, HB3.out⟩
  · have hb : ((⟨nm.toArray⟩ : ByteArray).toList == (⟨nm'.toArray⟩ : ByteArray).toList) = false := by rw [ByteArray.toList_eq, ByteArray.toList_eq]; simpa using hn
    have HD : Hid (decide ((⟨nm, p0, p1, ms⟩ : Pt) = ⟨nm', q0, q1, ms'⟩) = false) := Lib.hid (by simp [hn])
    clear hn
    generalize (⟨nm.toArray⟩ : ByteArray) = N1 at *
    generalize (⟨nm'.toArray⟩ : ByteArray) = N2 at *
    go_enter Tryz.func11, Tryz.ntmps11
    go_wp2_with fail
    go_ret
    exact ⟨by rw [HD.out]; rfl, W2.out⟩
end Go.Proofs.YtkdcdnkfcbngaaaGreatDoor
