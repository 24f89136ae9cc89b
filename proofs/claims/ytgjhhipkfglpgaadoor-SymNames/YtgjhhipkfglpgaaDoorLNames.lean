/- The walk of SymNames: two names begin two states; one name, and two prologues, too. -/
import Derived.Test.YtgjhhipkfglpgaaDoorKk
import Derived.Test.YtgjhhipkfglpgaaDoorKi
namespace Go.Proofs.YtgjhhipkfglpgaaDoor
open Go.RowKit

theorem byB_inj {a b : ByteArray} (h : byB a = byB b) : a = b := by
  unfold byB at h
  have h1 : a.data.toList = b.data.toList := (List.map_inj_right (fun x y (e : (x.toNat : Int) = y.toNat) => UInt8.toNat_inj.1 (by omega))).1 h
  obtain ⟨⟨l⟩⟩ := a
  obtain ⟨⟨m⟩⟩ := b
  simp only at h1
  rw [h1]
theorem toList_inj {a b : ByteArray} (h : a.toList = b.toList) : a = b := by
  rw [ByteArray.toList_eq, ByteArray.toList_eq] at h
  obtain ⟨⟨l⟩⟩ := a
  obtain ⟨⟨m⟩⟩ := b
  simp only at h
  rw [h]
theorem names_mk (n : Int) : mkL 1000 [zN] ⟨1, n, 0, 0, 0⟩ = [zN, ⟨1, n, 0, 0, 0⟩] ∧ mkR 1000 [zN] ⟨1, n, 0, 0, 0⟩ = 1 ∧ mkE 1000 [zN] ⟨1, n, 0, 0, 0⟩ = 0 :=
  mk_new (by simp [right, many, partsOk, partOk, numOk, lastOk]) (by simp [ix, zN]) (by simp)
/-- What three beginnings leave. -/
theorem names_math {L : List Nd} (hL : WF L) (hl : L.length ≤ 2) (h1 : hasB L.length 1 = true) (one two : ByteArray) (h3 : one.size ≤ 100) (h4 : two.size ≤ 100) :
    ∃ M1 M2 M3 c1 r1 c2 r2 r3, (bgL 1000 L (byB one) 0 = M1 ∧ bgE 1000 L (byB one) 0 = 0 ∧ bgS 1000 L (byB one) 0 = ⟨c1, r1, cZ⟩) ∧ (bgL 1000 M1 (byB two) 0 = M2 ∧ bgE 1000 M1 (byB two) 0 = 0 ∧ bgS 1000 M1 (byB two) 0 = ⟨c2, r2, cZ⟩) ∧
      (bgL 1000 M2 (byB one) 1 = M3 ∧ bgE 1000 M2 (byB one) 1 = 0 ∧ bgS 1000 M2 (byB one) 1 = ⟨c1, r3, cZ⟩) ∧ r1 ≠ r3 ∧ (one = two → c2 = c1 ∧ r2 = r1) ∧ (one ≠ two → c1 ≠ c2) := by
  have l3 := byB_len one
  have l4 := byB_len two
  have hz : hasB L.length 0 = true := hasB_iff.2 ⟨by omega, by have := hL.toWFp.pos; omega⟩
  obtain ⟨e1, W1, g1, c1, r1, s1, n1, k1, d1⟩ := bg_go (lim := 1000) (bs := byB one) (p := 0) hL (by decide) (byB_ok one) (by omega) (by omega) hz
  have w1 := W1.le
  obtain ⟨e2, W2, g2, c2, r2, s2, n2, k2, d2⟩ := bg_go (lim := 1000) (bs := byB two) (p := 0) W1.wf (by decide) (byB_ok two) (by omega) (by omega) (W1.has hz)
  have w2 := W2.le
  obtain ⟨e3, W3, g3, c3, r3, s3, n3, k3, d3⟩ := bg_go (lim := 1000) (bs := byB one) (p := 1) W2.wf (by decide) (byB_ok one) (by omega) (by omega) (W2.has (W1.has h1))
  have hc : c3 = c1 := n3.one W3.wf.toWFp (Nm.went W2.wf W3 (Nm.went W1.wf W2 n1))
  subst hc
  refine ⟨_, _, _, c3, r1, c2, r2, r3, ⟨rfl, e1, s1⟩, ⟨rfl, e2, s2⟩, ⟨rfl, e3, s3⟩, ?_, ?_, ?_⟩
  · refine nd_ne (L := bgL 1000 (bgL 1000 (bgL 1000 L (byB one) 0) (byB two) 0) (byB one) 1) ?_
    rw [W3.keep (W2.has k1), W2.keep k1, d1, d3]
    exact hashN_ne (.inr (by decide))
  · rintro rfl
    have hc2 : c2 = c3 := n2.one W2.wf.toWFp (Nm.went W1.wf W2 n1)
    subst hc2
    refine ⟨rfl, W2.wf.toWFp.nd_inj (both_iff.2 ⟨hasB_iff.1 k2, hasB_iff.1 (W2.has k1)⟩) ?_⟩
    rw [d2, W2.keep k1, d1]
  · intro hne hc2
    subst hc2
    have := (Nm.went W1.wf W2 n1).inj W2.wf.toWFp n2
    exact hne (byB_inj (List.reverse_inj.1 this))
set_option maxRecDepth 100000 in
set_option maxHeartbeats 4000000 in
theorem names_long (one two : ByteArray) (n : Int) (hm : 100 < one.size ∨ 100 < two.size) (w : World) (hs : Shp w) : Calls Tryd.prog 5 #[.string one, .string two, .int .u64 n] w fun e w' => e = .returned (.bool true) ∧ Below w.heap.size w w' := by
  have HN := Lib.hid (new_any 1000 w)
  have HAw := Lib.hid (fun w1 (h : Below w.heap.size w w1) => awake11_any w1 (hs.below h))
  clear hs
  by_cases h1 : 100 < one.size
  · have h1i : (100 : Int) < one.size := by omega
    clear h1 hm
    go_enter Tryd.func5, Tryd.ntmps5
    go_wp2_with fail
    go_at_call 17
    refine HN.out.mono ?_
    rintro e w1 ⟨b, g, bm, rfl, -, -, -, -, hb1⟩
    go_wp2_with (go_at_call 7; refine (HAw.out _ hb1).mono ?_; rintro e w2 ⟨rfl, hb2⟩)
    go_ret
    exact ⟨rfl, hb1.trans (hb2.mono hb1.size)⟩
  · have h1i : ¬ (100 : Int) < one.size := by omega
    have h2i : (100 : Int) < two.size := by omega
    clear h1 hm
    go_enter Tryd.func5, Tryd.ntmps5
    go_wp2_with fail
    go_at_call 17
    refine HN.out.mono ?_
    rintro e w1 ⟨b, g, bm, rfl, -, -, -, -, hb1⟩
    go_wp2_with (go_at_call 7; refine (HAw.out _ hb1).mono ?_; rintro e w2 ⟨rfl, hb2⟩)
    go_ret
    exact ⟨rfl, hb1.trans (hb2.mono hb1.size)⟩
set_option maxRecDepth 100000 in
set_option maxHeartbeats 4000000 in
theorem names_good (one two : ByteArray) (n : Int) (h3 : one.size ≤ 100) (h4 : two.size ≤ 100) (hn : u64ok n) (w : World) (hs : Shp w) : Calls Tryd.prog 5 #[.string one, .string two, .int .u64 n] w fun e w' => e = .returned (.bool true) ∧ Below w.heap.size w w' := by
  have HN := Lib.hid (new_any 1000 w)
  have HSH := Lib.hid hs
  have HAw := Lib.hid (fun w1 (h : Below w.heap.size w w1) => awake11_any w1 (hs.below h))
  have h1i : ¬ (100 : Int) < one.size := by omega
  have h2i : ¬ (100 : Int) < two.size := by omega
  have H34 := Lib.hid (And.intro h3 h4)
  have HNO := Lib.hid hn
  clear hs h3 h4 hn
  go_enter Tryd.func5, Tryd.ntmps5
  go_wp2_with fail
  go_at_call 17
  refine HN.out.mono ?_
  rintro e w1 ⟨b, g, bm, rfl, hA1, h1, h2, h3, hb1⟩
  have HF1 : Hid (Fs w w w1 b g g bm 1 1000 [zN]) := Lib.hid ⟨⟨hA1, hb1, h1, h2, h3⟩, .inl rfl, Kept.of hb1, Nat.le_refl _⟩
  clear hA1 hb1 h1 h2 h3 HN
  have HM := Lib.hid (HF1.out.st.mkn HSH.out 1 n 0 0 0 ⟨by simp [i64ok], HNO.out, by simp [i64ok], by simp [i64ok], by simp [i64ok]⟩)
  rw [(names_mk n).1, (names_mk n).2.1, (names_mk n).2.2] at HM
  go_wp2_with fail
  go_at_call 18
  refine (HM.out).mono ?_
  rintro e w2 ⟨g2, cap2, rfl, hA, hg, hk⟩
  have HF11 := Lib.hid (HF1.out.step hA hg hk)
  clear HF1 hA hg hk HM
  obtain ⟨M1, M2, M3, c1, r1, c2, r2, r3, ⟨a1, a2, a3⟩, ⟨b1, b2, b3⟩, ⟨d1, d2, d3⟩, q1, q2, q3⟩ := names_math HF11.out.st.ar.wf (by simp) (by simp [hasB]) one two H34.out.1 H34.out.2
  have HB1 := Lib.hid (fun wi g2 cap2 (h : St w wi b g2 bm cap2 1000 [zN, ⟨1, n, 0, 0, 0⟩]) => begin_any w b g2 bm cap2 1000 _ one 0 wi h HSH.out (by simp [i64ok]))
  have HB2 := Lib.hid (fun wi g2 cap2 (h : St w wi b g2 bm cap2 1000 M1) => begin_any w b g2 bm cap2 1000 _ two 0 wi h HSH.out (by simp [i64ok]))
  have HB3 := Lib.hid (fun wi g2 cap2 (h : St w wi b g2 bm cap2 1000 M2) => begin_any w b g2 bm cap2 1000 _ one 1 wi h HSH.out (by simp [i64ok]))
  rw [a1, a2, a3] at HB1
  rw [b1, b2, b3] at HB2
  rw [d1, d2, d3] at HB3
  unfold syV cZ at HB1 HB2 HB3
  have HQ := Lib.hid (And.intro q1 (And.intro q2 q3))
  clear a1 a2 a3 b1 b2 b3 d1 d2 d3 q1 q2 q3
  go_wp2_with fail
  go_at_call 9
  refine (HB1.out _ _ _ HF11.out.st).mono ?_
  rintro e w3 ⟨g3, cap3, rfl, hA, hg, hk⟩
  have HF12 := Lib.hid (HF11.out.step hA hg hk)
  clear HF11 hA hg hk HB1
  have HB13 : Hid (Below w3.heap.size w3 (w3.alloc (.cells #[.int .i64 c1, .int .i64 r1, .int .i64 0, .bool false, .int .u64 0] 35))) := Lib.hid ((Below.refl _ _).alloc (Nat.le_refl _) _)
  have HX14 : Hid ((w3.alloc (.cells #[.int .i64 c1, .int .i64 r1, .int .i64 0, .bool false, .int .u64 0] 35)).heap[w3.heap.size]? = some (.cells #[.int .i64 c1, .int .i64 r1, .int .i64 0, .bool false, .int .u64 0] 35 (0, 0))) := Lib.hid (by have q := heap_alloc_new w3 (.cells #[.int .i64 c1, .int .i64 r1, .int .i64 0, .bool false, .int .u64 0] 35); exact q)
  have HF15 := Lib.hid (HF12.out.keep HB13.out)
  have HL16 : Hid (w.heap.size ≤ w3.heap.size) := Lib.hid HF12.out.kp.size
  clear HF12 HB13
  go_wp2_with fail
  generalize (w3.alloc (.cells #[.int .i64 c1, .int .i64 r1, .int .i64 0, .bool false, .int .u64 0] 35)) = W17 at *
  generalize w3.heap.size = p18 at *
  go_at_call 9
  refine (HB2.out _ _ _ HF15.out.st).mono ?_
  rintro e w4 ⟨g4, cap4, rfl, hA, hg, hk⟩
  have HX19 := Lib.hid (HF15.out.st.ar.boxKept hk HX14.out (by decide) (by decide))
  have HF20 := Lib.hid (HF15.out.step hA hg hk)
  clear HX14 HF15 hA hg hk HB2
  have HB21 : Hid (Below w4.heap.size w4 (w4.alloc (.cells #[.int .i64 c2, .int .i64 r2, .int .i64 0, .bool false, .int .u64 0] 35))) := Lib.hid ((Below.refl _ _).alloc (Nat.le_refl _) _)
  have HX22 := Lib.hid (below_box HB21.out HX19.out)
  have HX23 : Hid ((w4.alloc (.cells #[.int .i64 c2, .int .i64 r2, .int .i64 0, .bool false, .int .u64 0] 35)).heap[w4.heap.size]? = some (.cells #[.int .i64 c2, .int .i64 r2, .int .i64 0, .bool false, .int .u64 0] 35 (0, 0))) := Lib.hid (by have q := heap_alloc_new w4 (.cells #[.int .i64 c2, .int .i64 r2, .int .i64 0, .bool false, .int .u64 0] 35); exact q)
  have HF24 := Lib.hid (HF20.out.keep HB21.out)
  have HL25 : Hid (w.heap.size ≤ w4.heap.size) := Lib.hid HF20.out.kp.size
  clear HX19 HF20 HB21
  go_wp2_with fail
  generalize (w4.alloc (.cells #[.int .i64 c2, .int .i64 r2, .int .i64 0, .bool false, .int .u64 0] 35)) = W27 at *
  generalize w4.heap.size = p28 at *
  go_at_call 9
  refine (HB3.out _ _ _ HF24.out.st).mono ?_
  rintro e w5 ⟨g5, cap5, rfl, hA, hg, hk⟩
  have HX29 := Lib.hid (HF24.out.st.ar.boxKept hk HX22.out (by decide) (by decide))
  have HX30 := Lib.hid (HF24.out.st.ar.boxKept hk HX23.out (by decide) (by decide))
  have HF31 := Lib.hid (HF24.out.step hA hg hk)
  clear HX22 HX23 HF24 hA hg hk HB3
  obtain ⟨q1, q2, q3⟩ := HQ.out
  have n1 : (r1 == r3) = false := by simpa using q1
  clear HQ q1
  by_cases heq : one = two
  · obtain ⟨x1, x2⟩ := q2 heq
    clear q2 q3
    subst heq x1 x2
    have HB32 : Hid (Below w5.heap.size w5 (w5.alloc (.cells #[.int .i64 c2, .int .i64 r3, .int .i64 0, .bool false, .int .u64 0] 35))) := Lib.hid ((Below.refl _ _).alloc (Nat.le_refl _) _)
    have cs0 : w5.cell? ⟨p18, 0, none⟩ = some (.int .i64 c2) := (cell_of_row _ _ 0 _ _ _ HX29.out).trans rfl
    have cs1 : w5.cell? ⟨p18, 1, none⟩ = some (.int .i64 r2) := (cell_of_row _ _ 1 _ _ _ HX29.out).trans rfl
    have cs2 : w5.cell? ⟨p18, 2, none⟩ = some (.int .i64 0) := (cell_of_row _ _ 2 _ _ _ HX29.out).trans rfl
    have cs3 : w5.cell? ⟨p18, 3, none⟩ = some (.bool false) := (cell_of_row _ _ 3 _ _ _ HX29.out).trans rfl
    have cs4 : w5.cell? ⟨p18, 4, none⟩ = some (.int .u64 0) := (cell_of_row _ _ 4 _ _ _ HX29.out).trans rfl
    have ls := lt_of_heap HX29.out
    have fs : ∀ j, w5.frozen? ⟨p18, j, none⟩ = false := fun j => frozen_of_row _ _ _ _ _ HX29.out
    have ct0 : w5.cell? ⟨p28, 0, none⟩ = some (.int .i64 c2) := (cell_of_row _ _ 0 _ _ _ HX30.out).trans rfl
    have ct1 : w5.cell? ⟨p28, 1, none⟩ = some (.int .i64 r2) := (cell_of_row _ _ 1 _ _ _ HX30.out).trans rfl
    have ct2 : w5.cell? ⟨p28, 2, none⟩ = some (.int .i64 0) := (cell_of_row _ _ 2 _ _ _ HX30.out).trans rfl
    have ct3 : w5.cell? ⟨p28, 3, none⟩ = some (.bool false) := (cell_of_row _ _ 3 _ _ _ HX30.out).trans rfl
    have ct4 : w5.cell? ⟨p28, 4, none⟩ = some (.int .u64 0) := (cell_of_row _ _ 4 _ _ _ HX30.out).trans rfl
    have lt := lt_of_heap HX30.out
    have ft : ∀ j, w5.frozen? ⟨p28, j, none⟩ = false := fun j => frozen_of_row _ _ _ _ _ HX30.out
    have HX33 := Lib.hid (below_box HB32.out HX29.out)
    have HX34 := Lib.hid (below_box HB32.out HX30.out)
    have HX35 : Hid ((w5.alloc (.cells #[.int .i64 c2, .int .i64 r3, .int .i64 0, .bool false, .int .u64 0] 35)).heap[w5.heap.size]? = some (.cells #[.int .i64 c2, .int .i64 r3, .int .i64 0, .bool false, .int .u64 0] 35 (0, 0))) := Lib.hid (by have q := heap_alloc_new w5 (.cells #[.int .i64 c2, .int .i64 r3, .int .i64 0, .bool false, .int .u64 0] 35); exact q)
    have HF36 := Lib.hid (HF31.out.keep HB32.out)
    have HL37 : Hid (w.heap.size ≤ w5.heap.size) := Lib.hid HF31.out.kp.size
    clear HX29 HX30 HF31 HB32
    go_wp2_with fail
    clear cs0 cs1 cs2 cs3 cs4 ls fs ct0 ct1 ct2 ct3 ct4 lt ft
    generalize (w5.alloc (.cells #[.int .i64 c2, .int .i64 r3, .int .i64 0, .bool false, .int .u64 0] 35)) = W40 at *
    generalize w5.heap.size = p41 at *
    have HA9 := Lib.hid (HAw.out _ HF36.out.st.bel)
    go_at_call 7
    refine HA9.out.mono ?_
    rintro e w9 ⟨rfl, hb9⟩
    go_wp2_with fail
    go_ret
    exact ⟨rfl, (HF36.out.st.keep hb9).bel⟩
  · have n2 : (c1 == c2) = false := by have := q3 heq; simpa using this
    have n3 : ¬ one.toList = two.toList := fun h => heq (toList_inj h)
    have n5 : (one.toList == two.toList) = false := beq_eq_false_iff_ne.2 n3
    clear q2 q3
    have HB32 : Hid (Below w5.heap.size w5 (w5.alloc (.cells #[.int .i64 c1, .int .i64 r3, .int .i64 0, .bool false, .int .u64 0] 35))) := Lib.hid ((Below.refl _ _).alloc (Nat.le_refl _) _)
    have cs0 : w5.cell? ⟨p18, 0, none⟩ = some (.int .i64 c1) := (cell_of_row _ _ 0 _ _ _ HX29.out).trans rfl
    have cs1 : w5.cell? ⟨p18, 1, none⟩ = some (.int .i64 r1) := (cell_of_row _ _ 1 _ _ _ HX29.out).trans rfl
    have cs2 : w5.cell? ⟨p18, 2, none⟩ = some (.int .i64 0) := (cell_of_row _ _ 2 _ _ _ HX29.out).trans rfl
    have cs3 : w5.cell? ⟨p18, 3, none⟩ = some (.bool false) := (cell_of_row _ _ 3 _ _ _ HX29.out).trans rfl
    have cs4 : w5.cell? ⟨p18, 4, none⟩ = some (.int .u64 0) := (cell_of_row _ _ 4 _ _ _ HX29.out).trans rfl
    have ls := lt_of_heap HX29.out
    have fs : ∀ j, w5.frozen? ⟨p18, j, none⟩ = false := fun j => frozen_of_row _ _ _ _ _ HX29.out
    have ct0 : w5.cell? ⟨p28, 0, none⟩ = some (.int .i64 c2) := (cell_of_row _ _ 0 _ _ _ HX30.out).trans rfl
    have ct1 : w5.cell? ⟨p28, 1, none⟩ = some (.int .i64 r2) := (cell_of_row _ _ 1 _ _ _ HX30.out).trans rfl
    have ct2 : w5.cell? ⟨p28, 2, none⟩ = some (.int .i64 0) := (cell_of_row _ _ 2 _ _ _ HX30.out).trans rfl
    have ct3 : w5.cell? ⟨p28, 3, none⟩ = some (.bool false) := (cell_of_row _ _ 3 _ _ _ HX30.out).trans rfl
    have ct4 : w5.cell? ⟨p28, 4, none⟩ = some (.int .u64 0) := (cell_of_row _ _ 4 _ _ _ HX30.out).trans rfl
    have lt := lt_of_heap HX30.out
    have ft : ∀ j, w5.frozen? ⟨p28, j, none⟩ = false := fun j => frozen_of_row _ _ _ _ _ HX30.out
    have HX33 := Lib.hid (below_box HB32.out HX29.out)
    have HX34 := Lib.hid (below_box HB32.out HX30.out)
    have HX35 : Hid ((w5.alloc (.cells #[.int .i64 c1, .int .i64 r3, .int .i64 0, .bool false, .int .u64 0] 35)).heap[w5.heap.size]? = some (.cells #[.int .i64 c1, .int .i64 r3, .int .i64 0, .bool false, .int .u64 0] 35 (0, 0))) := Lib.hid (by have q := heap_alloc_new w5 (.cells #[.int .i64 c1, .int .i64 r3, .int .i64 0, .bool false, .int .u64 0] 35); exact q)
    have HF36 := Lib.hid (HF31.out.keep HB32.out)
    have HL37 : Hid (w.heap.size ≤ w5.heap.size) := Lib.hid HF31.out.kp.size
    clear HX29 HX30 HF31 HB32
    go_wp2_with fail
    clear cs0 cs1 cs2 cs3 cs4 ls fs ct0 ct1 ct2 ct3 ct4 lt ft
    generalize (w5.alloc (.cells #[.int .i64 c1, .int .i64 r3, .int .i64 0, .bool false, .int .u64 0] 35)) = W40 at *
    generalize w5.heap.size = p41 at *
    have HA9 := Lib.hid (HAw.out _ HF36.out.st.bel)
    go_at_call 7
    refine HA9.out.mono ?_
    rintro e w9 ⟨rfl, hb9⟩
    go_wp2_with fail
    go_ret
    exact ⟨rfl, (HF36.out.st.keep hb9).bel⟩
end Go.Proofs.YtgjhhipkfglpgaaDoor
