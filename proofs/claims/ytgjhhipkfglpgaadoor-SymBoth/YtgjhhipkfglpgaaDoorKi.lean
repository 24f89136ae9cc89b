/- Layer 11: what the document fixes of a key that is mixed (awake): its mathematics. -/
import Derived.Test.YtgjhhipkfglpgaaDoorKh
namespace Go.Proofs.YtgjhhipkfglpgaaDoor
open Go.RowKit
instance : DecidableEq Sf := fun x y =>
  if h : x.ck = y.ck ∧ x.h = y.h ∧ x.c = y.c then isTrue (Sf.ext3 h.1 h.2.1 h.2.2) else isFalse (fun e => h (by subst e; simp))
def aX : Nd := ⟨1, 1, 0, 0, 0⟩
def aL1 : List Nd := [zN, aX]
def aL2 : List Nd := [zN, aX, wordN 78, pairN 0 2, hashN 3 0]
def aL3 : List Nd := [zN, aX, wordN 78, pairN 0 2, hashN 3 0, keyN 1 3 1, keyN 2 3 1]
def aL4 : List Nd := [zN, aX, wordN 78, pairN 0 2, hashN 3 0, keyN 1 3 1, keyN 2 3 1, ⟨7, 0, 6, 4, 1⟩, hashN 4 7]
theorem a_mk : mkL 30 [zN] aX = aL1 ∧ mkR 30 [zN] aX = 1 ∧ mkE 30 [zN] aX = 0 := mk_new (by decide) (by decide) (by decide)
theorem a_bg : bgL 30 aL1 [78] 0 = aL2 ∧ bgS 30 aL1 [78] 0 = ⟨3, 4, cZ⟩ ∧ bgE 30 aL1 [78] 0 = 0 := by decide +kernel
theorem a_mx : yL 30 aL2 3 1 2 = aL3 ∧ mxS 30 aL2 ⟨3, 4, cZ⟩ 1 = ⟨5, 4, ⟨6, true, 0⟩⟩ ∧ yE 30 aL2 3 1 2 = 0 := by decide +kernel
theorem a_se : seL 30 aL3 ⟨5, 4, ⟨6, true, 0⟩⟩ 1 = aL4 ∧ seS 30 aL3 ⟨5, 4, ⟨6, true, 0⟩⟩ 1 = ⟨5, 8, ⟨6, true, 1⟩⟩ ∧ seR 30 aL3 ⟨5, 4, ⟨6, true, 0⟩⟩ 1 = 7 ∧ seE 30 aL3 ⟨5, 4, ⟨6, true, 0⟩⟩ 1 = 0 := by decide +kernel
theorem a_on : onL 30 aL4 ⟨5, 4, ⟨6, true, 0⟩⟩ 7 = aL4 ∧ onS 30 aL4 ⟨5, 4, ⟨6, true, 0⟩⟩ 7 = ⟨5, 8, ⟨6, true, 1⟩⟩ ∧ onR 30 aL4 ⟨5, 4, ⟨6, true, 0⟩⟩ 7 = 1 ∧ onE 30 aL4 ⟨5, 4, ⟨6, true, 0⟩⟩ 7 = 0 := by decide +kernel

set_option maxRecDepth 100000 in
set_option maxHeartbeats 4000000 in
theorem awake11_any (w : World) (hE : Shp w) : Calls Tryd.prog 7 #[] w fun e w' => e = .returned (.bool true) ∧ Below w.heap.size w w' := by
  have HN := Lib.hid (new_any 30 w)
  have HSH := Lib.hid hE
  clear hE
  go_enter Tryd.func7, Tryd.ntmps7
  go_wp2_with fail
  go_at_call 17
  refine HN.out.mono ?_
  rintro e w1 ⟨b, g, bm, rfl, hA1, h1, h2, h3, hb1⟩
  have HF1 : Hid (Fs w w w1 b g g bm 1 30 [zN]) := Lib.hid ⟨⟨hA1, hb1, h1, h2, h3⟩, .inl rfl, Kept.of hb1, Nat.le_refl _⟩
  clear hA1 hb1 h1 h2 h3 HN
  have HM := Lib.hid (HF1.out.st.mkn HSH.out 1 1 0 0 0 ⟨by simp [i64ok], by simp [u64ok], by simp [i64ok], by simp [i64ok], by simp [i64ok]⟩)
  rw [show (⟨1, 1, 0, 0, 0⟩ : Nd) = aX from rfl, a_mk.1, a_mk.2.1, a_mk.2.2] at HM
  go_wp2_with fail
  go_at_call 18
  refine (HM.out).mono ?_
  rintro e w2 ⟨g2, cap2, rfl, hA, hg, hk⟩
  have HF11 := Lib.hid (HF1.out.step hA hg hk)
  clear HF1 hA hg hk HM
  have HM := Lib.hid (begin_any w b g2 bm cap2 30 aL1 ⟨#[78]⟩ 0 w2 HF11.out.st HSH.out (by simp [i64ok]))
  rw [show byB ⟨#[78]⟩ = [78] from by decide, a_bg.1, a_bg.2.1, a_bg.2.2] at HM
  unfold syV cZ at HM
  go_wp2_with fail
  go_at_call 9
  refine (HM.out).mono ?_
  rintro e w3 ⟨g3, cap3, rfl, hA, hg, hk⟩
  have HF12 := Lib.hid (HF11.out.step hA hg hk)
  clear HF11 hA hg hk HM
  have HB13 : Hid (Below w3.heap.size w3 (w3.alloc (.cells #[.int .i64 3, .int .i64 4, .int .i64 0, .bool false, .int .u64 0] 35))) := Lib.hid ((Below.refl _ _).alloc (Nat.le_refl _) _)
  have HX14 : Hid ((w3.alloc (.cells #[.int .i64 3, .int .i64 4, .int .i64 0, .bool false, .int .u64 0] 35)).heap[w3.heap.size]? = some (.cells #[.int .i64 3, .int .i64 4, .int .i64 0, .bool false, .int .u64 0] 35 (0, 0))) := Lib.hid (by have q := heap_alloc_new w3 (.cells #[.int .i64 3, .int .i64 4, .int .i64 0, .bool false, .int .u64 0] 35); exact q)
  have HF15 := Lib.hid (HF12.out.keep HB13.out)
  have HL16 : Hid (w.heap.size ≤ w3.heap.size) := Lib.hid HF12.out.kp.size
  clear HF12 HB13
  go_wp2_with fail
  generalize (w3.alloc (.cells #[.int .i64 3, .int .i64 4, .int .i64 0, .bool false, .int .u64 0] 35)) = W17 at *
  generalize w3.heap.size = p18 at *
  have HM := Lib.hid (mixKey_any w b g3 bm cap3 30 aL2 ⟨3, 4, cZ⟩ 1 W17 HF15.out.st HSH.out (by simp [i64ok]) (by simp [i64ok]))
  rw [a_mx.1, a_mx.2.1, a_mx.2.2] at HM
  unfold syV cZ at HM
  go_at_call 12
  refine (HM.out).mono ?_
  rintro e w4 ⟨g4, cap4, rfl, hA, hg, hk⟩
  have HX19 := Lib.hid (HF15.out.st.ar.boxKept hk HX14.out (by decide) (by decide))
  have HF20 := Lib.hid (HF15.out.step hA hg hk)
  clear HX14 HF15 hA hg hk HM
  have HB21 : Hid (Below w4.heap.size w4 (w4.alloc (.cells #[.int .i64 5, .int .i64 4, .int .i64 6, .bool true, .int .u64 0] 35))) := Lib.hid ((Below.refl _ _).alloc (Nat.le_refl _) _)
  have HX22 := Lib.hid (below_box HB21.out HX19.out)
  have HX23 : Hid ((w4.alloc (.cells #[.int .i64 5, .int .i64 4, .int .i64 6, .bool true, .int .u64 0] 35)).heap[w4.heap.size]? = some (.cells #[.int .i64 5, .int .i64 4, .int .i64 6, .bool true, .int .u64 0] 35 (0, 0))) := Lib.hid (by have q := heap_alloc_new w4 (.cells #[.int .i64 5, .int .i64 4, .int .i64 6, .bool true, .int .u64 0] 35); exact q)
  have HF24 := Lib.hid (HF20.out.keep HB21.out)
  have HL25 : Hid (w.heap.size ≤ w4.heap.size) := Lib.hid HF20.out.kp.size
  clear HX19 HF20 HB21
  go_wp2_with fail
  generalize (w4.alloc (.cells #[.int .i64 5, .int .i64 4, .int .i64 6, .bool true, .int .u64 0] 35)) = W27 at *
  generalize w4.heap.size = p28 at *
  have HM := Lib.hid (seal11_any w b g4 bm cap4 30 aL3 ⟨5, 4, ⟨6, true, 0⟩⟩ 1 W27 HF24.out.st HSH.out ⟨by simp [i64ok], by simp [i64ok], by simp [i64ok], by simp [u64ok]⟩ (by simp [i64ok]))
  rw [a_se.1, a_se.2.1, a_se.2.2.1, a_se.2.2.2] at HM
  unfold syV at HM
  go_at_call 14
  refine (HM.out).mono ?_
  rintro e w5 ⟨g5, cap5, rfl, hA, hg, hk⟩
  have HX29 := Lib.hid (HF24.out.st.ar.boxKept hk HX22.out (by decide) (by decide))
  have HX30 := Lib.hid (HF24.out.st.ar.boxKept hk HX23.out (by decide) (by decide))
  have HF31 := Lib.hid (HF24.out.step hA hg hk)
  clear HX22 HX23 HF24 hA hg hk HM
  have HB32 : Hid (Below w5.heap.size w5 (w5.alloc (.cells #[.int .i64 5, .int .i64 8, .int .i64 6, .bool true, .int .u64 1] 35))) := Lib.hid ((Below.refl _ _).alloc (Nat.le_refl _) _)
  have ct0 : w5.cell? ⟨p28, 0, none⟩ = some (.int .i64 5) := (cell_of_row _ _ 0 _ _ _ HX30.out).trans rfl
  have ct1 : w5.cell? ⟨p28, 1, none⟩ = some (.int .i64 4) := (cell_of_row _ _ 1 _ _ _ HX30.out).trans rfl
  have ct2 : w5.cell? ⟨p28, 2, none⟩ = some (.int .i64 6) := (cell_of_row _ _ 2 _ _ _ HX30.out).trans rfl
  have ct3 : w5.cell? ⟨p28, 3, none⟩ = some (.bool true) := (cell_of_row _ _ 3 _ _ _ HX30.out).trans rfl
  have ct4 : w5.cell? ⟨p28, 4, none⟩ = some (.int .u64 0) := (cell_of_row _ _ 4 _ _ _ HX30.out).trans rfl
  have lt := lt_of_heap HX30.out
  have ft : ∀ j, w5.frozen? ⟨p28, j, none⟩ = false := fun j => frozen_of_row _ _ _ _ _ HX30.out
  have HX33 := Lib.hid (below_box HB32.out HX29.out)
  have HX34 := Lib.hid (below_box HB32.out HX30.out)
  have HX35 : Hid ((w5.alloc (.cells #[.int .i64 5, .int .i64 8, .int .i64 6, .bool true, .int .u64 1] 35)).heap[w5.heap.size]? = some (.cells #[.int .i64 5, .int .i64 8, .int .i64 6, .bool true, .int .u64 1] 35 (0, 0))) := Lib.hid (by have q := heap_alloc_new w5 (.cells #[.int .i64 5, .int .i64 8, .int .i64 6, .bool true, .int .u64 1] 35); exact q)
  have HF36 := Lib.hid (HF31.out.keep HB32.out)
  have HL37 : Hid (w.heap.size ≤ w5.heap.size) := Lib.hid HF31.out.kp.size
  clear HX29 HX30 HF31 HB32
  go_wp2_with fail
  clear ct0 ct1 ct2 ct3 ct4 lt ft
  generalize (w5.alloc (.cells #[.int .i64 5, .int .i64 8, .int .i64 6, .bool true, .int .u64 1] 35)) = W40 at *
  generalize w5.heap.size = p41 at *
  have HM := Lib.hid (open11_any w b g5 bm cap5 30 aL4 ⟨5, 4, ⟨6, true, 0⟩⟩ 7 W40 HF36.out.st HSH.out ⟨by simp [i64ok], by simp [i64ok], by simp [i64ok], by simp [u64ok]⟩ (by simp [i64ok]))
  rw [a_on.1, a_on.2.1, a_on.2.2.1, a_on.2.2.2] at HM
  unfold syV at HM
  go_at_call 15
  refine (HM.out).mono ?_
  rintro e w6 ⟨g6, cap6, rfl, hA, hg, hk⟩
  have HX42 := Lib.hid (HF36.out.st.ar.boxKept hk HX33.out (by decide) (by decide))
  have HX43 := Lib.hid (HF36.out.st.ar.boxKept hk HX34.out (by decide) (by decide))
  have HX44 := Lib.hid (HF36.out.st.ar.boxKept hk HX35.out (by decide) (by decide))
  have HF45 := Lib.hid (HF36.out.step hA hg hk)
  clear HX33 HX34 HX35 HF36 hA hg hk HM
  have cs0 : w6.cell? ⟨p18, 0, none⟩ = some (.int .i64 3) := (cell_of_row _ _ 0 _ _ _ HX42.out).trans rfl
  have cs1 : w6.cell? ⟨p18, 1, none⟩ = some (.int .i64 4) := (cell_of_row _ _ 1 _ _ _ HX42.out).trans rfl
  have cs2 : w6.cell? ⟨p18, 2, none⟩ = some (.int .i64 0) := (cell_of_row _ _ 2 _ _ _ HX42.out).trans rfl
  have cs3 : w6.cell? ⟨p18, 3, none⟩ = some (.bool false) := (cell_of_row _ _ 3 _ _ _ HX42.out).trans rfl
  have cs4 : w6.cell? ⟨p18, 4, none⟩ = some (.int .u64 0) := (cell_of_row _ _ 4 _ _ _ HX42.out).trans rfl
  have ls := lt_of_heap HX42.out
  have fs : ∀ j, w6.frozen? ⟨p18, j, none⟩ = false := fun j => frozen_of_row _ _ _ _ _ HX42.out
  have ct0 : w6.cell? ⟨p28, 0, none⟩ = some (.int .i64 5) := (cell_of_row _ _ 0 _ _ _ HX43.out).trans rfl
  have ct1 : w6.cell? ⟨p28, 1, none⟩ = some (.int .i64 4) := (cell_of_row _ _ 1 _ _ _ HX43.out).trans rfl
  have ct2 : w6.cell? ⟨p28, 2, none⟩ = some (.int .i64 6) := (cell_of_row _ _ 2 _ _ _ HX43.out).trans rfl
  have ct3 : w6.cell? ⟨p28, 3, none⟩ = some (.bool true) := (cell_of_row _ _ 3 _ _ _ HX43.out).trans rfl
  have ct4 : w6.cell? ⟨p28, 4, none⟩ = some (.int .u64 0) := (cell_of_row _ _ 4 _ _ _ HX43.out).trans rfl
  have lt := lt_of_heap HX43.out
  have ft : ∀ j, w6.frozen? ⟨p28, j, none⟩ = false := fun j => frozen_of_row _ _ _ _ _ HX43.out
  have cu0 : w6.cell? ⟨p41, 0, none⟩ = some (.int .i64 5) := (cell_of_row _ _ 0 _ _ _ HX44.out).trans rfl
  have cu1 : w6.cell? ⟨p41, 1, none⟩ = some (.int .i64 8) := (cell_of_row _ _ 1 _ _ _ HX44.out).trans rfl
  have cu2 : w6.cell? ⟨p41, 2, none⟩ = some (.int .i64 6) := (cell_of_row _ _ 2 _ _ _ HX44.out).trans rfl
  have cu3 : w6.cell? ⟨p41, 3, none⟩ = some (.bool true) := (cell_of_row _ _ 3 _ _ _ HX44.out).trans rfl
  have cu4 : w6.cell? ⟨p41, 4, none⟩ = some (.int .u64 1) := (cell_of_row _ _ 4 _ _ _ HX44.out).trans rfl
  have lu := lt_of_heap HX44.out
  have fu : ∀ j, w6.frozen? ⟨p41, j, none⟩ = false := fun j => frozen_of_row _ _ _ _ _ HX44.out
  go_wp2_with fail
  go_ret
  exact ⟨rfl, (HF45.out.keep ((Below.refl _ _).alloc (Nat.le_refl _) _)).st.bel⟩
end Go.Proofs.YtgjhhipkfglpgaaDoor
