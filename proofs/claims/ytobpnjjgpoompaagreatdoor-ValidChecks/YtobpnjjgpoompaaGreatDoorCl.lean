/- Layer 7: laws with patterns in boxes; what the document fixes of a key that was not told (the law's awake). -/
import Derived.Test.YtobpnjjgpoompaaGreatDoorCk
import Derived.Test.YtobpnjjgpoompaaGreatDoorBr
import Derived.Test.YtobpnjjgpoompaaGreatDoorNf
namespace Go.Proofs.YtobpnjjgpoompaaGreatDoor
open Go.RowKit Go.Shelf

/-- A pattern in a law's box. -/
structure Bx (w : World) (b : Nat) (x : Sl) (p : Pt) (wr : World) : Prop where
  bx : wr.heap[b]? = some (.cells #[.string ⟨p.nm.toArray⟩, .slice x.s0 p.p0.length x.c0, .slice x.s1 p.p1.length x.c1, .slice x.s2 p.ms.length x.c2] 26 (0, 0))
  bel : Below w.heap.size w wr
theorem Bx.keep {w : World} {b : Nat} {x : Sl} {p : Pt} {wr wx : World} (h : Bx w b x p wr) (hb : Below wr.heap.size wr wx) : Bx w b x p wx := ⟨(hb.block _ (lt_of_heap h.bx)).trans h.bx, h.bel.trans (hb.mono h.bel.size)⟩
theorem Bx.cells {w : World} {b : Nat} {x : Sl} {p : Pt} {wr : World} (h : Bx w b x p wr) : wr.cell? ⟨b, 0, none⟩ = some (.string ⟨p.nm.toArray⟩) ∧ wr.cell? ⟨b, 1, none⟩ = some (.slice x.s0 p.p0.length x.c0) ∧ wr.cell? ⟨b, 2, none⟩ = some (.slice x.s1 p.p1.length x.c1) ∧ wr.cell? ⟨b, 3, none⟩ = some (.slice x.s2 p.ms.length x.c2) := by
  obtain ⟨h0, h1, h2, h3, -⟩ := box4c h.bx
  exact ⟨h0, h1, h2, h3⟩
theorem bx_new (w : World) (x : Sl) (p : Pt) : Bx w w.heap.size x p (w.alloc (.cells #[.string ⟨p.nm.toArray⟩, .slice x.s0 p.p0.length x.c0, .slice x.s1 p.p1.length x.c1, .slice x.s2 p.ms.length x.c2] 26)) := ⟨heap_alloc_new w _, (Below.refl _ _).alloc (Nat.le_refl _) _⟩
theorem bx_more {w wr : World} (hb : Below w.heap.size w wr) (x : Sl) (p : Pt) : Bx w wr.heap.size x p (wr.alloc (.cells #[.string ⟨p.nm.toArray⟩, .slice x.s0 p.p0.length x.c0, .slice x.s1 p.p1.length x.c1, .slice x.s2 p.ms.length x.c2] 26)) := ⟨heap_alloc_new wr _, hb.alloc hb.size _⟩
theorem few_short {p : Pt} (h : fewB p = true) : shortP p := by
  simp only [fewB, Bool.and_eq_true, decide_eq_true_eq] at h
  refine ⟨by omega, by omega, by omega, fun i hi => ?_⟩
  have := List.all_eq_true.1 h.1.1.1.1 _ (List.getElem_mem hi)
  rw [List.getD_eq_getElem?_getD, List.getElem?_eq_getElem hi]
  simp only [shT, decide_eq_true_eq] at this
  simp only [Option.getD_some]; omega
theorem right_short {p : Pt} (h : right p = true) : shortP p := by
  simp only [right, Bool.and_eq_true, decide_eq_true_eq] at h
  have d := preOk_len h.1.1.2
  have e := preOk_len h.1.2
  refine ⟨by omega, by omega, by omega, fun i hi => ?_⟩
  have := List.all_eq_true.1 h.2 _ (List.getElem_mem hi)
  rw [List.getD_eq_getElem?_getD, List.getElem?_eq_getElem hi]
  simp only [msOk, Bool.and_eq_true, decide_eq_true_eq] at this
  simp only [Option.getD_some]; omega
theorem zero_short : shortP zP := ⟨by simp [zP], by simp [zP], by simp [zP], fun i hi => by simp [zP] at hi⟩
theorem wrap_small {x : Int} (h0 : 0 ≤ x) (h1 : x < 1000) : IntKind.i64.wrap x = x := by
  have h : x % (2 ^ IntKind.i64.bits : Int) = x := Int.emod_eq_of_lt h0 (Int.lt_of_lt_of_le h1 (by decide))
  unfold IntKind.wrap
  simp only [h]
  rw [if_neg]
  have : (2 ^ (IntKind.i64.bits - 1) : Int) > 1000 := by decide
  simp only [Bool.and_eq_true, decide_eq_true_eq]
  omega

/-- What is read of package variables. -/
structure Ev (w : World) : Prop where
  eb : Eb w
  ky : Ky w
theorem Ev.keep {w w' : World} (h : Ev w) (hb : Below w.heap.size w w') : Ev w' := ⟨h.eb.keep hb, h.ky.keep hb⟩
def awN : List UInt8 := [65, 58, 10, 45, 62, 32, 101, 10, 60, 45, 32, 101, 44, 32, 101, 115, 10]
def awB : ByteArray := ⟨awN.toArray⟩
def awP : Pt := ⟨[65], [], [], [⟨0, [1]⟩, ⟨1, [1, 4]⟩]⟩
theorem aw_right : right awP = true := by decide
theorem aw_prn : prn awP = awB.data.toList := by decide
theorem aw_ps : psP awB.data.toList = awP ∧ psE awB.data.toList = 0 := by
  have h := isTxt_prn aw_right
  have g := guess_prn aw_right
  rw [aw_prn] at h g
  unfold psP psE
  rw [h, g]; exact ⟨rfl, rfl⟩
theorem aw_ck : ckR awP = 3 ∧ ckI awP = 1 ∧ ckE awP = 13 ∧ rkey awP (flat (awP.ms.take 1)) = false := by decide
def ikN : List UInt8 := [73, 75, 112, 115, 107, 50]
def ikP : Pt := ⟨ikN, [], [2], [⟨0, [1, 4, 2, 6]⟩, ⟨1, [1, 3, 5, 7]⟩]⟩
theorem ik_nm : nmE ikN = 0 ∧ nmP ikN = ikP := by decide
theorem ik_right : right ikP = true := by decide
theorem ik_ck : ckR ikP = 0 ∧ ckI ikP = 0 ∧ ckE ikP = 0 ∧ rkey ikP (flat (ikP.ms.take 1)) = true := by decide
theorem natOne : ((1 : Nat) : Int) = 1 := rfl
theorem natZero : ((0 : Nat) : Int) = 0 := rfl
set_option maxRecDepth 100000 in
set_option maxHeartbeats 2000000 in
theorem awake_any (w : World) (hE : Ev w) : Calls Tryz.prog 10 #[] w fun e w' => e = .returned (.bool true) ∧ Below w.heap.size w w' := by
  have HP := Lib.hid (parse_any awB w hE.eb.en)
  rw [aw_ps.1, aw_ps.2] at HP
  have HN := Lib.hid (fun wx (hb : Below w.heap.size w wx) => named_any ⟨ikN.toArray⟩ wx (hE.eb.keep hb))
  rw [show (⟨ikN.toArray⟩ : ByteArray).data.toList = ikN from rfl, ik_nm.1, ik_nm.2] at HN
  have HC1 := Lib.hid (fun x wx (hb : Below w.heap.size w wx) (h : PatA wx x awP) => check_any x awP wx h (hE.ky.keep hb))
  have HC2 := Lib.hid (fun x wx (hb : Below w.heap.size w wx) (h : PatA wx x ikP) => check_any x ikP wx h (hE.ky.keep hb))
  rw [aw_ck.1, aw_ck.2.1, aw_ck.2.2.1] at HC1
  rw [ik_ck.1, ik_ck.2.1, ik_ck.2.2.1] at HC2
  have HK1 := Lib.hid (fun x wx (hb : Below w.heap.size w wx) (h : PatA wx x awP) => keyed7_any x awP 0 (by decide) aw_right wx h (hE.ky.keep hb))
  have HK2 := Lib.hid (fun x wx (hb : Below w.heap.size w wx) (h : PatA wx x ikP) => keyed7_any x ikP 0 (by decide) ik_right wx h (hE.ky.keep hb))
  rw [show (0 : Nat) + 1 = 1 from rfl, aw_ck.2.2.2] at HK1
  rw [show (0 : Nat) + 1 = 1 from rfl, ik_ck.2.2.2] at HK2
  rw [natOne] at HC1
  rw [natZero] at HC2 HK1 HK2
  clear hE
  unfold awB awN at HP
  unfold ikN at HN
  simp only [patV, awP, ikP, ikN, List.length_cons, List.length_nil, Nat.zero_add, Nat.reduceAdd] at HP HN HC1 HC2 HK1 HK2
  go_enter Tryz.func10, Tryz.ntmps10
  go_wp2_with (go_at_call 21; refine HP.out.mono ?_; rintro e w1 ⟨x, rfl, hx1, hb1⟩; have HX1 := Lib.hid (hx1.keep ((Below.refl _ _).alloc (Nat.le_refl _) (.cells #[.string ⟨#[65]⟩, .slice x.s0 0 x.c0, .slice x.s1 0 x.c1, .slice x.s2 2 x.c2] 26))); have HB1 := Lib.hid (hb1.alloc hb1.size (.cells #[.string ⟨#[65]⟩, .slice x.s0 0 x.c0, .slice x.s1 0 x.c1, .slice x.s2 2 x.c2] 26)); have HP1 := Lib.hid (heap_alloc_new w1 (.cells #[.string ⟨#[65]⟩, .slice x.s0 0 x.c0, .slice x.s1 0 x.c1, .slice x.s2 2 x.c2] 26)); clear hx1 hb1)
  go_wp2_with (go_at_call 11; refine (HC1.out _ _ HB1.out HX1.out).mono ?_; rintro e w2 ⟨rfl, hb2⟩; have HB2 := Lib.hid (HB1.out.trans (hb2.mono HB1.out.size)); have HX2 := Lib.hid (HX1.out.keep hb2); have HP2 := Lib.hid ((hb2.block _ (lt_of_heap HP1.out)).trans HP1.out); clear hb2)
  go_wp2_with (go_at_call 22; refine (HN.out _ HB2.out).mono ?_; rintro e w3 ⟨y, rfl, hy3, hb3⟩; have hba := hb3.alloc hb3.size (.cells #[.string ⟨#[73, 75, 112, 115, 107, 50]⟩, .slice y.s0 0 y.c0, .slice y.s1 1 y.c1, .slice y.s2 2 y.c2] 26); have HB3 := Lib.hid (HB2.out.trans (hba.mono HB2.out.size)); have HX3 := Lib.hid (HX2.out.keep hba); have HY3 := Lib.hid (hy3.keep ((Below.refl _ _).alloc (Nat.le_refl _) (.cells #[.string ⟨#[73, 75, 112, 115, 107, 50]⟩, .slice y.s0 0 y.c0, .slice y.s1 1 y.c1, .slice y.s2 2 y.c2] 26))); have HP3 := Lib.hid ((hba.block _ (lt_of_heap HP2.out)).trans HP2.out); have HQ3 := Lib.hid (heap_alloc_new w3 (.cells #[.string ⟨#[73, 75, 112, 115, 107, 50]⟩, .slice y.s0 0 y.c0, .slice y.s1 1 y.c1, .slice y.s2 2 y.c2] 26)); clear hb3 hy3 hba)
  go_wp2_with (go_at_call 11; refine (HC2.out _ _ HB3.out HY3.out).mono ?_; rintro e w4 ⟨rfl, hb4⟩; have HB4 := Lib.hid (HB3.out.trans (hb4.mono HB3.out.size)); have HX4 := Lib.hid (HX3.out.keep hb4); have HY4 := Lib.hid (HY3.out.keep hb4); have HP4 := Lib.hid ((hb4.block _ (lt_of_heap HP3.out)).trans HP3.out); have HQ4 := Lib.hid ((hb4.block _ (lt_of_heap HQ3.out)).trans HQ3.out); clear hb4; obtain ⟨b0, b1, b2, b3, -⟩ := box4c HQ4.out)
  go_at_call 19
  refine (HK2.out _ _ HB4.out HY4.out).mono ?_
  rintro e w5 ⟨rfl, hb5⟩
  have HB5 := Lib.hid (HB4.out.trans (hb5.mono HB4.out.size))
  have HX5 := Lib.hid (HX4.out.keep hb5)
  clear b0 b1 b2 b3
  obtain ⟨b0, b1, b2, b3, -⟩ := box4c ((hb5.block _ (lt_of_heap HP4.out)).trans HP4.out)
  clear hb5
  go_wp2_with fail
  go_at_call 19
  refine (HK1.out _ _ HB5.out HX5.out).mono ?_
  rintro e w6 ⟨rfl, hb6⟩
  have HB6 := Lib.hid (HB5.out.trans (hb6.mono HB5.out.size))
  clear hb6
  go_wp2_with fail
  go_ret
  exact ⟨rfl, HB6.out⟩
end Go.Proofs.YtobpnjjgpoompaaGreatDoor
