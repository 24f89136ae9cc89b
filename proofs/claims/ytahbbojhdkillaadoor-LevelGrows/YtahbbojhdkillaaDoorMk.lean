/- Layer 5: the walk of Parse. -/
import Derived.Test.YtahbbojhdkillaaDoorMj
import Derived.Laws.ResultCell
namespace Go.Proofs.YtahbbojhdkillaaDoor
open Go.RowKit Go.Shelf

def psP (l : List UInt8) : Pt := if isTxt l then guess l else zP
def psE (l : List UInt8) : Int := if isTxt l then 0 else 2
def nilS : Sl := ⟨none, 0, none, 0, none, 0⟩
theorem patA_zero (w : World) : PatA w nilS zP := ⟨IntsV.none, IntsV.none, MsgsV.none, Nat.le_refl _⟩
theorem box4c {w : World} {b : Nat} {v0 v1 v2 v3 : Value} {T : TypeId} (h : w.heap[b]? = some (.cells #[v0, v1, v2, v3] T (0, 0))) :
    w.cell? ⟨b, 0, none⟩ = some v0 ∧ w.cell? ⟨b, 1, none⟩ = some v1 ∧ w.cell? ⟨b, 2, none⟩ = some v2 ∧ w.cell? ⟨b, 3, none⟩ = some v3 ∧
    w.frozen? ⟨b, 0, none⟩ = false ∧ w.frozen? ⟨b, 1, none⟩ = false ∧ w.frozen? ⟨b, 2, none⟩ = false ∧ w.frozen? ⟨b, 3, none⟩ = false :=
  ⟨(cell_of_row w _ 0 _ _ _ h).trans rfl, (cell_of_row w _ 1 _ _ _ h).trans rfl, (cell_of_row w _ 2 _ _ _ h).trans rfl, (cell_of_row w _ 3 _ _ _ h).trans rfl,
    frozen_of_row _ _ _ _ _ h, frozen_of_row _ _ _ _ _ h, frozen_of_row _ _ _ _ _ h, frozen_of_row _ _ _ _ _ h⟩
def NoInt (w : World) (b : Nat) : Prop := ∀ j n, w.cell? ⟨b, j, none⟩ ≠ some (.int .i64 n)
theorem IntsV.other {w w' : World} {b : Nat} {s : Option Addr} {l : List Int} (h : IntsV w s l) (hb : NoInt w b) (hk : ∀ j, j ≠ b → w'.heap[j]? = w.heap[j]?) : IntsV w' s l := fun h0 => by
  obtain ⟨g, o, e, hi⟩ := h h0
  refine ⟨g, o, e, fun i hi' => ?_⟩
  have h1 := hi i hi'
  rw [World.cell?_of_block (hk g (fun e => by subst e; exact hb _ _ h1))]; exact h1
theorem MsgsV.other {w w' : World} {b : Nat} {s : Option Addr} {l : List Ms} (h : MsgsV w s l) (hb : NoInt w b) (hk : ∀ j, j ≠ b → w'.heap[j]? = w.heap[j]?) : MsgsV w' s l := fun h0 => by
  obtain ⟨g, o, e, hi⟩ := h h0
  refine ⟨g, o, e, fun i hi' => ?_⟩
  obtain ⟨h1, sx, cx, h2, h3⟩ := hi i hi'
  have hg : g ≠ b := fun e => by subst e; exact hb _ _ h1
  refine ⟨?_, sx, cx, ?_, h3.other hb hk⟩
  · rw [World.cell?_of_block (hk g hg)]; exact h1
  · rw [World.cell?_of_block (hk g hg)]; exact h2
theorem PatA.other {w w' : World} {b : Nat} {x : Sl} {p : Pt} (h : PatA w x p) (hb : NoInt w b) (hk : ∀ j, j ≠ b → w'.heap[j]? = w.heap[j]?) : PatA w' x p := ⟨h.i0.other hb hk, h.i1.other hb hk, h.im.other hb hk, h.cp⟩
theorem noInt_res {w : World} {b : Nat} {n : ByteArray} {s0 s1 s2 : Option Addr} {n0 n1 n2 c0 c1 c2 : Nat} {T : TypeId} (h : w.heap[b]? = some (.cells #[.string n, .slice s0 n0 c0, .slice s1 n1 c1, .slice s2 n2 c2] T (0, 0))) : NoInt w b := fun j m e => by
  rw [cell_of_row w b j _ _ _ h] at e
  match j, e with
  | 0, e => cases e
  | 1, e => cases e
  | 2, e => cases e
  | 3, e => cases e
  | j + 4, e => simp at e

/-- A pattern whose rows lie elsewhere. -/
theorem set4_below {B b : Nat} {w0 w : World} (h : Below B w0 w) (hb : B ≤ b) (u0 u1 u2 u3 : Value) : Below B w0 ((((w.setCell ⟨b, 0, none⟩ u0).setCell ⟨b, 1, none⟩ u1).setCell ⟨b, 2, none⟩ u2).setCell ⟨b, 3, none⟩ u3) :=
  (((h.setCell hb _).setCell hb _).setCell hb _).setCell hb _

theorem parse_mid {w w1 w2 : World} {x : Sl} {p : Pt} (h1 : Below (w.alloc (.cells #[.string ⟨#[]⟩, .slice none 0 0, .slice none 0 0, .slice none 0 0] 29)).heap.size (w.alloc (.cells #[.string ⟨#[]⟩, .slice none 0 0, .slice none 0 0, .slice none 0 0] 29)) w1) (hx : PatA w1 x p)
    (h2 : Below (w1.alloc (.cells #[.string ⟨p.nm.toArray⟩, .slice x.s0 p.p0.length x.c0, .slice x.s1 p.p1.length x.c1, .slice x.s2 p.ms.length x.c2] 29)).heap.size (w1.alloc (.cells #[.string ⟨p.nm.toArray⟩, .slice x.s0 p.p0.length x.c0, .slice x.s1 p.p1.length x.c1, .slice x.s2 p.ms.length x.c2] 29)) w2) :
    Hid (w2.heap[w.heap.size]? = some (.cells #[.string ⟨#[]⟩, .slice none 0 0, .slice none 0 0, .slice none 0 0] 29 (0, 0))) ∧
    Hid (w2.heap[w1.heap.size]? = some (.cells #[.string ⟨p.nm.toArray⟩, .slice x.s0 p.p0.length x.c0, .slice x.s1 p.p1.length x.c1, .slice x.s2 p.ms.length x.c2] 29 (0, 0))) ∧ Hid (PatA w2 x p) ∧ Hid (Below w.heap.size w w2) := by
  have l1 := h1.size
  rw [World.size_alloc] at l1
  have hb1 : Below w.heap.size w w1 := ((Below.refl _ _).alloc (Nat.le_refl _) _).trans (h1.mono (by simp))
  have hb2 : Below w1.heap.size w1 w2 := ((Below.refl _ _).alloc (Nat.le_refl _) _).trans (h2.mono (by simp))
  refine ⟨Lib.hid ?_, Lib.hid ?_, Lib.hid (hx.keep hb2), Lib.hid (hb1.trans (hb2.mono hb1.size))⟩
  · rw [hb2.block _ (by omega), h1.block _ (by simp)]; exact heap_alloc_new w _
  · rw [h2.block _ (by simp)]; exact heap_alloc_new w1 _

set_option maxRecDepth 100000 in
set_option maxHeartbeats 4000000 in
theorem parse_any (s : ByteArray) (w : World) (hE : En w) :
    Calls Tryd.prog 24 #[.string s] w fun e w' => ∃ x, e = .returned (.tuple #[patV x (psP s.data.toList), .int .i64 (psE s.data.toList)]) ∧ PatA w' x (psP s.data.toList) ∧ Below w.heap.size w w' := by
  have HE := Lib.hid hE; clear hE
  by_cases hs : 16384 < s.size
  · have h2 : (16384 : Int) < s.size := by omega
    have HT : Hid (isTxt s.data.toList = false) := Lib.hid (by rw [Lib.size_eq] at hs; simp [isTxt]; omega)
    clear hs
    go_enter Tryd.func24, Tryd.ntmps24
    go_wp2_with fail
    refine bodyPost_ret (v := .tuple #[.agg #[.string ⟨#[]⟩, .slice none 0 0, .slice none 0 0, .slice none 0 0], .int .i64 2]) (by rw [results_cell_tmp rfl]; go_simp) rfl ?_
    exact ⟨nilS, by unfold psP psE; rw [HT.out]; rfl, by unfold psP; rw [HT.out]; exact patA_zero _, (Below.refl _ _).alloc (Nat.le_refl _) _⟩
  · have h2 : ¬ (16384 : Int) < s.size := by omega
    have HG := Lib.hid (fun w (hw : En w) => guess_any s (by omega) w hw)
    have HT : Hid (isTxt s.data.toList = (right (guess s.data.toList) && decide (prn (guess s.data.toList) = s.data.toList))) := Lib.hid (by
      have : decide (s.data.toList.length ≤ 16384) = true := by rw [← Lib.size_eq]; simpa using hs
      unfold isTxt; rw [this]; rfl)
    clear hs
    obtain ⟨p, hp⟩ : ∃ p, p = guess s.data.toList := ⟨_, rfl⟩
    rw [← hp] at HG HT
    have HPP := Lib.hid hp; clear hp
    cases hr : right p with
    | false =>
      have HV : Hid (prnR p = [] ∧ prnE p = 1) := Lib.hid (by simp [prnR, prnE, hr])
      have HF : Hid (isTxt s.data.toList = false) := Lib.hid (by rw [HT.out, hr]; rfl)
      clear hr
      go_enter Tryd.func24, Tryd.ntmps24
      go_wp2_with (first
        | (go_at_call 37; refine (HG.out _ (HE.out.keep ((Below.refl _ _).alloc (Nat.le_refl _) _))).mono ?_; rintro e w1 ⟨x, rfl, hx1, hb1⟩; have HX1 := Lib.hid hx1; have HB1 := Lib.hid hb1; clear hx1 hb1; unfold patV)
        | (go_at_call 38; refine (print_any x p _ (HX1.out.keep ((Below.refl _ _).alloc (Nat.le_refl _) _)) (HE.out.keep ((((Below.refl _ _).alloc (Nat.le_refl _) _).trans (HB1.out.mono (by simp))).alloc (by have := HB1.out.size; simp at this; omega) _))).mono ?_; rintro e w2 ⟨rfl, hb2⟩; rw [HV.out.1, HV.out.2]; obtain ⟨HRS, HBX, HXX, HBW⟩ := parse_mid HB1.out HX1.out hb2; clear hb2; obtain ⟨r0, r1, r2, r3, y0, y1, y2, y3⟩ := box4c HRS.out; obtain ⟨k0, k1, k2, k3, -, -, -, -⟩ := box4c HBX.out; obtain ⟨T, hT⟩ : ∃ T : ByteArray, T = ⟨([]).toArray⟩ := ⟨_, rfl⟩; rw [← hT]; clear hT))
      go_wp2_with fail
      refine bodyPost_ret (v := .tuple #[.agg #[.string ⟨#[]⟩, .slice none 0 0, .slice none 0 0, .slice none 0 0], .int .i64 2]) (by rw [results_cell_tmp rfl]; go_simp) rfl ?_
      exact ⟨nilS, by unfold psP psE; rw [HF.out]; rfl, by unfold psP; rw [HF.out]; exact patA_zero _, set4_below HBW.out (Nat.le_refl _) _ _ _ _⟩
    | true =>
      have HV : Hid (prnR p = prn p ∧ prnE p = 0) := Lib.hid (by simp [prnR, prnE, hr])
      by_cases hq : prn p = s.data.toList
      · have HF : Hid (isTxt s.data.toList = true) := Lib.hid (by rw [HT.out, hr, hq]; simp)
        have HQ := Lib.hid hq
        clear hr hq
        go_enter Tryd.func24, Tryd.ntmps24
        go_wp2_with (first
        | (go_at_call 37; refine (HG.out _ (HE.out.keep ((Below.refl _ _).alloc (Nat.le_refl _) _))).mono ?_; rintro e w1 ⟨x, rfl, hx1, hb1⟩; have HX1 := Lib.hid hx1; have HB1 := Lib.hid hb1; clear hx1 hb1; unfold patV)
        | (go_at_call 38; refine (print_any x p _ (HX1.out.keep ((Below.refl _ _).alloc (Nat.le_refl _) _)) (HE.out.keep ((((Below.refl _ _).alloc (Nat.le_refl _) _).trans (HB1.out.mono (by simp))).alloc (by have := HB1.out.size; simp at this; omega) _))).mono ?_; rintro e w2 ⟨rfl, hb2⟩; rw [HV.out.1, HV.out.2]; obtain ⟨HRS, HBX, HXX, HBW⟩ := parse_mid HB1.out HX1.out hb2; clear hb2; obtain ⟨r0, r1, r2, r3, y0, y1, y2, y3⟩ := box4c HRS.out; obtain ⟨k0, k1, k2, k3, -, -, -, -⟩ := box4c HBX.out; obtain ⟨T, hT⟩ : ∃ T : ByteArray, T = ⟨(prn p).toArray⟩ := ⟨_, rfl⟩; rw [← hT]; have hTs : T = s := (by rw [hT, HQ.out]); subst hTs; clear hT))
        go_wp2_with fail
        refine bodyPost_ret (v := .tuple #[.agg #[.string ⟨p.nm.toArray⟩, .slice x.s0 p.p0.length x.c0, .slice x.s1 p.p1.length x.c1, .slice x.s2 p.ms.length x.c2], .int .i64 0]) (by rw [results_cell_tmp rfl]; go_simp) rfl ?_
        exact ⟨x, by unfold psP psE; rw [HF.out, ← HPP.out]; rfl, by unfold psP; rw [HF.out, if_pos rfl, ← HPP.out]; exact HXX.out.other (noInt_res HRS.out) (set4_only w2 _ _ _ _ _), set4_below HBW.out (Nat.le_refl _) _ _ _ _⟩
      · have HF : Hid (isTxt s.data.toList = false) := Lib.hid (by rw [HT.out]; simp [hq])
        have HQ := Lib.hid hq
        clear hr hq
        go_enter Tryd.func24, Tryd.ntmps24
        go_wp2_with (first
        | (go_at_call 37; refine (HG.out _ (HE.out.keep ((Below.refl _ _).alloc (Nat.le_refl _) _))).mono ?_; rintro e w1 ⟨x, rfl, hx1, hb1⟩; have HX1 := Lib.hid hx1; have HB1 := Lib.hid hb1; clear hx1 hb1; unfold patV)
        | (go_at_call 38; refine (print_any x p _ (HX1.out.keep ((Below.refl _ _).alloc (Nat.le_refl _) _)) (HE.out.keep ((((Below.refl _ _).alloc (Nat.le_refl _) _).trans (HB1.out.mono (by simp))).alloc (by have := HB1.out.size; simp at this; omega) _))).mono ?_; rintro e w2 ⟨rfl, hb2⟩; rw [HV.out.1, HV.out.2]; obtain ⟨HRS, HBX, HXX, HBW⟩ := parse_mid HB1.out HX1.out hb2; clear hb2; obtain ⟨r0, r1, r2, r3, y0, y1, y2, y3⟩ := box4c HRS.out; obtain ⟨k0, k1, k2, k3, -, -, -, -⟩ := box4c HBX.out; obtain ⟨T, hT⟩ : ∃ T : ByteArray, T = ⟨(prn p).toArray⟩ := ⟨_, rfl⟩; rw [← hT]; have hTs : (T.toList == s.toList) = false := (by rw [hT, ByteArray.toList_eq, ByteArray.toList_eq]; simpa using HQ.out); clear hT))
        go_wp2_with fail
        refine bodyPost_ret (v := .tuple #[.agg #[.string ⟨#[]⟩, .slice none 0 0, .slice none 0 0, .slice none 0 0], .int .i64 2]) (by rw [results_cell_tmp rfl]; go_simp) rfl ?_
        exact ⟨nilS, by unfold psP psE; rw [HF.out]; rfl, by unfold psP; rw [HF.out]; exact patA_zero _, set4_below HBW.out (Nat.le_refl _) _ _ _ _⟩
end Go.Proofs.YtahbbojhdkillaaDoor
