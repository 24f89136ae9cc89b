/- What the document fixes of a public key (awake). -/
import Derived.Test.YtmnmjekpndeemaaGreatDoorRl
namespace Go.Proofs.YtmnmjekpndeemaaGreatDoor
open Go.RowKit Go.Maps Go.Shelf

def aS : List UInt8 := [49, 32, 55, 59, 50, 32, 48, 32, 48, 59]
def aN : Nd := ⟨1, 7, 0, 0, 0⟩
def aP : Nd := ⟨2, 0, 1, 0, 0⟩
def aL : List Nd := [zN, aN, aP]

theorem a_split : spl 59 (Lib.trimSuffix aS [59]) = [[49, 32, 55], [50, 32, 48, 32, 48]] := by decide
theorem a_row1 : (pall (spl 32 [49, 32, 55])) = some [1, 7] := by decide
theorem a_row2 : (pall (spl 32 [50, 32, 48, 32, 48])) = some [2, 0, 0] := by decide
theorem a_prow1 : prow [] [1, 7] = some aN := by decide
theorem a_prow2 : prow [1] [2, 0, 0] = some aP := by decide
theorem a_mk1 (lim : Nat) (h : 3 ≤ lim) : mkL lim [zN] aN = [zN, aN] ∧ mkR lim [zN] aN = 1 ∧ mkE lim [zN] aN = 0 := mk_new (by decide) (by decide) (by simp; omega)
theorem a_mk2 (lim : Nat) (h : 3 ≤ lim) : mkL lim [zN, aN] aP = aL ∧ mkR lim [zN, aN] aP = 2 ∧ mkE lim [zN, aN] aP = 0 := mk_new (by decide) (by decide) (by simp; omega)
theorem a_rows : rows aL 2 = [1, 2] := by decide
theorem a_nums : nums aL 2 = [[1, 7], [2, 0, 0]] := by decide
theorem a_txt : txt aL 2 = aS := by
  unfold txt
  rw [a_nums]
  simp [prn, rtx, Lib.decDigits_one, aS]
theorem a_pars : pars aS = some (aL, 2) := by
  unfold pars
  rw [if_neg (by decide), a_split]
  have h1 : stp (some ([zN], [])) [49, 32, 55] = some ([zN, aN], [1]) := by
    simp [stp, a_row1, stn, a_prow1, a_mk1 65536 (by omega)]
  have h2 : stp (some ([zN, aN], [1])) [50, 32, 48, 32, 48] = some (aL, [1, 2]) := by
    simp [stp, a_row2, stn, a_prow2, a_mk2 65536 (by omega)]
  simp only [List.foldl_cons, List.foldl_nil, h1, h2, Option.bind_some]
  rw [if_pos]
  · rfl
  · exact a_txt
theorem a_carry (lim : Nat) (h : 3 ≤ lim) : (carry lim [zN] aL 2).1 = aL ∧ (carry lim [zN] aL 2).2.2 = 0 ∧ ((carry lim [zN] aL 2).2.1 2).getD 0 = 2 := by
  unfold carry
  rw [a_rows]
  have c1 : cnode aL f0 1 = aN := by decide
  have c2 : cnode aL (put1 f0 1 1) 2 = aP := by decide
  have k1 := a_mk1 lim h
  have k2 := a_mk2 lim h
  simp only [car, c1, k1.1, k1.2.1, k1.2.2, if_true, c2, k2.1, k2.2.1, k2.2.2]
  simp [put1]
theorem a_rd (lim : Nat) (h : 3 ≤ lim) : rdL lim [zN] aS = aL ∧ rdR lim [zN] aS = 2 ∧ rdE lim [zN] aS = 0 := by
  obtain ⟨h1, h2, h3⟩ := a_carry lim h
  unfold rdL rdR rdE
  rw [a_pars]
  simp only [h2, if_true, h1, h3]
  simp

set_option maxRecDepth 100000 in
set_option maxHeartbeats 1000000 in
theorem awake_any (w : World) (hE : Env w) : Calls Tryz.prog 4 #[] w fun e w' => e = .returned (.bool true) ∧ Below w.heap.size w w' := by
  have HN := Lib.hid (new_any 9 w)
  obtain ⟨d1, d2, d3⟩ := a_rd 9 (by omega)
  have HD1 := Lib.hid d1
  have HD2 := Lib.hid d2
  have HD3 := Lib.hid d3
  have HE := Lib.hid hE
  have HRD : Hid (∀ w1 b g bm cap, St w w1 b g bm cap 9 [zN] → Calls Tryz.prog 6 #[.pointer (some ⟨b, 0, none⟩), .string ⟨#[49, 32, 55, 59, 50, 32, 48, 32, 48, 59]⟩] w1 fun e w' => ∃ g' cap', e = .returned (.tuple #[.int .i64 2, .int .i64 0]) ∧ St w w' b g' bm cap' 9 aL) := Lib.hid (fun w1 b g bm cap h => by
    refine (read_any ⟨#[49, 32, 55, 59, 50, 32, 48, 32, 48, 59]⟩ (by decide) w1 hE h).mono ?_
    rintro e w' ⟨g', cap', rfl, hA, hg, hk⟩
    refine ⟨g', cap', ?_, ?_⟩
    · show _ = Ending.returned (Value.tuple #[.int .i64 2, .int .i64 0])
      rw [← d2, ← d3]; rfl
    · have h2 := h.step hA hg hk
      rw [show rdL 9 [zN] (⟨#[49, 32, 55, 59, 50, 32, 48, 32, 48, 59]⟩ : ByteArray).data.toList = aL from d1] at h2
      exact h2)
  have HWR : Hid (∀ w1 b g bm cap, St w w1 b g bm cap 9 aL → Calls Tryz.prog 11 #[.pointer (some ⟨b, 0, none⟩), .int .i64 2] w1 fun e w' => e = .returned (.string ⟨#[49, 32, 55, 59, 50, 32, 48, 32, 48, 59]⟩) ∧ Below w1.heap.size w1 w') := Lib.hid (fun w1 b g bm cap h => by
    have := write_any 2 (by unfold i64ok; omega) w1 (hE.below h.bel) h.ar
    rw [a_txt] at this
    exact this)
  have HSZ : Hid (∀ w1 b g bm cap, St w w1 b g bm cap 9 aL → Calls Tryz.prog 12 #[.pointer (some ⟨b, 0, none⟩), .int .i64 2] w1 fun e w' => e = .returned (.int .i64 2) ∧ Below w1.heap.size w1 w') := Lib.hid (fun w1 b g bm cap h => by
    have := sizeF_any 2 (by unfold i64ok; omega) w1 (hE.below h.bel) h.ar
    rw [a_rows] at this
    exact this)
  clear d1 d2 d3 hE
  go_enter Tryz.func4, Tryz.ntmps4
  go_wp2_with (first
    | (go_at_call 10; refine HN.out.mono ?_; rintro e w1 ⟨b, g, bm, rfl, hA1, h1, h2, h3, hb1⟩)
    | (go_at_call 6; refine (HRD.out w1 b g bm 1 ⟨hA1, hb1, h1, h2, h3⟩).mono ?_; rintro e w2 ⟨g2, cap2, rfl, hS2⟩)
    | (go_at_call 11; refine (HWR.out w2 b g2 bm cap2 hS2).mono ?_; rintro e w3 ⟨rfl, hb3⟩)
    | (go_at_call 12; refine (HSZ.out w3 b g2 bm cap2 (hS2.keep hb3)).mono ?_; rintro e w4 ⟨rfl, hb4⟩)
    | (go_at_call 13; refine (len_any b (some ⟨g2, 0, none⟩) 3 cap2 w4 ((hS2.keep hb3).keep hb4).ar.c0).mono ?_; rintro e w5 ⟨rfl, rfl⟩))
  go_ret
  exact ⟨rfl, ((hS2.keep hb3).keep hb4).bel⟩
end Go.Proofs.YtmnmjekpndeemaaGreatDoor
