/- The walk of CodeTwice: what was read is read again as the same ref, and makes nothing new. -/
import Derived.Test.YtcgdkiahcnhoeaaDoorSc
namespace Go.Proofs.YtcgdkiahcnhoeaaDoor
open Go.RowKit Go.Maps Go.Shelf

set_option maxRecDepth 100000 in
set_option maxHeartbeats 1000000 in
theorem twice_any (s : ByteArray) (hs : s.size ≤ maxLen) (w : World) (hE : Env w) :
    Calls Tryd.prog 7 #[.string s] w fun e w' => e = .returned (.bool true) ∧ Below w.heap.size w w' := by
  have HN := Lib.hid (new_any 1000 w)
  have HE := Lib.hid hE
  have HAW : Hid (∀ w1, Below w.heap.size w w1 → Calls Tryd.prog 9 #[] w1 fun e w' => e = .returned (.bool true) ∧ Below w1.heap.size w1 w') := Lib.hid (fun w1 h => awake_any w1 (hE.below h))
  have hs' := hs
  unfold maxLen at hs'
  by_cases hl : 600 < s.size
  · have hl' : (600 : Int) < (s.size : Int) := by omega
    clear hE hs
    go_enter Tryd.func7, Tryd.ntmps7
    go_wp2_with (first
      | (go_at_call 21; refine HN.out.mono ?_; rintro e w1 ⟨b, g, bm, rfl, hA1, h1, h2, h3, hb1⟩)
      | (go_at_call 9; refine (HAW.out w1 hb1).mono ?_; rintro e w2 ⟨rfl, hb2⟩))
    go_ret
    exact ⟨rfl, hb1.trans (hb2.mono hb1.size)⟩
  · have hl' : ¬ (600 : Int) < (s.size : Int) := by omega
    have hl2 : decide ((600 : Int) < (s.size : Int)) = false := by simpa using hl'
    obtain ⟨t1, t2, t3, t4⟩ := rd_twice (lim := 1000) WF.one (by simp) (by omega) s.data.toList
    obtain ⟨M, hMe⟩ : ∃ M, M = rdL 1000 [zN] s.data.toList := ⟨_, rfl⟩
    obtain ⟨x, hxe⟩ : ∃ x, x = rdR 1000 [zN] s.data.toList := ⟨_, rfl⟩
    obtain ⟨ee, hee⟩ : ∃ x, x = rdE 1000 [zN] s.data.toList := ⟨_, rfl⟩
    rw [← hMe] at t1 t2 t3 t4
    rw [← hxe] at t1 t4
    rw [← hee] at t2 t4
    have HR1 : Hid (∀ w1 b g bm, St w w1 b g bm 1 1000 [zN] → Calls Tryd.prog 17 #[.pointer (some ⟨b, 0, none⟩), .string s] w1 fun e w' => ∃ g' cap', e = .returned (.tuple #[.int .i64 x, .int .i64 ee]) ∧ St w w' b g' bm cap' 1000 M) := Lib.hid (fun w1 b g bm h => by
      refine (read_any s hs w1 hE h).mono ?_
      rintro e w' ⟨g', cap', rfl, hA, hg, hk⟩
      rw [← hMe] at hA
      rw [← hxe, ← hee]
      exact ⟨g', cap', rfl, h.step hA hg hk⟩)
    have HR2 : Hid (∀ w1 b g bm cap, St w w1 b g bm cap 1000 M → Calls Tryd.prog 17 #[.pointer (some ⟨b, 0, none⟩), .string s] w1 fun e w' => ∃ g' cap', e = .returned (.tuple #[.int .i64 x, .int .i64 ee]) ∧ St w w' b g' bm cap' 1000 M) := Lib.hid (fun w1 b g bm cap h => by
      refine (read_any s hs w1 hE h).mono ?_
      rintro e w' ⟨g', cap', rfl, hA, hg, hk⟩
      rw [t3] at hA
      rw [t1, t2]
      exact ⟨g', cap', rfl, h.step hA hg hk⟩)
    have HLN : Hid (∀ w1 b g bm cap, St w w1 b g bm cap 1000 M → Calls Tryd.prog 22 #[.pointer (some ⟨b, 0, none⟩)] w1 fun e w' => e = .returned (.int .i64 M.length) ∧ w1 = w') := Lib.hid (fun w1 b g bm cap h => len_any b (some ⟨g, 0, none⟩) M.length cap w1 h.ar.c0)
    have HT4 := Lib.hid t4
    clear hMe hxe hee t1 t2 t3 t4
    by_cases he : ee = 0
    · subst he
      obtain ⟨ht, hh⟩ := HT4.out rfl
      have HWR : Hid (∀ w1 b g bm cap, St w w1 b g bm cap 1000 M → Calls Tryd.prog 14 #[.pointer (some ⟨b, 0, none⟩), .int .i64 x] w1 fun e w' => e = .returned (.string s) ∧ Below w1.heap.size w1 w') := Lib.hid (fun w1 b g bm cap h => by
        have h0 := hasB_iff.1 hh
        have h1 := h.ar.small
        have := write_any x (by unfold i64ok; omega) w1 (HE.out.below h.bel) h.ar
        rw [ht] at this
        exact this)
      clear ht hh hE hs
      go_enter Tryd.func7, Tryd.ntmps7
      go_wp2_with (first
        | (go_at_call 21; refine HN.out.mono ?_; rintro e w1 ⟨b, g, bm, rfl, hA1, h1, h2, h3, hb1⟩)
        | (go_at_call 17; have _hq := hS2; clear _hq; refine (HR2.out w2 b g2 bm cap2 hS2).mono ?_; rintro e w4 ⟨g4, cap4, rfl, hS4⟩)
        | (go_at_call 17; refine (HR1.out w1 b g bm ⟨hA1, hb1, h1, h2, h3⟩).mono ?_; rintro e w2 ⟨g2, cap2, rfl, hS2⟩)
        | (go_at_call 22; have _hq := hS4; clear _hq; refine (HLN.out w4 b g4 bm cap4 hS4).mono ?_; rintro e w5 ⟨rfl, hw5⟩; rw [← hw5]; clear hw5)
        | (go_at_call 22; refine (HLN.out w2 b g2 bm cap2 hS2).mono ?_; rintro e w3 ⟨rfl, hw3⟩; rw [← hw3]; clear hw3)
        | (go_at_call 14; refine (HWR.out w4 b g4 bm cap4 hS4).mono ?_; rintro e w6 ⟨rfl, hb6⟩)
        | (go_at_call 9; refine (HAW.out w6 (hS4.keep hb6).bel).mono ?_; rintro e w7 ⟨rfl, hb7⟩))
      go_ret
      exact ⟨rfl, ((hS4.keep hb6).keep hb7).bel⟩
    · have he' : (ee != 0) = true := by simpa using he
      clear hE hs
      go_enter Tryd.func7, Tryd.ntmps7
      go_wp2_with (first
        | (go_at_call 21; refine HN.out.mono ?_; rintro e w1 ⟨b, g, bm, rfl, hA1, h1, h2, h3, hb1⟩)
        | (go_at_call 17; have _hq := hS2; clear _hq; refine (HR2.out w2 b g2 bm cap2 hS2).mono ?_; rintro e w4 ⟨g4, cap4, rfl, hS4⟩)
        | (go_at_call 17; refine (HR1.out w1 b g bm ⟨hA1, hb1, h1, h2, h3⟩).mono ?_; rintro e w2 ⟨g2, cap2, rfl, hS2⟩)
        | (go_at_call 22; have _hq := hS4; clear _hq; refine (HLN.out w4 b g4 bm cap4 hS4).mono ?_; rintro e w5 ⟨rfl, hw5⟩; rw [← hw5]; clear hw5)
        | (go_at_call 22; refine (HLN.out w2 b g2 bm cap2 hS2).mono ?_; rintro e w3 ⟨rfl, hw3⟩; rw [← hw3]; clear hw3)
        | (go_at_call 9; refine (HAW.out w4 hS4.bel).mono ?_; rintro e w7 ⟨rfl, hb7⟩))
      all_goals
        go_ret
        exact ⟨rfl, (hS4.keep hb7).bel⟩
end Go.Proofs.YtcgdkiahcnhoeaaDoor
