/- The walk of reading a text (Read). -/
import Derived.Test.YtmnmjekpndeemaaGreatDoorRk
namespace Go.Proofs.YtmnmjekpndeemaaGreatDoor
open Go.RowKit Go.Maps Go.Shelf

def RdPost (b g bm lim : Nat) (L : List Nd) (s : List UInt8) (w : World) (e : Ending) (w' : World) : Prop :=
  ∃ g' cap', e = .returned (.tuple #[.int .i64 (rdR lim L s), .int .i64 (rdE lim L s)]) ∧ Ar w' b g' bm cap' lim (rdL lim L s) ∧ (g' = g ∨ w.heap.size ≤ g') ∧ Kept w w' b g bm

set_option maxRecDepth 100000 in
set_option maxHeartbeats 1000000 in
theorem read_any {w0 : World} {b g bm cap lim : Nat} {L : List Nd} (s : ByteArray) (hs : s.size ≤ maxLen) (w : World) (hE : Env w0) (hS : St w0 w b g bm cap lim L) :
    Calls Tryz.prog 6 #[.pointer (some ⟨b, 0, none⟩), .string s] w (RdPost b g bm lim L s.data.toList w) := by
  have hEw := hE.below hS.bel
  have HPA := Lib.hid (parse_any s w hEw hs)
  cases hp : pars s.data.toList with
  | none =>
    have HP : Hid (∀ w', Below w.heap.size w w' → RdPost b g bm lim L s.data.toList w (.returned (.tuple #[.int .i64 0, .int .i64 2])) w') := Lib.hid (fun w' h => by
      refine ⟨g, cap, ?_, ?_, .inl rfl, Kept.of h⟩
      · unfold rdR rdE; rw [hp]
      · unfold rdL; rw [hp]; exact (hS.keep h).ar)
    unfold PPost at HPA
    rw [hp] at HPA
    clear hE hS hEw hs hp
    go_enter Tryz.func6, Tryz.ntmps6
    go_wp2_with (go_at_call 17; refine HPA.out.mono ?_; rintro e w1 ⟨hb1, ⟨own, ref, b1, g1, bm1, cap1, hn, _⟩ | ⟨_, v, r, rfl⟩⟩; cases hn)
    go_ret2
    exact HP.out _ hb1
  | some st =>
    obtain ⟨own, ref⟩ := st
    unfold PPost at HPA
    rw [hp] at HPA
    obtain ⟨cr, hcr⟩ : ∃ c, c = carry lim L own ref := ⟨_, rfl⟩
    have HRV : Hid (rdR lim L s.data.toList = (if cr.2.2 = 0 then (cr.2.1 ref).getD 0 else 0) ∧ rdE lim L s.data.toList = cr.2.2 ∧ rdL lim L s.data.toList = if cr.2.2 = 0 then cr.1 else L) := Lib.hid (by
      unfold rdR rdE rdL
      rw [hp, hcr]
      exact ⟨rfl, rfl, rfl⟩)
    have HCP : Hid (∀ w1, Below w.heap.size w w1 → Calls Tryz.prog 19 #[.pointer (some ⟨b, 0, none⟩)] w1 (CopyPost lim L w1)) := Lib.hid (fun w1 h => copy_any b g bm cap lim L w1 (hS.keep h).ar)
    have HC1 : Hid (∀ w1 b1 g1 bm1 cap1 w2 b2 g2 bm2 cap2, Below w.heap.size w w1 → Ar w1 b1 g1 bm1 cap1 65536 own → hasB own.length ref = true → Ar w2 b2 g2 bm2 cap2 lim L → w1.heap.size ≤ b2 → w1.heap.size ≤ g2 → w1.heap.size ≤ bm2 → Below w1.heap.size w1 w2 →
        Calls Tryz.prog 18 #[.pointer (some ⟨b1, 0, none⟩), .int .i64 ref, .pointer (some ⟨b2, 0, none⟩)] w2 fun e w3 => e = .returned (.tuple #[.int .i64 (if cr.2.2 = 0 then (cr.2.1 ref).getD 0 else 0), .int .i64 cr.2.2]) ∧ Below w1.heap.size w1 w3) := Lib.hid (fun w1 b1 g1 bm1 cap1 w2 b2 g2 bm2 cap2 hb1 hA1 hrf hA2 h1 h2 h3 hb2 => by
      have hr : i64ok ref := by have := hasB_iff.1 hrf; have := hA1.small; unfold i64ok; omega
      have hS2 : St w w2 b2 g2 bm2 cap2 lim L := ⟨hA2, hb1.trans (hb2.mono hb1.size), by have := hb1.size; omega, by have := hb1.size; omega, by have := hb1.size; omega⟩
      have q1 := hA1.blt
      have q2 := hA1.glt
      have q3 := hA1.mlt
      have q4 := hb2.size
      refine (carry_any ref hr w2 hEw hS2 (hA1.below hb2) ⟨by omega, by omega, by omega, by omega, by omega, by omega, hA2.mlt⟩).mono ?_
      rintro e w3 ⟨g', cap', rfl, hA3, hg3, hk3⟩
      rw [← hcr]
      exact ⟨rfl, hk3.below hb2 hb2.size h1 h2 h3⟩)
    have HC2 : Hid (∀ w1 b1 g1 bm1 cap1 w3, Below w.heap.size w w1 → Ar w1 b1 g1 bm1 cap1 65536 own → w.heap.size ≤ b1 → w.heap.size ≤ g1 → w.heap.size ≤ bm1 → hasB own.length ref = true → Below w1.heap.size w1 w3 →
        Calls Tryz.prog 18 #[.pointer (some ⟨b1, 0, none⟩), .int .i64 ref, .pointer (some ⟨b, 0, none⟩)] w3 fun e w4 => ∃ g' cap', e = .returned (.tuple #[.int .i64 (if cr.2.2 = 0 then (cr.2.1 ref).getD 0 else 0), .int .i64 cr.2.2]) ∧ Ar w4 b g' bm cap' lim cr.1 ∧ (g' = g ∨ w.heap.size ≤ g') ∧ Kept w w4 b g bm) := Lib.hid (fun w1 b1 g1 bm1 cap1 w3 hb1 hA1 h1 h2 h3 hrf hb3 => by
      have hr : i64ok ref := by have := hasB_iff.1 hrf; have := hA1.small; unfold i64ok; omega
      have hb : Below w.heap.size w w3 := hb1.trans (hb3.mono hb1.size)
      have hS3 := hS.keep hb
      have q1 := hS.ar.blt
      have q2 := hS.ar.glt
      have q3 := hS.ar.mlt
      have hA3 := hA1.below hb3
      refine (carry_any ref hr w3 hE hS3 hA3 ⟨by omega, by omega, by omega, hA3.blt, hA3.glt, hA3.mlt, hS3.ar.mlt⟩).mono ?_
      rintro e w4 ⟨g', cap', rfl, hA4, hg4, hk4⟩
      rw [← hcr] at *
      refine ⟨g', cap', rfl, hA4, ?_, Kept.from hb hk4⟩
      rcases hg4 with e | e
      · exact .inl e
      · exact .inr (by have := hb.size; omega))
    have HSK : Hid (∀ w', Below w.heap.size w w' → Ar w' b g bm cap lim L) := Lib.hid (fun w' h => (hS.keep h).ar)
    clear hE hS hEw hs hp hcr
    by_cases he : cr.2.2 = 0
    · obtain ⟨rr, hrr⟩ : ∃ r, r = (cr.2.1 ref).getD 0 := ⟨_, rfl⟩
      obtain ⟨v1, v2, v3⟩ := HRV.out
      rw [if_pos he, ← hrr] at v1
      rw [he] at v2
      rw [if_pos he] at v3
      rw [he, if_pos rfl, ← hrr] at HC1 HC2
      have HV1 := Lib.hid v1
      have HV2 := Lib.hid v2
      have HV3 := Lib.hid v3
      clear v1 v2 v3 he hrr HRV
      go_enter Tryz.func6, Tryz.ntmps6
      go_wp2_with (first
        | (go_at_call 17; refine HPA.out.mono ?_; rintro e w1 ⟨hb1, ⟨own', ref', b1, g1, bm1, cap1, hn, rfl, hA1, h1, h2, h3, hrf⟩ | ⟨hn, _⟩⟩; cases hn; rotate_left; cases hn)
        | (go_at_call 19; refine (HCP.out w1 hb1).mono ?_; rintro e w2 ⟨b2, g2, bm2, cap2, rfl, hA2, i1, i2, i3, hb2⟩)
        | (go_at_call 18; have _hq := hb3; clear _hq; refine (HC2.out w1 b1 g1 bm1 cap1 w3 hb1 hA1 h1 h2 h3 hrf hb3).mono ?_; rintro e w4 ⟨g', cap', rfl, hA4, hg4, hk4⟩)
        | (go_at_call 18; refine (HC1.out w1 b1 g1 bm1 cap1 w2 b2 g2 bm2 cap2 hb1 hA1 hrf hA2 i1 i2 i3 hb2).mono ?_; rintro e w3 ⟨rfl, hb3⟩))
      go_ret2
      exact ⟨g', cap', by rw [HV1.out, HV2.out]; rfl, by rw [HV3.out]; exact hA4, hg4, hk4⟩
    · obtain ⟨v1, v2, v3⟩ := HRV.out
      rw [if_neg he] at v1 v3
      rw [if_neg he] at HC1
      obtain ⟨ee, hee⟩ : ∃ e, e = cr.2.2 := ⟨_, rfl⟩
      rw [← hee] at v2 he HC1
      have he' : (ee != 0) = true := by simpa using he
      have HV1 := Lib.hid v1
      have HV2 := Lib.hid v2
      have HV3 := Lib.hid v3
      clear v1 v2 v3 hee HRV HC2
      go_enter Tryz.func6, Tryz.ntmps6
      go_wp2_with (first
        | (go_at_call 17; refine HPA.out.mono ?_; rintro e w1 ⟨hb1, ⟨own', ref', b1, g1, bm1, cap1, hn, rfl, hA1, h1, h2, h3, hrf⟩ | ⟨hn, _⟩⟩; cases hn; rotate_left; cases hn)
        | (go_at_call 19; refine (HCP.out w1 hb1).mono ?_; rintro e w2 ⟨b2, g2, bm2, cap2, rfl, hA2, i1, i2, i3, hb2⟩)
        | (go_at_call 18; refine (HC1.out w1 b1 g1 bm1 cap1 w2 b2 g2 bm2 cap2 hb1 hA1 hrf hA2 i1 i2 i3 hb2).mono ?_; rintro e w3 ⟨rfl, hb3⟩))
      all_goals
        go_ret2
        have hbw : Below w.heap.size w w3 := hb1.trans (hb3.mono hb1.size)
        exact ⟨g, cap, by rw [HV1.out, HV2.out]; rfl, by rw [HV3.out]; exact HSK.out _ hbw, .inl rfl, Kept.of hbw⟩
end Go.Proofs.YtmnmjekpndeemaaGreatDoor
