/- Layer 4: the walk of execute. -/
import Derived.Test.YtlckajnbmkkpeaaDoorEf
import Derived.StillTailTactics
namespace Go.Proofs.YtlckajnbmkkpeaaDoor
open Go.RowKit Go.Maps

/-- A recipe that is being run, in memory. -/
structure Rb (w : World) (rb b : Nat) (sh : Option Addr) (ch : Nat) (sy : Option Addr) (cy : Nat) (H Y : List Int) : Prop where
  c0 : w.cell? ⟨rb, 0, none⟩ = some (.pointer (some ⟨b, 0, none⟩))
  c1 : w.cell? ⟨rb, 1, none⟩ = some (.slice sh H.length ch)
  c2 : w.cell? ⟨rb, 2, none⟩ = some (.slice sy Y.length cy)
  ih : IntsV w sh H
  iy : IntsV w sy Y
theorem Rb.below {w w' : World} {rb b : Nat} {sh : Option Addr} {ch : Nat} {sy : Option Addr} {cy : Nat} {H Y : List Int} (h : Rb w rb b sh ch sy cy H Y) (hb : Below w.heap.size w w') : Rb w' rb b sh ch sy cy H Y :=
  ⟨(hb.cell (p := ⟨rb, 0, none⟩) (World.block_lt_of_cell? _ _ h.c0)).trans h.c0, (hb.cell (p := ⟨rb, 1, none⟩) (World.block_lt_of_cell? _ _ h.c1)).trans h.c1, (hb.cell (p := ⟨rb, 2, none⟩) (World.block_lt_of_cell? _ _ h.c2)).trans h.c2, h.ih.keep hb, h.iy.keep hb⟩
def ExPost (b g bm lim : Nat) (v : Yd) (w : World) (e : Ending) (w' : World) : Prop :=
  ∃ g' cap', e = .returned (.tuple #[.int .i64 v.r, .int .i64 v.e]) ∧ Ar w' b g' bm cap' lim v.L ∧ (g' = g ∨ w.heap.size ≤ g') ∧ Kept w w' b g bm
theorem ex_same {b g bm cap lim : Nat} {L : List Nd} {v : Yd} {r er : Int} {w w' : World} (hv : v = ⟨L, r, er⟩) (hA : Ar w b g bm cap lim L) (hb : Below w.heap.size w w') : ExPost b g bm lim v w (.returned (.tuple #[.int .i64 r, .int .i64 er])) w' := by
  rw [hv]; exact ⟨g, cap, rfl, hA.below hb, .inl rfl, Kept.of hb⟩
theorem ex_mk {b g bm lim : Nat} {L : List Nd} {v : Yd} {d : Nd} {w w3 w' : World} {e : Ending} (hv : v = mkY lim L d) (hb : Below w.heap.size w w3) (h : MkPost b g bm lim L d w3 e w') : ∃ r er, e = .returned (.tuple #[.int .i64 r, .int .i64 er]) ∧ ExPost b g bm lim v w e w' := by
  obtain ⟨g', cap', rfl, hA, hg, hk⟩ := h
  refine ⟨_, _, rfl, g', cap', by rw [hv]; rfl, by rw [hv]; exact hA, ?_, Kept.from hb hk⟩
  rcases hg with h | h
  · exact .inl h
  · exact .inr (Nat.le_trans hb.size h)
theorem ex_sh {b g bm lim : Nat} {L : List Nd} {v : Yd} {x y : Int} {w w3 w' : World} {e : Ending} (hv : v = shY lim L x y) (hb : Below w.heap.size w w3) (h : ShPost b g bm lim L x y w3 e w') : ∃ r er, e = .returned (.tuple #[.int .i64 r, .int .i64 er]) ∧ ExPost b g bm lim v w e w' := by
  obtain ⟨g', cap', rfl, hA, hg, hk⟩ := h
  refine ⟨_, _, rfl, g', cap', by rw [hv]; rfl, by rw [hv]; exact hA, ?_, Kept.from hb hk⟩
  rcases hg with h | h
  · exact .inl h
  · exact .inr (Nat.le_trans hb.size h)
theorem used_no {s : Sp} (w : World) (hS : Rsh w) (hu : usedB s = false) : Calls Tryd.prog 63 #[aggS s] w fun e w' => e = .returned (.tuple #[.slice none 0 0, .bool false]) ∧ Below w.heap.size w w' :=
  (used_any s w hS).mono fun e w' ⟨h, hb⟩ => by
    rcases h with ⟨_, he⟩ | ⟨h1, _⟩
    · exact ⟨he, hb⟩
    · rw [hu] at h1; cases h1
theorem used_yes {s : Sp} (w : World) (hS : Rsh w) (hu : usedB s = true) : Calls Tryd.prog 63 #[aggS s] w fun e w' => ∃ sl c, e = .returned (.tuple #[.slice sl (idx s).length c, .bool true]) ∧ IntsV w' sl (idx s) ∧ Below w.heap.size w w' :=
  (used_any s w hS).mono fun e w' ⟨h, hb⟩ => by
    rcases h with ⟨h1, _⟩ | ⟨_, sl, c, he, hi⟩
    · rw [hu] at h1; cases h1
    · exact ⟨sl, c, he, hi, hb⟩
theorem box5 {w w1 : World} {v0 v1 v2 v3 v4 : Value} {T : TypeId} (hb : Below (w.alloc (.cells #[v0, v1, v2, v3, v4] T)).heap.size (w.alloc (.cells #[v0, v1, v2, v3, v4] T)) w1) :
    (w1.cell? ⟨w.heap.size, 0, none⟩ = some v0 ∧ w1.cell? ⟨w.heap.size, 1, none⟩ = some v1 ∧ w1.cell? ⟨w.heap.size, 2, none⟩ = some v2 ∧ w1.cell? ⟨w.heap.size, 3, none⟩ = some v3 ∧ w1.cell? ⟨w.heap.size, 4, none⟩ = some v4) ∧ Below w.heap.size w w1 := by
  have h : ∀ j, w1.cell? ⟨w.heap.size, j, none⟩ = (w.alloc (.cells #[v0, v1, v2, v3, v4] T)).cell? ⟨w.heap.size, j, none⟩ := fun j => hb.cell (p := ⟨w.heap.size, j, none⟩) (by simp)
  refine ⟨⟨?_, ?_, ?_, ?_, ?_⟩, ((Below.refl _ _).alloc (Nat.le_refl _) _).trans (hb.mono (by simp))⟩
  all_goals (rw [h]; go_simp)
theorem idx_len (s : Sp) : (idx s).length ≤ 3 := by unfold idx; rw [List.length_take]; simp; omega

set_option maxRecDepth 100000 in
set_option maxHeartbeats 8000000 in
/-- The first half: a step that can't be. -/
theorem execute_bad {b g bm cap lim rb : Nat} {sh : Option Addr} {ch : Nat} {sy : Option Addr} {cy : Nat} {L : List Nd} {H Y : List Int} (s : Sp) (w : World) (hA : Ar w b g bm cap lim L) (hR : Rb w rb b sh ch sy cy H Y) (hS : Rsh w) (hno : usedB s = false ∨ (usedB s = true ∧ pickB (srcS H Y s) (idx s) = false)) :
    Calls Tryd.prog 48 #[.pointer (some ⟨rb, 0, none⟩), aggS s] w (ExPost b g bm lim (stepY lim H L Y s) w) := by
  have HV : Hid (stepY lim H L Y s = ⟨L, 0, 12⟩) := Lib.hid (by
    unfold stepY
    rcases hno with h | ⟨h, h2⟩
    · rw [h]; rfl
    · rw [h, h2]; rfl)
  have HA := Lib.hid hA
  have HR := Lib.hid hR
  have HS := Lib.hid hS
  clear hA hR hS
  have HB0 : Hid (∀ o, Below w.heap.size w (w.alloc o)) := Lib.hid (fun o => (Below.refl _ _).alloc (Nat.le_refl _) o)
  rcases hno with hu | ⟨hu, hp⟩
  · have HU := Lib.hid (fun w1 (hb : Below w.heap.size w w1) => used_no w1 (HS.out.below hb) hu)
    clear hu
    unfold aggS at *
    go_enter Tryd.func48, Tryd.ntmps48
    go_wp2_with (go_at_call 63; refine (HU.out _ (HB0.out _)).mono ?_; rintro e w1 ⟨rfl, hb1⟩; have HB1 := Lib.hid ((HB0.out _).trans (hb1.mono (HB0.out _).size)); clear hb1)
    go_ret2
    exact ex_same HV.out HA.out HB1.out
  · have HU := Lib.hid (fun w1 (hb : Below w.heap.size w w1) => used_yes w1 (HS.out.below hb) hu)
    by_cases h0 : s.op = 0
    · have e : srcS H Y s = H := by unfold srcS; rw [if_pos h0]
      rw [e] at hp
      have HPK := Lib.hid (fun w1 (hb : Below w.heap.size w w1) sl c (hi : IntsV w1 sl (idx s)) => pick_any sh ch H sl c (idx s) w1 (HR.out.below hb).ih hi (idx_len s))
      have ep : pickV H (idx s) = .tuple #[arrV 0 0 0, .bool false] := by unfold pickV; rw [hp]; rfl
      rw [ep] at HPK
      clear hu hp e ep
      obtain ⟨op, n, a, b', c⟩ := s
      simp only at h0
      subst h0
      unfold aggS arrV at *
      generalize idx ⟨0, n, a, b', c⟩ = is at *
      go_enter Tryd.func48, Tryd.ntmps48
      go_wp2_with (first
        | (go_at_call 63; refine (HU.out _ (HB0.out _)).mono ?_; rintro e w1 ⟨sl, c1, rfl, hi1, hb1⟩; obtain ⟨⟨x0, x1, x2, x3, x4⟩, hbw⟩ := box5 hb1; have HB1 := Lib.hid hbw; have HI1 := Lib.hid hi1; clear hb1 hi1 hbw; obtain ⟨r0, r1, r2, -, -⟩ := HR.out.below HB1.out)
        | (go_at_call 64; refine (HPK.out _ HB1.out _ _ HI1.out).mono ?_; rintro e w2 ⟨rfl, hb2⟩; have HB2 := Lib.hid (HB1.out.trans (hb2.mono HB1.out.size)); clear hb2))
      go_ret2
      exact ex_same HV.out HA.out (HB2.out.alloc HB2.out.size _)
    · have e : srcS H Y s = Y := by unfold srcS; rw [if_neg h0]
      rw [e] at hp
      have HPK := Lib.hid (fun w1 (hb : Below w.heap.size w w1) sl c (hi : IntsV w1 sl (idx s)) => pick_any sy cy Y sl c (idx s) w1 (HR.out.below hb).iy hi (idx_len s))
      have ep : pickV Y (idx s) = .tuple #[arrV 0 0 0, .bool false] := by unfold pickV; rw [hp]; rfl
      rw [ep] at HPK
      have hb0 : (s.op == 0) = false := by simpa using h0
      clear hu hp e ep h0
      obtain ⟨op, n, a, b', c⟩ := s
      simp only at hb0
      unfold aggS arrV at *
      generalize idx ⟨op, n, a, b', c⟩ = is at *
      go_enter Tryd.func48, Tryd.ntmps48
      go_wp2_with (first
        | (go_at_call 63; refine (HU.out _ (HB0.out _)).mono ?_; rintro e w1 ⟨sl, c1, rfl, hi1, hb1⟩; obtain ⟨⟨x0, x1, x2, x3, x4⟩, hbw⟩ := box5 hb1; have HB1 := Lib.hid hbw; have HI1 := Lib.hid hi1; clear hb1 hi1 hbw; obtain ⟨r0, r1, r2, -, -⟩ := HR.out.below HB1.out)
        | (go_at_call 64; refine (HPK.out _ HB1.out _ _ HI1.out).mono ?_; rintro e w2 ⟨rfl, hb2⟩; have HB2 := Lib.hid (HB1.out.trans (hb2.mono HB1.out.size)); clear hb2))
      go_ret2
      exact ex_same HV.out HA.out (HB2.out.alloc HB2.out.size _)
end Go.Proofs.YtlckajnbmkkpeaaDoor
