/- Layer 9: the law LevelSteps. -/
import Derived.Test.YtahbbojhdkillaaDoorGh
namespace Go.Proofs.YtahbbojhdkillaaDoor
open Go.RowKit Go.Shelf

set_option maxRecDepth 100000 in
set_option maxHeartbeats 4000000 in
theorem steps_long (x : Sl) (p : Pt) (m n : Int) (h : fewB p = false) (w : World) (hE : Ew w) (hp : PatA w x p) : Calls Tryd.prog 8 #[patV x p, .int .i64 m, .int .i64 n] w fun e w' => e = .returned (.bool true) ∧ Below w.heap.size w w' := by
  have HA := Lib.hid (fun wx (hb : Below w.heap.size w wx) => awake9_any wx (hE.keep hb))
  have HF := Lib.hid (fun wx (hb : Below w.heap.size w wx) => few_any x p wx (hp.keep hb))
  rw [h] at HF
  have HX := Lib.hid (bx_new w x p)
  clear h hE hp
  unfold patV at HF ⊢
  go_enter Tryd.func8, Tryd.ntmps8
  go_wp2_with fail
  go_at_call 15
  refine (HF.out _ HX.out.bel).mono ?_
  rintro e w1 ⟨rfl, hb1⟩
  have HX1 := Lib.hid (HX.out.keep hb1)
  clear hb1
  go_wp2_with fail
  go_at_call 14
  refine (HA.out _ HX1.out.bel).mono ?_
  rintro e w9 ⟨rfl, hb9⟩
  have HX9 := Lib.hid (HX1.out.keep hb9)
  clear hb9
  go_wp2_with fail
  go_ret
  exact ⟨rfl, HX9.out.bel⟩
set_option maxRecDepth 100000 in
set_option maxHeartbeats 4000000 in
theorem steps_few (x : Sl) (p : Pt) (m n : Int) (h : fewB p = true) (w : World) (hE : Ew w) (hp : PatA w x p) : Calls Tryd.prog 8 #[patV x p, .int .i64 m, .int .i64 n] w fun e w' => e = .returned (.bool true) ∧ Below w.heap.size w w' := by
  have HA := Lib.hid (fun wx (hb : Below w.heap.size w wx) => awake9_any wx (hE.keep hb))
  have HF := Lib.hid (fun wx (hb : Below w.heap.size w wx) => few_any x p wx (hp.keep hb))
  rw [h] at HF
  have HX := Lib.hid (bx_new w x p)
  have HTM := Lib.hid (fun wx (hb : Below w.heap.size w wx) => table_any x p m wx (hp.keep hb) (hE.keep hb))
  have HTN := Lib.hid (fun wx (hb : Below w.heap.size w wx) => table_any x p n wx (hp.keep hb) (hE.keep hb))
  have HNM : Hid (tbN p m ≤ 100) := Lib.hid (by unfold tbN; split <;> (rename_i h; unfold tbE at h; split at h <;> omega))
  have HNN : Hid (tbN p n ≤ 100) := Lib.hid (by unfold tbN; split <;> (rename_i h; unfold tbE at h; split at h <;> omega))
  clear h hE hp
  generalize tbN p m = nm at *
  generalize tbN p n = nn at *
  generalize tbE p m = em at *
  generalize tbE p n = en at *
  unfold patV at HF HTM HTN ⊢
  go_enter Tryd.func8, Tryd.ntmps8
  go_wp2_with fail
  go_at_call 15
  refine (HF.out _ HX.out.bel).mono ?_
  rintro e w1 ⟨rfl, hb1⟩
  have HX1 := Lib.hid (HX.out.keep hb1)
  clear hb1
  obtain ⟨b0, b1, b2, b3⟩ := HX1.out.cells
  have lb := lt_of_heap HX1.out.bx
  go_wp2_with fail
  go_at_call 13
  refine (HTM.out _ HX1.out.bel).mono ?_
  rintro e w2 ⟨s, c, rfl, hl2, hb2⟩
  have HX2 := Lib.hid (HX1.out.keep hb2)
  have HL2 := Lib.hid hl2
  clear hb2 hl2 b0 b1 b2 b3 lb
  obtain ⟨b0, b1, b2, b3⟩ := HX2.out.cells
  have lb := lt_of_heap HX2.out.bx
  go_wp2_with fail
  go_at_call 13
  refine (HTN.out _ HX2.out.bel).mono ?_
  rintro e w3 ⟨s2, c2, rfl, hl3, hb3⟩
  have HX3 := Lib.hid (HX2.out.keep hb3)
  have HL3 := Lib.hid hl3
  have HL4 := Lib.hid (HL2.out.keep hb3)
  clear hb3 hl3 b0 b1 b2 b3 lb HL2
  by_cases hm : em = 0
  · subst hm
    by_cases hn : en = 0
    · subst hn
      go_wp2_with fail
      obtain ⟨z, hz⟩ : ∃ z, z = min nm nn := ⟨_, rfl⟩
      have HZ := Lib.hid hz
      clear hz
      go_loopg [11] z (fun q u11 wr => ∃ k : Nat, k + q = z ∧ u11 = .int .i64 k ∧ Aside (Below w.heap.size w wr ∧ LvR wr s nm p ∧ LvR wr s2 nn p))
      case atStart => exact ⟨0, by omega, rfl, HX3.out.bel, HL4.out, HL3.out⟩
      case round =>
        obtain ⟨k, hkq, rfl, hr⟩ := hrel
        have HR := Lib.hid hr.out
        clear hr
        by_cases hk : k < nm
        · have hk2 : (k : Int) < nm := by omega
          by_cases hk3 : k < nn
          · have hk4 : (k : Int) < nn := by omega
            have hk5 : (k : Int) < 100 := by have := HNM.out; omega
            obtain ⟨g, rfl, hg⟩ := HR.out.2.1 (by omega)
            obtain ⟨g2, rfl, hg2⟩ := HR.out.2.2 (by omega)
            obtain ⟨a0, a1⟩ := hg k hk
            obtain ⟨d0, d1⟩ := hg2 k hk3
            have la := World.block_lt_of_cell? _ _ a0
            have ld := World.block_lt_of_cell? _ _ d0
            simp only at la ld
            clear hg hg2
            go_wp2_with fail
            go_quiet (fail)
            go_wp2_with fail
            go_roundg (z - (k + 1))
            case measure => have := HZ.out; omega
            case rel => exact ⟨k + 1, by have := HZ.out; omega, by go_num, (show Aside _ from ⟨belowN HR.out.1, HR.out.2.1.keep (belowN (Below.refl _ _)), HR.out.2.2.keep (belowN (Below.refl _ _))⟩)⟩
          · have hk4 : ¬ (k : Int) < nn := by omega
            go_wp2_with fail
            go_at_call 14
            refine (HA.out _ HR.out.1).mono ?_
            rintro e w9 ⟨rfl, hb9⟩
            have HX9 := Lib.hid (HR.out.1.trans (hb9.mono HR.out.1.size))
            clear hb9
            go_wp2_with fail
            go_ret
            exact ⟨rfl, HX9.out⟩
        · have hk2 : ¬ (k : Int) < nm := by omega
          go_wp2_with fail
          go_at_call 14
          refine (HA.out _ HR.out.1).mono ?_
          rintro e w9 ⟨rfl, hb9⟩
          have HX9 := Lib.hid (HR.out.1.trans (hb9.mono HR.out.1.size))
          clear hb9
          go_wp2_with fail
          go_ret
          exact ⟨rfl, HX9.out⟩
    · have hnb : (en != 0) = true := by simpa using hn
      clear hn
      go_wp2_with fail
      go_at_call 14
      refine (HA.out _ HX3.out.bel).mono ?_
      rintro e w9 ⟨rfl, hb9⟩
      have HX9 := Lib.hid (HX3.out.keep hb9)
      clear hb9
      go_wp2_with fail
      go_ret
      exact ⟨rfl, HX9.out.bel⟩
  · have hmb : (em != 0) = true := by simpa using hm
    clear hm
    go_wp2_with fail
    go_at_call 14
    refine (HA.out _ HX3.out.bel).mono ?_
    rintro e w9 ⟨rfl, hb9⟩
    have HX9 := Lib.hid (HX3.out.keep hb9)
    clear hb9
    go_wp2_with fail
    go_ret
    exact ⟨rfl, HX9.out.bel⟩
theorem steps_good (x : Sl) (p : Pt) (m n : Int) (w : World) (hE : Ew w) (hp : PatA w x p) : Calls Tryd.prog 8 #[patV x p, .int .i64 m, .int .i64 n] w fun e w' => e = .returned (.bool true) ∧ Below w.heap.size w w' := by
  cases h : fewB p with
  | false => exact steps_long x p m n h w hE hp
  | true => exact steps_few x p m n h w hE hp
end Go.Proofs.YtahbbojhdkillaaDoor
