/- Layer 9: what the document fixes of XX (awake). -/
import Derived.Test.YtahbbojhdkillaaDoorGg
import Derived.ChangeKeysEq
namespace Go.Proofs.YtahbbojhdkillaaDoor
open Go.RowKit Go.Shelf

theorem table_any (x : Sl) (p : Pt) (many : Int) (w : World) (hp : PatA w x p) (hE : Ew w) : Calls Tryd.prog 13 #[patV x p, .int .i64 many] w fun e w' => ∃ s c, e = .returned (.tuple #[.slice s (tbN p many) c, .int .i64 (tbE p many)]) ∧ LvR w' s (tbN p many) p ∧ Below w.heap.size w w' := by
  by_cases h : many < 0 ∨ 100 < many
  · have e : tbE p many = 1 := by unfold tbE; rw [if_pos h]
    have n : tbN p many = 0 := by unfold tbN; rw [e]; rfl
    rw [e, n]
    exact (table_no x p many h w).mono fun e w' ⟨he, hb⟩ => ⟨none, 0, he, fun h => absurd h (by omega), hb⟩
  · have e : tbE p many = ckE p := by unfold tbE; rw [if_neg h]
    by_cases hc : ckE p = 0
    · have n : tbN p many = many.toNat := by unfold tbN; rw [e, if_pos hc]
      rw [e, n, hc]
      have hm : many = (many.toNat : Int) := by omega
      have := table_ok x p many.toNat (by omega) hc w hp hE
      rw [← hm] at this
      exact this
    · have n : tbN p many = 0 := by unfold tbN; rw [e, if_neg hc]
      rw [e, n]
      exact (table_bad x p many (by omega) (by omega) hc w hp hE).mono fun e w' ⟨he, hb⟩ => ⟨none, 0, he, fun h => absurd h (by omega), hb⟩
set_option maxRecDepth 100000 in
set_option maxHeartbeats 4000000 in
theorem awake9_any (w : World) (hE : Ew w) : Calls Tryd.prog 14 #[] w fun e w' => e = .returned (.bool true) ∧ Below w.heap.size w w' := by
  have HBS := Lib.hid (base_any ⟨#[88, 88]⟩ w hE.ev.eb)
  have eb : bsP (⟨#[88, 88]⟩ : ByteArray).data.toList = xxB ∧ bsE (⟨#[88, 88]⟩ : ByteArray).data.toList = 0 := by decide
  rw [eb.1, eb.2] at HBS
  have HTB := Lib.hid (fun x wx (hb : Below w.heap.size w wx) (h : PatA wx x xxB) => table_ok x xxB 3 (by decide) xx_lv.2.2.2 wx h (hE.keep hb))
  have hip : ∀ x, patV x xxB = .agg #[.string ⟨#[88, 88]⟩, .slice x.s0 0 x.c0, .slice x.s1 0 x.c1, .slice x.s2 3 x.c2] := fun x => rfl
  simp only [hip] at HBS HTB
  clear hip eb hE
  have HRE := Lib.hid (fun wx => reach_any 2 5 2 1 wx)
  unfold lvV at HRE
  go_enter Tryd.func14, Tryd.ntmps14
  go_wp2_with fail
  go_at_call 12
  refine HBS.out.mono ?_
  rintro e w1 ⟨x, rfl, hx1, hb1⟩
  have HX1 := Lib.hid hx1
  have HB1 := Lib.hid hb1
  clear hx1 hb1 HBS
  go_wp2_with fail
  go_at_call 13
  refine (HTB.out x _ (HB1.out.alloc HB1.out.size _) (HX1.out.keep ((Below.refl _ _).alloc (Nat.le_refl _) _))).mono ?_
  rintro e w2 ⟨s, c, rfl, hl2, hb2⟩
  obtain ⟨g, rfl, hl⟩ := hl2 (by decide)
  have HB2 := Lib.hid ((HB1.out.alloc HB1.out.size (.cells #[.string ⟨#[88, 88]⟩, .slice x.s0 0 x.c0, .slice x.s1 0 x.c1, .slice x.s2 3 x.c2] 29)).trans (hb2.mono (HB1.out.alloc HB1.out.size _).size))
  obtain ⟨a0, a1⟩ := hl 0 (by decide)
  obtain ⟨a2, a3⟩ := hl 1 (by decide)
  obtain ⟨a4, a5⟩ := hl 2 (by decide)
  rw [xx_lv.1] at a0 a1
  rw [xx_lv.2.1] at a2 a3
  rw [xx_lv.2.2.1] at a4 a5
  simp only [Nat.zero_mul, Nat.one_mul, Nat.reduceMul, Nat.reduceAdd, Nat.zero_add] at a0 a1 a2 a3 a4 a5
  have lg := World.block_lt_of_cell? _ _ a0
  simp only at lg
  clear hl hl2 hb2 HTB
  go_wp2_with fail
  go_region_held3 (fun w' => w'.cell? ⟨g, 0, none⟩ = some (.int .i64 0) ∧ w'.cell? ⟨g, 1, none⟩ = some (.int .i64 0) ∧ w'.cell? ⟨g, 2, none⟩ = some (.int .i64 2) ∧ w'.cell? ⟨g, 3, none⟩ = some (.int .i64 1) ∧ w'.cell? ⟨g, 4, none⟩ = some (.int .i64 2) ∧ w'.cell? ⟨g, 5, none⟩ = some (.int .i64 5)) (go_keep)
    ((go_at_call 23; refine (HRE.out _).mono ?_; rintro e w3 ⟨rfl, hb3⟩; have HB3 := Lib.hid (HB2.out.trans (((Below.refl _ _).drew.trans hb3).mono HB2.out.size)); have k : ∀ j v, w2.cell? ⟨g, j, none⟩ = some v → w3.cell? ⟨g, j, none⟩ = some v := fun j v h => (((Below.refl _ _).drew.trans hb3).cell (p := ⟨g, j, none⟩) (World.block_lt_of_cell? _ _ h)).trans h; obtain ⟨z0, z1, z2, z3, z4, z5⟩ := (⟨k _ _ a0, k _ _ a1, k _ _ a2, k _ _ a3, k _ _ a4, k _ _ a5⟩ : _ ∧ _ ∧ _ ∧ _ ∧ _ ∧ _); clear k hb3))
  go_wp2_with fail
  go_ret
  exact ⟨rfl, HB3.out⟩
end Go.Proofs.YtahbbojhdkillaaDoor
