/- Layer 4: walks of used, pick. -/
import Derived.Test.YtlckajnbmkkpeaaDoorEz
import Derived.Test.YtlckajnbmkkpeaaDoorYz
import Derived.Test.YtlckajnbmkkpeaaDoorZd
import Derived.Laws.ResultCell
namespace Go.Proofs.YtlckajnbmkkpeaaDoor
open Go.RowKit Go.Maps

/-- The table of ops. -/
def Rsh (w : World) : Prop := ∀ i : Nat, i < 14 → i ≠ 4 → w.cell? ⟨1, i * 3, none⟩ = some (.int .u64 (loS i)) ∧ w.cell? ⟨1, i * 3 + 1, none⟩ = some (.int .u64 (hiS i)) ∧ w.cell? ⟨1, i * 3 + 2, none⟩ = some (.int .i64 (ixS i))
theorem Rsh.below {w w' : World} (h : Rsh w) (hb : Below w.heap.size w w') : Rsh w' := fun i hi h4 => by
  obtain ⟨h0, h1, h2⟩ := h i hi h4
  exact ⟨(hb.cell (p := ⟨_, _, _⟩) (World.block_lt_of_cell? _ _ h0)).trans h0, (hb.cell (p := ⟨_, _, _⟩) (World.block_lt_of_cell? _ _ h1)).trans h1, (hb.cell (p := ⟨_, _, _⟩) (World.block_lt_of_cell? _ _ h2)).trans h2⟩
def aggS (s : Sp) : Value := .agg #[.int .i64 s.op, .int .u64 s.n, .int .i64 s.a, .int .i64 s.b, .int .i64 s.c]
theorem ixS_le (op : Int) : ixS op ≤ 3 := by unfold ixS; split <;> (try split) <;> (try split) <;> omega
theorem used_bad {s : Sp} (h : ¬ (0 ≤ s.op ∧ s.op ≤ 13 ∧ s.op ≠ 4)) : usedB s = false := by
  cases hu : usedB s with
  | false => rfl
  | true => exact absurd (used_op hu).1 h
theorem used_num {s : Sp} (h : ¬ (loS s.op ≤ s.n ∧ s.n ≤ hiS s.op)) : usedB s = false := by
  cases hu : usedB s with
  | false => rfl
  | true => exact absurd (used_op hu).2 h

set_option maxRecDepth 100000 in
set_option maxHeartbeats 4000000 in
theorem used_any (s : Sp) (w : World) (hS : Rsh w) : Calls Tryd.prog 63 #[aggS s] w fun e w' =>
    ((usedB s = false ∧ e = .returned (.tuple #[.slice none 0 0, .bool false])) ∨ (usedB s = true ∧ ∃ sl c, e = .returned (.tuple #[.slice sl (idx s).length c, .bool true]) ∧ IntsV w' sl (idx s))) ∧ Below w.heap.size w w' := by
  obtain ⟨op, n, a, b, c⟩ := s
  unfold aggS
  simp only
  by_cases ho : 0 ≤ op ∧ op ≤ 13 ∧ op ≠ 4
  · obtain ⟨o0, o1, o4⟩ := ho
    obtain ⟨h0, h1, h2⟩ := hS op.toNat (by omega) (by omega)
    have e1 : ((op.toNat : Nat) : Int) = op := by omega
    rw [e1] at h0 h1 h2
    have lg : 1 < w.heap.size := World.block_lt_of_cell? _ _ h0
    have lg1 : 1 < w.heap.size + 1 := by omega
    have d0 : ¬ op < 0 := by omega
    have d1 : ¬ 14 ≤ op := by omega
    have d2 : op < 14 := by omega
    have d4 : (op == 4) = false := by simpa using o4
    clear hS e1
    have HUS : Hid (∀ lo hi k, loS op = lo → hiS op = hi → ixS op = k → lo ≤ n → n ≤ hi → usedB ⟨op, n, a, b, c⟩ = ((decide (1 ≤ k) || decide (a = 0)) && (decide (2 ≤ k) || decide (b = 0)) && (decide (3 ≤ k) || decide (c = 0)))) := Lib.hid (fun lo hi k el eh ek h1 h2 => by
      have e : opOk op = true := by simp [opOk]; omega
      simp only [usedB, e, el, eh, ek, h1, h2, decide_true, Bool.true_and])
    have HNU : Hid (¬ (loS op ≤ n ∧ n ≤ hiS op) → usedB ⟨op, n, a, b, c⟩ = false) := Lib.hid (fun h => used_num h)
    have HIX : Hid (∀ k, ixS op = k → idx ⟨op, n, a, b, c⟩ = [a, b, c].take k) := Lib.hid (fun k ek => by unfold idx; rw [ek])
    have hk3 := ixS_le op
    obtain ⟨lo, hlo⟩ : ∃ lo, loS op = lo := ⟨_, rfl⟩
    obtain ⟨hi, hhi⟩ : ∃ hi, hiS op = hi := ⟨_, rfl⟩
    obtain ⟨k, hk⟩ : ∃ k, ixS op = k := ⟨_, rfl⟩
    rw [hlo] at h0
    rw [hhi] at h1
    rw [hk] at h2 hk3
    have HU := Lib.hid (HUS.out lo hi k hlo hhi hk)
    have HI := Lib.hid (HIX.out k hk)
    rw [hlo, hhi] at HNU
    clear HUS HIX hlo hhi hk
    by_cases hn1 : n < lo
    · have HF := Lib.hid (HNU.out (by omega))
      go_enter Tryd.func63, Tryd.ntmps63
      go_wp2_with fail
      go_ret2
      exact ⟨.inl ⟨HF.out, rfl⟩, ((Below.refl _ _).alloc (Nat.le_refl _) _).alloc (by simp) _⟩
    by_cases hn2 : hi < n
    · have HF := Lib.hid (HNU.out (by omega))
      go_enter Tryd.func63, Tryd.ntmps63
      go_wp2_with fail
      go_ret2
      exact ⟨.inl ⟨HF.out, rfl⟩, ((Below.refl _ _).alloc (Nat.le_refl _) _).alloc (by simp) _⟩
    have HV := Lib.hid (HU.out (by omega) (by omega))
    clear HU HNU
    have hk4 : k = 0 ∨ k = 1 ∨ k = 2 ∨ k = 3 := by omega
    rcases hk4 with rfl | rfl | rfl | rfl
    · skip
      by_cases za : a = 0
      · subst za
        by_cases zb : b = 0
        · subst zb
          by_cases zc : c = 0
          · subst zc
            go_enter Tryd.func63, Tryd.ntmps63
            go_wp2_with fail
            refine wp_loop_rounds 4 ?_
            rw [rounds_succ]
            go_wp2_with fail
            rw [rounds_succ]
            go_wp2_with fail
            rw [rounds_succ]
            go_wp2_with fail
            rw [rounds_succ]
            go_wp2_with fail
            go_ret2
            refine ⟨.inr ⟨by rw [HV.out]; simp, _, _, by rw [HI.out]; rfl, ?_⟩, (((Below.refl _ _).alloc (Nat.le_refl _) _).alloc (by simp) _).alloc (by simp; omega) _⟩
            rw [HI.out]
            intro _
            refine ⟨w.heap.size + 1 + 1, 0, rfl, by simp, fun i hi' => ?_⟩
            simp at hi'
          · have nc : (c != 0) = true := by simpa using zc
            go_enter Tryd.func63, Tryd.ntmps63
            go_wp2_with fail
            refine wp_loop_rounds 4 ?_
            rw [rounds_succ]
            go_wp2_with fail
            rw [rounds_succ]
            go_wp2_with fail
            rw [rounds_succ]
            go_wp2_with fail
            go_ret2
            exact ⟨.inl ⟨by rw [HV.out]; simp_all, rfl⟩, (((Below.refl _ _).alloc (Nat.le_refl _) _).alloc (by simp) _).alloc (by simp; omega) _⟩
        · have nb : (b != 0) = true := by simpa using zb
          go_enter Tryd.func63, Tryd.ntmps63
          go_wp2_with fail
          refine wp_loop_rounds 4 ?_
          rw [rounds_succ]
          go_wp2_with fail
          rw [rounds_succ]
          go_wp2_with fail
          go_ret2
          exact ⟨.inl ⟨by rw [HV.out]; simp_all, rfl⟩, (((Below.refl _ _).alloc (Nat.le_refl _) _).alloc (by simp) _).alloc (by simp; omega) _⟩
      · have na : (a != 0) = true := by simpa using za
        go_enter Tryd.func63, Tryd.ntmps63
        go_wp2_with fail
        refine wp_loop_rounds 4 ?_
        rw [rounds_succ]
        go_wp2_with fail
        go_ret2
        exact ⟨.inl ⟨by rw [HV.out]; simp_all, rfl⟩, (((Below.refl _ _).alloc (Nat.le_refl _) _).alloc (by simp) _).alloc (by simp; omega) _⟩
    · skip
      by_cases zb : b = 0
      · subst zb
        by_cases zc : c = 0
        · subst zc
          go_enter Tryd.func63, Tryd.ntmps63
          go_wp2_with fail
          refine wp_loop_rounds 4 ?_
          rw [rounds_succ]
          go_wp2_with fail
          rw [rounds_succ]
          go_wp2_with fail
          rw [rounds_succ]
          go_wp2_with fail
          go_ret2
          refine ⟨.inr ⟨by rw [HV.out]; simp, _, _, by rw [HI.out]; rfl, ?_⟩, (((Below.refl _ _).alloc (Nat.le_refl _) _).alloc (by simp) _).alloc (by simp; omega) _⟩
          rw [HI.out]
          intro _
          refine ⟨w.heap.size + 1 + 1, 0, rfl, by simp, fun i hi' => ?_⟩
          match i, hi' with
          | 0, _ => go_simp
        · have nc : (c != 0) = true := by simpa using zc
          go_enter Tryd.func63, Tryd.ntmps63
          go_wp2_with fail
          refine wp_loop_rounds 4 ?_
          rw [rounds_succ]
          go_wp2_with fail
          rw [rounds_succ]
          go_wp2_with fail
          go_ret2
          exact ⟨.inl ⟨by rw [HV.out]; simp_all, rfl⟩, (((Below.refl _ _).alloc (Nat.le_refl _) _).alloc (by simp) _).alloc (by simp; omega) _⟩
      · have nb : (b != 0) = true := by simpa using zb
        go_enter Tryd.func63, Tryd.ntmps63
        go_wp2_with fail
        refine wp_loop_rounds 4 ?_
        rw [rounds_succ]
        go_wp2_with fail
        go_ret2
        exact ⟨.inl ⟨by rw [HV.out]; simp_all, rfl⟩, (((Below.refl _ _).alloc (Nat.le_refl _) _).alloc (by simp) _).alloc (by simp; omega) _⟩
    · skip
      by_cases zc : c = 0
      · subst zc
        go_enter Tryd.func63, Tryd.ntmps63
        go_wp2_with fail
        refine wp_loop_rounds 4 ?_
        rw [rounds_succ]
        go_wp2_with fail
        rw [rounds_succ]
        go_wp2_with fail
        go_ret2
        refine ⟨.inr ⟨by rw [HV.out]; simp, _, _, by rw [HI.out]; rfl, ?_⟩, (((Below.refl _ _).alloc (Nat.le_refl _) _).alloc (by simp) _).alloc (by simp; omega) _⟩
        rw [HI.out]
        intro _
        refine ⟨w.heap.size + 1 + 1, 0, rfl, by simp, fun i hi' => ?_⟩
        match i, hi' with
        | 0, _ => go_simp
        | 1, _ => go_simp
      · have nc : (c != 0) = true := by simpa using zc
        go_enter Tryd.func63, Tryd.ntmps63
        go_wp2_with fail
        refine wp_loop_rounds 4 ?_
        rw [rounds_succ]
        go_wp2_with fail
        go_ret2
        exact ⟨.inl ⟨by rw [HV.out]; simp_all, rfl⟩, (((Below.refl _ _).alloc (Nat.le_refl _) _).alloc (by simp) _).alloc (by simp; omega) _⟩
    · skip
      go_enter Tryd.func63, Tryd.ntmps63
      go_wp2_with fail
      refine wp_loop_rounds 4 ?_
      rw [rounds_succ]
      go_wp2_with fail
      go_ret2
      refine ⟨.inr ⟨by rw [HV.out]; simp, _, _, by rw [HI.out]; rfl, ?_⟩, (((Below.refl _ _).alloc (Nat.le_refl _) _).alloc (by simp) _).alloc (by simp; omega) _⟩
      rw [HI.out]
      intro _
      refine ⟨w.heap.size + 1 + 1, 0, rfl, by simp, fun i hi' => ?_⟩
      match i, hi' with
      | 0, _ => go_simp
      | 1, _ => go_simp
      | 2, _ => go_simp
  · have HU := Lib.hid (used_bad (s := ⟨op, n, a, b, c⟩) ho)
    by_cases o0 : op < 0
    · clear ho hS
      go_enter Tryd.func63, Tryd.ntmps63
      go_wp2_with fail
      go_ret2
      exact ⟨.inl ⟨HU.out, rfl⟩, (Below.refl _ _).alloc (Nat.le_refl _) _⟩
    · by_cases o1 : 14 ≤ op
      · clear ho hS
        go_enter Tryd.func63, Tryd.ntmps63
        go_wp2_with fail
        go_ret2
        exact ⟨.inl ⟨HU.out, rfl⟩, (Below.refl _ _).alloc (Nat.le_refl _) _⟩
      · have o4 : op = 4 := by omega
        subst o4
        clear ho hS
        go_enter Tryd.func63, Tryd.ntmps63
        go_wp2_with fail
        go_ret2
        exact ⟨.inl ⟨HU.out, rfl⟩, (Below.refl _ _).alloc (Nat.le_refl _) _⟩
end Go.Proofs.YtlckajnbmkkpeaaDoor
