/- Layer 5: walks of tokenOf, rightPre, rightMsg, rightName. -/
import Derived.Test.YtahbbojhdkillaaDoorMb
import Derived.Laws.RangeAny
namespace Go.Proofs.YtahbbojhdkillaaDoor
open Go.RowKit

set_option maxRecDepth 100000 in
set_option maxHeartbeats 2000000 in
theorem tokenOf_any (x : ByteArray) (w : World) (hE : En w) : Calls Tryd.prog 75 #[.string x] w fun e w' => e = .returned (.int .i64 (tokOf x.data.toList)) ∧ w = w' := by
  have h0 : w.cell? ⟨3, 0, none⟩ = some (.string ⟨#[63]⟩) := hE.nm 0 (by omega)
  have h1 : w.cell? ⟨3, 1, none⟩ = some (.string ⟨#[101]⟩) := hE.nm 1 (by omega)
  have h2 : w.cell? ⟨3, 2, none⟩ = some (.string ⟨#[115]⟩) := hE.nm 2 (by omega)
  have h3 : w.cell? ⟨3, 3, none⟩ = some (.string ⟨#[101, 101]⟩) := hE.nm 3 (by omega)
  have h4 : w.cell? ⟨3, 4, none⟩ = some (.string ⟨#[101, 115]⟩) := hE.nm 4 (by omega)
  have h5 : w.cell? ⟨3, 5, none⟩ = some (.string ⟨#[115, 101]⟩) := hE.nm 5 (by omega)
  have h6 : w.cell? ⟨3, 6, none⟩ = some (.string ⟨#[115, 115]⟩) := hE.nm 6 (by omega)
  have h7 : w.cell? ⟨3, 7, none⟩ = some (.string ⟨#[112, 115, 107]⟩) := hE.nm 7 (by omega)
  clear hE
  have i0 : ∀ w, (Instr.index 112 (.agg #[.string ⟨#[63]⟩, .string ⟨#[101]⟩, .string ⟨#[115]⟩, .string ⟨#[101, 101]⟩, .string ⟨#[101, 115]⟩, .string ⟨#[115, 101]⟩, .string ⟨#[115, 115]⟩, .string ⟨#[112, 115, 107]⟩]) (.int .i64 0)).run Tryd.prog w = .ok (.string ⟨#[63]⟩) w := fun _ => by kernel_rfl
  have i1 : ∀ w, (Instr.index 112 (.agg #[.string ⟨#[63]⟩, .string ⟨#[101]⟩, .string ⟨#[115]⟩, .string ⟨#[101, 101]⟩, .string ⟨#[101, 115]⟩, .string ⟨#[115, 101]⟩, .string ⟨#[115, 115]⟩, .string ⟨#[112, 115, 107]⟩]) (.int .i64 1)).run Tryd.prog w = .ok (.string ⟨#[101]⟩) w := fun _ => by kernel_rfl
  have i2 : ∀ w, (Instr.index 112 (.agg #[.string ⟨#[63]⟩, .string ⟨#[101]⟩, .string ⟨#[115]⟩, .string ⟨#[101, 101]⟩, .string ⟨#[101, 115]⟩, .string ⟨#[115, 101]⟩, .string ⟨#[115, 115]⟩, .string ⟨#[112, 115, 107]⟩]) (.int .i64 2)).run Tryd.prog w = .ok (.string ⟨#[115]⟩) w := fun _ => by kernel_rfl
  have i3 : ∀ w, (Instr.index 112 (.agg #[.string ⟨#[63]⟩, .string ⟨#[101]⟩, .string ⟨#[115]⟩, .string ⟨#[101, 101]⟩, .string ⟨#[101, 115]⟩, .string ⟨#[115, 101]⟩, .string ⟨#[115, 115]⟩, .string ⟨#[112, 115, 107]⟩]) (.int .i64 3)).run Tryd.prog w = .ok (.string ⟨#[101, 101]⟩) w := fun _ => by kernel_rfl
  have i4 : ∀ w, (Instr.index 112 (.agg #[.string ⟨#[63]⟩, .string ⟨#[101]⟩, .string ⟨#[115]⟩, .string ⟨#[101, 101]⟩, .string ⟨#[101, 115]⟩, .string ⟨#[115, 101]⟩, .string ⟨#[115, 115]⟩, .string ⟨#[112, 115, 107]⟩]) (.int .i64 4)).run Tryd.prog w = .ok (.string ⟨#[101, 115]⟩) w := fun _ => by kernel_rfl
  have i5 : ∀ w, (Instr.index 112 (.agg #[.string ⟨#[63]⟩, .string ⟨#[101]⟩, .string ⟨#[115]⟩, .string ⟨#[101, 101]⟩, .string ⟨#[101, 115]⟩, .string ⟨#[115, 101]⟩, .string ⟨#[115, 115]⟩, .string ⟨#[112, 115, 107]⟩]) (.int .i64 5)).run Tryd.prog w = .ok (.string ⟨#[115, 101]⟩) w := fun _ => by kernel_rfl
  have i6 : ∀ w, (Instr.index 112 (.agg #[.string ⟨#[63]⟩, .string ⟨#[101]⟩, .string ⟨#[115]⟩, .string ⟨#[101, 101]⟩, .string ⟨#[101, 115]⟩, .string ⟨#[115, 101]⟩, .string ⟨#[115, 115]⟩, .string ⟨#[112, 115, 107]⟩]) (.int .i64 6)).run Tryd.prog w = .ok (.string ⟨#[115, 115]⟩) w := fun _ => by kernel_rfl
  have i7 : ∀ w, (Instr.index 112 (.agg #[.string ⟨#[63]⟩, .string ⟨#[101]⟩, .string ⟨#[115]⟩, .string ⟨#[101, 101]⟩, .string ⟨#[101, 115]⟩, .string ⟨#[115, 101]⟩, .string ⟨#[115, 115]⟩, .string ⟨#[112, 115, 107]⟩]) (.int .i64 7)).run Tryd.prog w = .ok (.string ⟨#[112, 115, 107]⟩) w := fun _ => by kernel_rfl
  go_enter Tryd.func75, Tryd.ntmps75
  go_wp2_with fail
  refine wp_loop_rounds 9 ?_
  iterate 8
    rw [rounds_succ]
    go_wp2
    · go_ret
      refine ⟨?_, rfl⟩
      simp_all [tokOf, tokAt, namesL, ByteArray.toList_eq]
  rw [rounds_succ]
  go_wp2
  go_ret
  refine ⟨?_, rfl⟩
  simp_all [tokOf, tokAt, namesL, ByteArray.toList_eq]

set_option maxRecDepth 100000 in
set_option maxHeartbeats 800000 in
theorem rightPre_any (s : Option Addr) (c : Nat) (l : List Int) (w : World) (hl : IntsV w s l) : Calls Tryd.prog 52 #[.slice s l.length c] w fun e w' => e = .returned (.bool (preOk l)) ∧ w = w' := by
  match l, hl with
  | [], _ =>
    go_enter Tryd.func52, Tryd.ntmps52
    go_wp2
    go_ret
    exact ⟨rfl, rfl⟩
  | [a], hl =>
    obtain ⟨g, o, rfl, hi⟩ := hl (by simp)
    have h0 : w.cell? ⟨g, o, none⟩ = some (.int .i64 a) := hi 0 (by simp)
    clear hi hl
    go_enter Tryd.func52, Tryd.ntmps52
    go_wp2
    all_goals go_ret
    all_goals refine ⟨?_, rfl⟩
    all_goals simp_all [preOk]
    all_goals (rw [Bool.eq_iff_iff]; simp; omega)
  | [a, b], hl =>
    obtain ⟨g, o, rfl, hi⟩ := hl (by simp)
    have h0 : w.cell? ⟨g, o, none⟩ = some (.int .i64 a) := hi 0 (by simp)
    have h1 : w.cell? ⟨g, o + 1, none⟩ = some (.int .i64 b) := hi 1 (by simp)
    clear hi hl
    go_enter Tryd.func52, Tryd.ntmps52
    go_wp2
    all_goals go_ret
    all_goals refine ⟨?_, rfl⟩
    all_goals simp_all [preOk]
    all_goals (rw [Bool.eq_iff_iff]; simp)
  | a :: b :: d :: r, hl =>
    have e1 : (((a :: b :: d :: r).length : Nat) : Int) = (r.length : Int) + 3 := by simp; omega
    clear hl
    generalize (a :: b :: d :: r).length = n at e1 ⊢
    have n0 : ((n : Int) == 0) = false := by simp; omega
    have n1 : ((n : Int) == 1) = false := by simp; omega
    have n2 : ((n : Int) == 2) = false := by simp; omega
    clear e1
    go_enter Tryd.func52, Tryd.ntmps52
    go_wp2
    go_ret
    exact ⟨by simp [preOk], rfl⟩

theorem take_all {l : List Int} {i : Nat} (h : i < l.length) (h1 : (l.take i).all isTok = true) (h2 : isTok (l.getD i 0) = true) : (l.take (i + 1)).all isTok = true := by
  rw [List.take_succ_eq_append_getElem h, List.all_append, h1]
  rw [List.getD_eq_getElem?_getD, List.getElem?_eq_getElem h] at h2
  simpa using h2
theorem all_not {l : List Int} {i : Nat} (h : i < l.length) (h2 : isTok (l.getD i 0) = false) : l.all isTok = false := by
  rw [List.getD_eq_getElem?_getD, List.getElem?_eq_getElem h] at h2
  rw [List.all_eq_false]
  exact ⟨l[i], List.getElem_mem h, by simpa using h2⟩

set_option maxRecDepth 100000 in
set_option maxHeartbeats 4000000 in
theorem rightMsg_any (f : Int) (t : List Int) (s : Option Addr) (c : Nat) (w : World) (hi : IntsV w s t) :
    Calls Tryd.prog 53 #[.agg #[.int .i64 f, .slice s t.length c]] w fun e w' => e = .returned (.bool (msOk ⟨f, t⟩)) ∧ Below w.heap.size w w' := by
  have HB : Hid (Below w.heap.size w (w.alloc (.cells #[.int .i64 f, .slice s t.length c] 68))) := Lib.hid ((Below.refl _ _).alloc (Nat.le_refl _) _)
  have HI := Lib.hid hi; clear hi
  by_cases hf : f = 0 ∨ f = 1
  · by_cases hn : 1 ≤ t.length ∧ t.length ≤ 12
    · have HM : Hid (msOk ⟨f, t⟩ = t.all isTok) := Lib.hid (by rcases hf with rfl | rfl <;> simp [msOk, hn.1, hn.2])
      obtain ⟨n, hnn⟩ : ∃ n, n = t.length := ⟨_, rfl⟩
      rw [← hnn] at hn HB ⊢
      have HN := Lib.hid hnn; clear hnn
      obtain ⟨n1, n12⟩ := hn
      have c1 : ¬ (n : Int) < 1 := by omega
      have c2 : ¬ (12 : Int) < n := by omega
      rcases hf with rfl | rfl
      all_goals
        go_enter Tryd.func53, Tryd.ntmps53
        go_wp2_with fail
        go_loopg [26] n (fun q u26 wr => ∃ i : Nat, i + q = n ∧ u26 = .int .i64 i ∧ Aside ((t.take i).all isTok = true) ∧ wr = _)
        case atStart => exact ⟨0, by omega, rfl, rfl, rfl⟩
        case round =>
          obtain ⟨i, hiq, rfl, hall, rfl⟩ := hrel
          by_cases hlt : i < n
          · obtain ⟨g, o, rfl, hia⟩ := HI.out (by have := HN.out; omega)
            have hx := hia i (by have := HN.out; omega)
            clear hia
            obtain ⟨x, hxx⟩ : ∃ x, x = t.getD i 0 := ⟨_, rfl⟩
            rw [← hxx] at hx
            have HX := Lib.hid hxx; clear hxx
            have hx' := (HB.out.cell (p := ⟨g, o + i, none⟩) (World.block_lt_of_cell? _ _ hx)).trans hx
            have hi2 : (i : Int) < n := by omega
            cases hk : isTok x with
            | true =>
              have HK := Lib.hid hk; clear hk
              go_wp2_with (go_at_call 65; refine (isToken_any _ _).mono ?_; rintro e w' ⟨rfl, rfl⟩; rw [HK.out])
              go_roundg (n - (i + 1))
              case measure => omega
              case rel => exact ⟨i + 1, by omega, by go_num, (show Aside _ from take_all (by have := HN.out; omega) hall.out (by rw [← HX.out]; exact HK.out)), rfl⟩
            | false =>
              have HK := Lib.hid hk; clear hk
              go_wp2_with (go_at_call 65; refine (isToken_any _ _).mono ?_; rintro e w' ⟨rfl, rfl⟩; rw [HK.out])
              go_ret
              exact ⟨by rw [HM.out, all_not (i := i) (by have := HN.out; omega) (by rw [← HX.out]; exact HK.out)]; rfl, HB.out⟩
          · have hi2 : ¬ (i : Int) < n := by omega
            go_wp2_with fail
            go_ret
            have : i = t.length := by have := HN.out; omega
            have h3 := hall.out
            rw [this, List.take_length] at h3
            exact ⟨by rw [HM.out, h3]; rfl, HB.out⟩
    · have HM : Hid (msOk ⟨f, t⟩ = false) := Lib.hid (by simp [msOk]; omega)
      generalize t.length = n at *
      rcases Nat.lt_or_ge n 1 with h1 | h1
      · have c1 : (n : Int) < 1 := by omega
        clear hn
        rcases hf with rfl | rfl
        all_goals
          go_enter Tryd.func53, Tryd.ntmps53
          go_wp2_with fail
          go_ret
          exact ⟨by rw [HM.out]; rfl, HB.out⟩
      · have c1 : ¬ (n : Int) < 1 := by omega
        have c2 : (12 : Int) < n := by omega
        clear hn
        rcases hf with rfl | rfl
        all_goals
          go_enter Tryd.func53, Tryd.ntmps53
          go_wp2_with fail
          go_ret
          exact ⟨by rw [HM.out]; rfl, HB.out⟩
  · have HM : Hid (msOk ⟨f, t⟩ = false) := Lib.hid (by simp [msOk]; omega)
    have f0 : (f != 0) = true := by simp; omega
    have f1 : (f != 1) = true := by simp; omega
    clear hf
    go_enter Tryd.func53, Tryd.ntmps53
    go_wp2_with fail
    go_ret
    exact ⟨by rw [HM.out]; rfl, HB.out⟩
end Go.Proofs.YtahbbojhdkillaaDoor
