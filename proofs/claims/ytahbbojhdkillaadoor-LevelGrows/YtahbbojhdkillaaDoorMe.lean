/- Layer 5: the walk of Right. -/
import Derived.Test.YtahbbojhdkillaaDoorMd
namespace Go.Proofs.YtahbbojhdkillaaDoor
open Go.RowKit

theorem box4 {w w1 : World} {v0 v1 v2 v3 : Value} {T : TypeId} (hb : Below (w.alloc (.cells #[v0, v1, v2, v3] T)).heap.size (w.alloc (.cells #[v0, v1, v2, v3] T)) w1) :
    w1.cell? ⟨w.heap.size, 0, none⟩ = some v0 ∧ w1.cell? ⟨w.heap.size, 1, none⟩ = some v1 ∧ w1.cell? ⟨w.heap.size, 2, none⟩ = some v2 ∧ w1.cell? ⟨w.heap.size, 3, none⟩ = some v3 ∧ Below w.heap.size w w1 := by
  have h : ∀ j, w1.cell? ⟨w.heap.size, j, none⟩ = (w.alloc (.cells #[v0, v1, v2, v3] T)).cell? ⟨w.heap.size, j, none⟩ := fun j => hb.cell (p := ⟨w.heap.size, j, none⟩) (by simp)
  refine ⟨?_, ?_, ?_, ?_, ?_⟩
  · rw [h]; go_simp
  · rw [h]; go_simp
  · rw [h]; go_simp
  · rw [h]; go_simp
  · exact ((Below.refl _ _).alloc (Nat.le_refl _) _).trans (hb.mono (by simp))
theorem ms_all {l : List Ms} {i : Nat} (h : i < l.length) (h1 : (l.take i).all msOk = true) (h2 : msOk (l.getD i default) = true) : (l.take (i + 1)).all msOk = true := by
  rw [List.take_succ_eq_append_getElem h, List.all_append, h1]
  rw [List.getD_eq_getElem?_getD, List.getElem?_eq_getElem h] at h2
  simpa using h2
theorem ms_not {l : List Ms} {i : Nat} (h : i < l.length) (h2 : msOk (l.getD i default) = false) : l.all msOk = false := by
  rw [List.getD_eq_getElem?_getD, List.getElem?_eq_getElem h] at h2
  rw [List.all_eq_false]
  exact ⟨l[i], List.getElem_mem h, by simpa using h2⟩

set_option maxRecDepth 100000 in
set_option maxHeartbeats 4000000 in
theorem right_any (x : Sl) (p : Pt) (w : World) (hp : PatA w x p) : Calls Tryd.prog 39 #[patV x p] w fun e w' => e = .returned (.bool (right p)) ∧ Below w.heap.size w w' := by
  obtain ⟨nm, p0, p1, ms⟩ := p
  obtain ⟨s0, c0, s1, c1, s2, c2⟩ := x
  unfold patV
  obtain ⟨i0, i1, im⟩ := hp
  simp only at i0 i1 im ⊢
  have x0 : ∀ w, (Instr.index 26 (.agg #[.slice s0 p0.length c0, .slice s1 p1.length c1]) (.int .i64 0)).run Tryd.prog w = .ok (.slice s0 p0.length c0) w := fun _ => by kernel_rfl
  have x1 : ∀ w, (Instr.index 26 (.agg #[.slice s0 p0.length c0, .slice s1 p1.length c1]) (.int .i64 1)).run Tryd.prog w = .ok (.slice s1 p1.length c1) w := fun _ => by kernel_rfl
  have HI0 := Lib.hid i0
  have HI1 := Lib.hid i1
  have HIM := Lib.hid im
  clear i0 i1 im
  cases hn : nameOk nm with
  | false =>
    have HR : Hid (right ⟨nm, p0, p1, ms⟩ = false) := Lib.hid (by simp [right, hn])
    have HN := Lib.hid hn; clear hn x0 x1
    go_enter Tryd.func39, Tryd.ntmps39
    go_wp2_with (go_at_call 51; refine (rightName_any _ _).mono ?_; rintro e w1 ⟨rfl, hb1⟩; rw [HN.out]; have HB1 := Lib.hid (box4 hb1); clear hb1)
    go_ret
    exact ⟨by rw [HR.out]; rfl, HB1.out.2.2.2.2⟩
  | true =>
    have HN := Lib.hid hn; clear hn
    by_cases hl : 1 ≤ ms.length ∧ ms.length ≤ 6
    · obtain ⟨n, hnn⟩ : ∃ n, n = ms.length := ⟨_, rfl⟩
      rw [← hnn] at hl ⊢
      have HL := Lib.hid hnn; clear hnn
      obtain ⟨l1, l6⟩ := hl
      have d1 : ¬ (n : Int) < 1 := by omega
      have d2 : ¬ (6 : Int) < n := by omega
      have HR : Hid (right ⟨nm, p0, p1, ms⟩ = (preOk p0 && preOk p1 && ms.all msOk)) := Lib.hid (by
        have a1 : 1 ≤ ms.length := by have := HL.out; omega
        have a2 : ms.length ≤ 6 := by have := HL.out; omega
        simp [right, HN.out, a1, a2])
      cases h0 : preOk p0 with
      | false =>
        have H0 := Lib.hid h0; clear h0
        go_enter Tryd.func39, Tryd.ntmps39
        go_wp2_with (go_at_call 51; refine (rightName_any _ _).mono ?_; rintro e w1 ⟨rfl, hb1⟩; rw [HN.out]; obtain ⟨k0, k1, k2, k3, hbw⟩ := box4 hb1; clear hb1; have HBW := Lib.hid hbw; clear hbw)
        refine wp_loop_rounds 3 ?_
        rw [rounds_succ]
        go_wp2_with (go_at_call 52; refine (rightPre_any _ _ _ _ (HI0.out.keep HBW.out)).mono ?_; rintro e w2 ⟨rfl, rfl⟩; rw [H0.out])
        go_ret
        exact ⟨by rw [HR.out, H0.out]; rfl, HBW.out⟩
      | true =>
        have H0 := Lib.hid h0; clear h0
        cases h1 : preOk p1 with
        | false =>
          have H1 := Lib.hid h1; clear h1
          go_enter Tryd.func39, Tryd.ntmps39
          go_wp2_with (go_at_call 51; refine (rightName_any _ _).mono ?_; rintro e w1 ⟨rfl, hb1⟩; rw [HN.out]; obtain ⟨k0, k1, k2, k3, hbw⟩ := box4 hb1; clear hb1; have HBW := Lib.hid hbw; clear hbw)
          refine wp_loop_rounds 3 ?_
          rw [rounds_succ]
          go_wp2_with (go_at_call 52; refine (rightPre_any _ _ _ _ (HI0.out.keep HBW.out)).mono ?_; rintro e w2 ⟨rfl, rfl⟩; rw [H0.out])
          rw [rounds_succ]
          go_wp2_with (go_at_call 52; refine (rightPre_any _ _ _ _ (HI1.out.keep HBW.out)).mono ?_; rintro e w2 ⟨rfl, rfl⟩; rw [H1.out])
          go_ret
          exact ⟨by rw [HR.out, H0.out, H1.out]; rfl, HBW.out⟩
        | true =>
          have H1 := Lib.hid h1; clear h1
          go_enter Tryd.func39, Tryd.ntmps39
          go_wp2_with (go_at_call 51; refine (rightName_any _ _).mono ?_; rintro e w1 ⟨rfl, hb1⟩; rw [HN.out]; obtain ⟨k0, k1, k2, k3, hbw⟩ := box4 hb1; clear hb1; have HBW := Lib.hid hbw; clear hbw)
          refine wp_loop_rounds 3 ?_
          rw [rounds_succ]
          go_wp2_with (go_at_call 52; refine (rightPre_any _ _ _ _ (HI0.out.keep HBW.out)).mono ?_; rintro e w2 ⟨rfl, rfl⟩; rw [H0.out])
          rw [rounds_succ]
          go_wp2_with (go_at_call 52; refine (rightPre_any _ _ _ _ (HI1.out.keep HBW.out)).mono ?_; rintro e w2 ⟨rfl, rfl⟩; rw [H1.out])
          rw [rounds_succ]
          go_wp2_with fail
          clear x0 x1 k0 k1 k2 k3
          go_loopg [35] n (fun q u35 wr => ∃ i : Nat, i + q = n ∧ u35 = .int .i64 i ∧ Aside ((ms.take i).all msOk = true) ∧ Aside (Below w.heap.size w wr))
          case atStart => exact ⟨0, by omega, rfl, rfl, HBW.out⟩
          case round =>
            obtain ⟨i, hiq, rfl, hall, hbel⟩ := hrel
            by_cases hlt : i < n
            · obtain ⟨g, o, rfl, hia⟩ := (HIM.out.keep hbel.out) (by have := HL.out; omega)
              obtain ⟨q0, sx, cx, q1, qi⟩ := hia i (by have := HL.out; omega)
              clear hia
              obtain ⟨f, hf⟩ : ∃ f, f = (ms.getD i default).fr := ⟨_, rfl⟩
              obtain ⟨t, ht⟩ : ∃ t, t = (ms.getD i default).t := ⟨_, rfl⟩
              rw [← hf] at q0
              rw [← ht] at q1 qi
              have HX : Hid (ms.getD i default = ⟨f, t⟩) := Lib.hid (by rw [hf, ht])
              clear hf ht
              have QI := Lib.hid qi; clear qi
              have hi2 : (i : Int) < n := by omega
              cases hk : msOk ⟨f, t⟩ with
              | true =>
                have HK := Lib.hid hk; clear hk
                go_wp2_with (go_at_call 53; refine (rightMsg_any _ _ _ _ _ (QI.out.keep ((Below.refl _ _).alloc (Nat.le_refl _) _))).mono ?_; rintro e w2 ⟨rfl, hb2⟩; rw [HK.out]; have HB2 := Lib.hid (hb2.mono (by simp) : Below wr.heap.size _ w2); clear hb2)
                go_roundg (n - (i + 1))
                case measure => omega
                case rel => exact ⟨i + 1, by omega, by go_num, (show Aside _ from ms_all (by have := HL.out; omega) hall.out (by rw [HX.out]; exact HK.out)), (show Aside _ from hbel.out.trans ((((Below.refl _ _).alloc (Nat.le_refl _) _).trans HB2.out).mono hbel.out.size))⟩
              | false =>
                have HK := Lib.hid hk; clear hk
                go_wp2_with (go_at_call 53; refine (rightMsg_any _ _ _ _ _ (QI.out.keep ((Below.refl _ _).alloc (Nat.le_refl _) _))).mono ?_; rintro e w2 ⟨rfl, hb2⟩; rw [HK.out]; have HB2 := Lib.hid (hb2.mono (by simp) : Below wr.heap.size _ w2); clear hb2)
                go_ret
                exact ⟨by rw [HR.out, ms_not (i := i) (by have := HL.out; omega) (by rw [HX.out]; exact HK.out)]; simp, hbel.out.trans ((((Below.refl _ _).alloc (Nat.le_refl _) _).trans HB2.out).mono hbel.out.size)⟩
            · have hi2 : ¬ (i : Int) < n := by omega
              go_wp2_with fail
              go_ret
              have : i = ms.length := by have := HL.out; omega
              have h3 := hall.out
              rw [this, List.take_length] at h3
              exact ⟨by rw [HR.out, H0.out, H1.out, h3]; rfl, hbel.out⟩
    · have HR : Hid (right ⟨nm, p0, p1, ms⟩ = false) := Lib.hid (by simp [right]; omega)
      generalize ms.length = n at *
      rcases Nat.lt_or_ge n 1 with a1 | a1
      · have d1 : (n : Int) < 1 := by omega
        clear hl x0 x1
        go_enter Tryd.func39, Tryd.ntmps39
        go_wp2_with (go_at_call 51; refine (rightName_any _ _).mono ?_; rintro e w1 ⟨rfl, hb1⟩; rw [HN.out]; obtain ⟨k0, k1, k2, k3, hbw⟩ := box4 hb1; clear hb1)
        go_ret
        exact ⟨by rw [HR.out]; rfl, hbw⟩
      · have d1 : ¬ (n : Int) < 1 := by omega
        have d2 : (6 : Int) < n := by omega
        clear hl x0 x1
        go_enter Tryd.func39, Tryd.ntmps39
        go_wp2_with (go_at_call 51; refine (rightName_any _ _).mono ?_; rintro e w1 ⟨rfl, hb1⟩; rw [HN.out]; obtain ⟨k0, k1, k2, k3, hbw⟩ := box4 hb1; clear hb1)
        go_ret
        exact ⟨by rw [HR.out]; rfl, hbw⟩
end Go.Proofs.YtahbbojhdkillaaDoor
