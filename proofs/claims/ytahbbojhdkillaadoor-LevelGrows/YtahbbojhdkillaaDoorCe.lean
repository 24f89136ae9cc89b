/- Layer 7: walks of hasPsk, begin, take. -/
import Derived.Test.YtahbbojhdkillaaDoorCd
namespace Go.Proofs.YtahbbojhdkillaaDoor
open Go.RowKit Go.Shelf

/-- Whether a place was found. -/
def IdxP (x : Int) (l : List Int) (t : Int) : Prop := decide (0 ≤ x) = l.contains t
theorem idx_get {l : List Int} {i : Nat} (h : i < l.length) : l[i]? = some (l.getD i 0) := by
  rw [List.getD_eq_getElem?_getD, List.getElem?_eq_getElem h]; rfl
theorem contains_at {l : List Int} {i : Nat} {t : Int} (h : i < l.length) (e : t = l.getD i 0) : l.contains t = true := by
  rw [List.contains_iff_mem, e]; exact List.mem_of_getElem? (idx_get h)
theorem contains_no {l : List Int} {t : Int} (h : ∀ j, j < l.length → l.getD j 0 ≠ t) : l.contains t = false := by
  cases hc : l.contains t with
  | false => rfl
  | true =>
    rw [List.contains_iff_mem] at hc
    obtain ⟨i, hi, e⟩ := List.getElem_of_mem hc
    exact absurd (by rw [List.getD_eq_getElem?_getD, List.getElem?_eq_getElem hi]; exact e) (h i hi)
set_option maxRecDepth 100000 in
set_option maxHeartbeats 4000000 in
theorem index_any (s : Option Addr) (c : Nat) (l : List Int) (t : Int) (hl : l.length ≤ 65536) (w : World) (hi : IntsV w s l) : Calls Tryd.prog 79 #[.slice s l.length c, .int .i64 t] w fun e w' => ∃ x : Int, e = .returned (.int .i64 x) ∧ IdxP x l t ∧ w = w' := by
  have HI := Lib.hid hi; clear hi
  obtain ⟨n, hn⟩ : ∃ n, n = l.length := ⟨_, rfl⟩
  rw [← hn]
  have hn65 : (n : Int) ≤ 65536 := by omega
  have HN := Lib.hid hn; clear hn hl
  go_enter Tryd.func79, Tryd.ntmps79
  go_wp2_with fail
  go_loopg [5, 8] n (fun q _ u8 wr => ∃ i : Nat, i + q = n ∧ u8 = .int .i64 i ∧ wr = w ∧ Aside (∀ j, j < i → l.getD j 0 ≠ t))
  case atStart => exact ⟨0, by omega, rfl, rfl, fun j h => by omega⟩
  case round =>
    obtain ⟨i, hiq, rfl, rfl, hno⟩ := hrel
    have HNO := Lib.hid hno.out; clear hno
    by_cases hlt : i < n
    · obtain ⟨g, o, rfl, hia⟩ := HI.out (by have := HN.out; omega)
      have hx := hia i (by have := HN.out; omega)
      clear hia
      obtain ⟨x, hxx⟩ : ∃ x, x = l.getD i 0 := ⟨_, rfl⟩
      rw [← hxx] at hx
      have HX := Lib.hid hxx; clear hxx
      have hi2 : (i : Int) < n := by omega
      by_cases he : t = x
      · have HE : Hid (IdxP i l t) := Lib.hid (by unfold IdxP; rw [contains_at (i := i) (by have := HN.out; omega) (he.trans HX.out)]; simp)
        have hb : (t == x) = true := by simpa using he
        clear he
        go_wp2_with fail
        go_ret
        exact ⟨_, rfl, HE.out, rfl⟩
      · have HE := Lib.hid he
        have hb : (t == x) = false := by simpa using he
        clear he
        go_wp2_with fail
        go_roundg (n - (i + 1))
        case measure => omega
        case rel => exact ⟨i + 1, by omega, by go_num, rfl, (show Aside _ from fun j hj => by
          by_cases e : j = i
          · subst e; intro e2; exact HE.out (by rw [HX.out]; exact e2.symm)
          · exact HNO.out j (by omega))⟩
    · have hi2 : ¬ (i : Int) < n := by omega
      have HE : Hid (IdxP (-1) l t) := Lib.hid (by
        unfold IdxP; rw [contains_no (fun j hj => HNO.out j (by have := HN.out; omega))]; rfl)
      go_wp2_with fail
      go_ret
      exact ⟨_, rfl, HE.out, rfl⟩
set_option maxRecDepth 100000 in
set_option maxHeartbeats 4000000 in
theorem contains_any (s : Option Addr) (c : Nat) (l : List Int) (t : Int) (hl : l.length ≤ 65536) (w : World) (hi : IntsV w s l) : Calls Tryd.prog 66 #[.slice s l.length c, .int .i64 t] w fun e w' => e = .returned (.bool (l.contains t)) ∧ w = w' := by
  have HI := Lib.hid (index_any s c l t hl w hi); clear hi hl
  generalize l.length = n at HI ⊢
  go_enter Tryd.func66, Tryd.ntmps66
  go_wp2_with (go_at_call 79; refine HI.out.mono ?_; rintro e w1 ⟨x, rfl, hx, rfl⟩; have HX := Lib.hid hx; clear hx)
  go_ret
  exact ⟨by rw [← HX.out]; rfl, rfl⟩

theorem right_lens {p : Pt} (h : right p = true) : p.p0.length ≤ 65536 ∧ p.p1.length ≤ 65536 ∧ p.ms.length ≤ 65536 ∧ ∀ i, i < p.ms.length → (p.ms.getD i default).t.length ≤ 65536 := by
  simp only [right, Bool.and_eq_true, decide_eq_true_eq] at h
  have d := preOk_len h.1.1.2
  have e := preOk_len h.1.2
  refine ⟨by omega, by omega, by omega, fun i hi => ?_⟩
  have := List.all_eq_true.1 h.2 _ (List.getElem_mem hi)
  rw [List.getD_eq_getElem?_getD, List.getElem?_eq_getElem hi]
  simp only [msOk, Bool.and_eq_true, decide_eq_true_eq] at this
  simp only [Option.getD_some]; omega
theorem any_take {ms : List Ms} {i : Nat} (h : i < ms.length) (h1 : (ms.take i).any (fun m => m.t.contains 7) = false) (h2 : (ms.getD i default).t.contains 7 = false) : (ms.take (i + 1)).any (fun m => m.t.contains 7) = false := by
  rw [take_next h, List.any_append, h1]; simpa using h2
theorem any_at {ms : List Ms} {i : Nat} (h : i < ms.length) (h2 : (ms.getD i default).t.contains 7 = true) : (ms.any fun m => m.t.contains 7) = true := by
  rw [List.any_eq_true]
  refine ⟨ms.getD i default, ?_, h2⟩
  rw [List.getD_eq_getElem?_getD, List.getElem?_eq_getElem h]; exact List.getElem_mem _
set_option maxRecDepth 100000 in
set_option maxHeartbeats 4000000 in
theorem hasPsk_any (x : Sl) (p : Pt) (hr : right p = true) (w : World) (hp : PatA w x p) : Calls Tryd.prog 54 #[patV x p] w fun e w' => e = .returned (.bool (psk p)) ∧ Below w.heap.size w w' := by
  obtain ⟨nm, p0, p1, ms⟩ := p
  obtain ⟨s0, c0, s1, c1, s2, c2⟩ := x
  obtain ⟨⟨n0, n1⟩, -⟩ := right_pre hr
  have hsh := right_lens hr
  obtain ⟨l0, l1, l2, l3⟩ := hsh
  have HP : Hid (psk ⟨nm, p0, p1, ms⟩ = ms.any fun m => m.t.contains 7) := Lib.hid (met_flat 7 ms)
  clear hr
  unfold patV
  obtain ⟨i0, i1, im, -⟩ := hp
  simp only at i0 i1 im n0 n1 ⊢
  have d0 : p0.contains 7 = false := by simpa using n0
  have d1 : p1.contains 7 = false := by simpa using n1
  clear n0 n1
  have hbx := (Below.refl w.heap.size w).alloc (Nat.le_refl _) (.cells #[.string ⟨nm.toArray⟩, .slice s0 p0.length c0, .slice s1 p1.length c1, .slice s2 ms.length c2] 29)
  have HC0 := Lib.hid (contains_any s0 c0 p0 7 l0 _ (i0.keep hbx))
  have HC1 := Lib.hid (contains_any s1 c1 p1 7 l1 _ (i1.keep hbx))
  rw [d0] at HC0
  rw [d1] at HC1
  have HIM := Lib.hid im
  have HB := Lib.hid hbx
  clear d0 d1 i0 i1 im hbx
  have x0 : ∀ w, (Instr.index 26 (.agg #[.slice s0 p0.length c0, .slice s1 p1.length c1]) (.int .i64 0)).run Tryd.prog w = .ok (.slice s0 p0.length c0) w := fun _ => by kernel_rfl
  have x1 : ∀ w, (Instr.index 26 (.agg #[.slice s0 p0.length c0, .slice s1 p1.length c1]) (.int .i64 1)).run Tryd.prog w = .ok (.slice s1 p1.length c1) w := fun _ => by kernel_rfl
  obtain ⟨n, hn⟩ : ∃ n, n = ms.length := ⟨_, rfl⟩
  rw [← hn] at HC0 HC1 HB ⊢
  have hn65 : (n : Int) ≤ 65536 := by simp only at l2; omega
  have HN := Lib.hid hn; clear hn
  have HL := Lib.hid l3; clear l0 l1 l2 l3
  go_enter Tryd.func54, Tryd.ntmps54
  go_wp2_with fail
  refine wp_loop_rounds 3 ?_
  rw [rounds_succ]
  go_wp2_with (go_at_call 66; refine HC0.out.mono ?_; rintro e w1 ⟨rfl, rfl⟩)
  rw [rounds_succ]
  go_wp2_with (go_at_call 66; refine HC1.out.mono ?_; rintro e w1 ⟨rfl, rfl⟩)
  rw [rounds_succ]
  go_wp2_with fail
  clear x0 x1
  go_loopg [18] n (fun q u18 wr => ∃ i : Nat, i + q = n ∧ u18 = .int .i64 i ∧ Aside ((ms.take i).any (fun m => m.t.contains 7) = false) ∧ Aside (Below w.heap.size w wr))
  case atStart => exact ⟨0, by omega, rfl, rfl, HB.out⟩
  case round =>
    obtain ⟨i, hiq, rfl, hno, hbel⟩ := hrel
    have HNO := Lib.hid hno.out; clear hno
    have HBR := Lib.hid hbel.out; clear hbel
    by_cases hlt : i < n
    · obtain ⟨g, o, rfl, hia⟩ := (HIM.out.keep HBR.out) (by have := HN.out; omega)
      obtain ⟨q0, sx, cx, q1, qi⟩ := hia i (by have := HN.out; omega)
      clear hia
      obtain ⟨fr, hf⟩ : ∃ fr, fr = (ms.getD i default).fr := ⟨_, rfl⟩
      rw [← hf] at q0
      clear hf
      have HCT := Lib.hid (contains_any sx cx (ms.getD i default).t 7 (HL.out i (by have := HN.out; omega)) _ (qi.keep ((Below.refl _ _).alloc (Nat.le_refl _) (.cells #[.int .i64 fr, .slice sx (ms.getD i default).t.length cx] 68))))
      obtain ⟨m, hm⟩ : ∃ m, m = (ms.getD i default).t.length := ⟨_, rfl⟩
      rw [← hm] at q1 HCT
      clear hm qi
      have hi2 : (i : Int) < n := by omega
      have HB2 : Hid (Below w.heap.size w (wr.alloc (.cells #[.int .i64 fr, .slice sx m cx] 68))) := Lib.hid (HBR.out.alloc HBR.out.size _)
      cases hc : (ms.getD i default).t.contains 7 with
      | true =>
        have HV : Hid (psk ⟨nm, p0, p1, ms⟩ = true) := Lib.hid (by rw [HP.out]; exact any_at (i := i) (by have := HN.out; omega) hc)
        rw [hc] at HCT
        clear hc
        go_wp2_with (go_at_call 66; refine HCT.out.mono ?_; rintro e w1 ⟨rfl, rfl⟩)
        go_ret
        exact ⟨by rw [HV.out]; rfl, HB2.out⟩
      | false =>
        have HC := Lib.hid hc
        rw [hc] at HCT
        clear hc
        go_wp2_with (go_at_call 66; refine HCT.out.mono ?_; rintro e w1 ⟨rfl, rfl⟩)
        go_roundg (n - (i + 1))
        case measure => omega
        case rel => exact ⟨i + 1, by omega, by go_num, (show Aside _ from any_take (by have := HN.out; omega) HNO.out HC.out), HB2.out⟩
    · have hi2 : ¬ (i : Int) < n := by omega
      have HV : Hid (psk ⟨nm, p0, p1, ms⟩ = false) := Lib.hid (by
        have h3 := HNO.out
        rw [List.take_of_length_le (by have := HN.out; omega)] at h3
        rw [HP.out]; exact h3)
      go_wp2_with fail
      go_ret
      exact ⟨by rw [HV.out]; rfl, HBR.out⟩
end Go.Proofs.YtahbbojhdkillaaDoor
