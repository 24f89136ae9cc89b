/- Layer 5: the walk of Print. -/
import Derived.Test.YtahbbojhdkillaaDoorMf
namespace Go.Proofs.YtahbbojhdkillaaDoor
open Go.RowKit Go.Shelf

/-- Strings are put one behind the other. -/
theorem add_any {A B C : ByteArray} {a b : List UInt8} (hA : A = ⟨a.toArray⟩) (hB : B = ⟨b.toArray⟩) (hC : C = ⟨(a ++ b).toArray⟩) (ha : a.length ≤ 65536) (hb : b.length ≤ 65536) :
    ∀ w, (Op.stringOp .add A B).run Tryd.prog w = .ok (.string C) w := fun w => by
  rw [hA, hB, hC]; exact run_string_add_lists w _ _ (by omega) (by omega)
def preK (p : Pt) : Nat → List UInt8
  | 0 => []
  | 1 => preL 0 p.p0
  | _ => preT p
theorem preK_len {p : Pt} (h : right p = true) (k : Nat) : (preK p k).length ≤ 100 := by
  simp only [right, Bool.and_eq_true, decide_eq_true_eq] at h
  have b := preL_len 0 p.p0
  have c := preL_len 1 p.p1
  have d := preOk_len h.1.1.2
  have e := preOk_len h.1.2
  match k with
  | 0 => simp [preK]
  | 1 => simp only [preK]; omega
  | k + 2 => simp only [preK, preT, List.length_append]; omega
theorem ms_snoc {ms : List Ms} {i : Nat} (h : i < ms.length) {f : Int} {t : List Int} (hx : ms.getD i default = ⟨f, t⟩) : msT (ms.take (i + 1)) = msT (ms.take i) ++ lineT f t := by
  have : ms[i] = ⟨f, t⟩ := by rw [← hx, List.getD_eq_getElem?_getD, List.getElem?_eq_getElem h]; rfl
  rw [List.take_succ_eq_append_getElem h, this]
  simp [msT]
theorem ms_len {p : Pt} (h : right p = true) (i : Nat) : (msT (p.ms.take i)).length ≤ 400 := by
  simp only [right, Bool.and_eq_true, decide_eq_true_eq] at h
  have a := msT_len (p.ms.take i) (fun m hm' => List.all_eq_true.1 h.2 m (List.mem_of_mem_take hm'))
  rw [List.length_take] at a
  omega
def prnR (p : Pt) : List UInt8 := if right p then prn p else []
def prnE (p : Pt) : Int := if right p then 0 else 1

set_option maxRecDepth 100000 in
set_option maxHeartbeats 8000000 in
theorem print_any (x : Sl) (p : Pt) (w : World) (hp : PatA w x p) (hE : En w) : Calls Tryd.prog 38 #[patV x p] w fun e w' => e = .returned (.tuple #[.string ⟨(prnR p).toArray⟩, .int .i64 (prnE p)]) ∧ Below w.heap.size w w' := by
  have HRT := Lib.hid (fun wx (hb : Below w.heap.size w wx) => right_any x p wx (hp.keep hb))
  have HP := Lib.hid hp
  clear hp
  have HE := Lib.hid hE; clear hE
  cases hr : right p with
  | false =>
    have HR : Hid (prnR p = [] ∧ prnE p = 1) := Lib.hid (by simp [prnR, prnE, hr])
    rw [hr] at HRT
    obtain ⟨s0, c0, s1, c1, s2, c2⟩ := x
    unfold patV at *
    clear hr
    simp only at HRT ⊢
    go_enter Tryd.func38, Tryd.ntmps38
    go_wp2_with (go_at_call 39; refine (HRT.out _ ((Below.refl _ _).alloc (Nat.le_refl _) _)).mono ?_; rintro e w1 ⟨rfl, hb1⟩; have HB1 := Lib.hid (box4 hb1); clear hb1)
    go_ret2
    exact ⟨by rw [HR.out.1, HR.out.2]; rfl, HB1.out.2.2.2.2⟩
  | true =>
    have HR : Hid (prnR p = prn p ∧ prnE p = 0) := Lib.hid (by simp [prnR, prnE, hr])
    rw [hr] at HRT
    have HT := Lib.hid hr
    have HO : Hid ((1 ≤ p.ms.length ∧ p.ms.length ≤ 6) ∧ (∀ i, i < p.ms.length → msOk (p.ms.getD i default) = true) ∧ p.p0.length ≤ 2 ∧ p.p1.length ≤ 2) := Lib.hid (by
      simp only [right, Bool.and_eq_true, decide_eq_true_eq] at hr
      refine ⟨⟨hr.1.1.1.1.2, hr.1.1.1.2⟩, fun i hi => ?_, preOk_len hr.1.1.2, preOk_len hr.1.2⟩
      rw [List.getD_eq_getElem?_getD, List.getElem?_eq_getElem hi]
      exact List.all_eq_true.1 hr.2 _ (List.getElem_mem hi))
    clear hr
    obtain ⟨s0, c0, s1, c1, s2, c2⟩ := x
    have HI0 := Lib.hid HP.out.i0
    have HI1 := Lib.hid HP.out.i1
    have HIM := Lib.hid HP.out.im
    clear HP
    unfold patV at *
    simp only at HRT HI0 HI1 HIM ⊢
    obtain ⟨NB, hNB⟩ : ∃ NB : ByteArray, NB = ⟨p.nm.toArray⟩ := ⟨_, rfl⟩
    obtain ⟨n0, hn0⟩ : ∃ n, n = p.p0.length := ⟨_, rfl⟩
    obtain ⟨n1, hn1⟩ : ∃ n, n = p.p1.length := ⟨_, rfl⟩
    obtain ⟨n, hn⟩ : ∃ n, n = p.ms.length := ⟨_, rfl⟩
    rw [← hNB, ← hn0, ← hn1, ← hn] at HRT ⊢
    have HNB := Lib.hid hNB
    have HN0 := Lib.hid hn0
    have HN1 := Lib.hid hn1
    have HN := Lib.hid hn
    clear hNB hn0 hn1 hn
    have x0 : ∀ w, (Instr.index 26 (.agg #[.slice s0 n0 c0, .slice s1 n1 c1]) (.int .i64 0)).run Tryd.prog w = .ok (.slice s0 n0 c0) w := fun _ => by kernel_rfl
    have x1 : ∀ w, (Instr.index 26 (.agg #[.slice s0 n0 c0, .slice s1 n1 c1]) (.int .i64 1)).run Tryd.prog w = .ok (.slice s1 n1 c1) w := fun _ => by kernel_rfl
    go_enter Tryd.func38, Tryd.ntmps38
    go_wp2_with (go_at_call 39; refine (HRT.out _ ((Below.refl _ _).alloc (Nat.le_refl _) _)).mono ?_; rintro e w1 ⟨rfl, hb1⟩; obtain ⟨k0, k1, k2, k3, hbw⟩ := box4 hb1; clear hb1; have HBW := Lib.hid hbw; clear hbw)
    have HK := Lib.hid (show ∀ wx, Below w1.heap.size w1 wx → wx.cell? ⟨w.heap.size, 0, none⟩ = some (.string NB) ∧ wx.cell? ⟨w.heap.size, 3, none⟩ = some (.slice s2 n c2) from fun wx hb => ⟨by rw [hb.cell (p := ⟨w.heap.size, 0, none⟩) (World.block_lt_of_cell? _ _ k0)]; exact k0, by rw [hb.cell (p := ⟨w.heap.size, 3, none⟩) (World.block_lt_of_cell? _ _ k3)]; exact k3⟩)
    clear k0 k1 k2 k3
    go_loopg [4, 6, 7, 15] 2 (fun q u4 _ _ u15 wr => ∃ k : Nat, k + q = 2 ∧ u15 = .int .i64 k ∧ (∃ X, u4 = .string X ∧ Aside (X = ⟨(preK p k).toArray⟩)) ∧ Aside (Below w1.heap.size w1 wr))
    case atStart => exact ⟨0, by omega, rfl, ⟨_, rfl, rfl⟩, Below.refl _ _⟩
    case round =>
      obtain ⟨k, hkq, rfl, ⟨X, rfl, hX⟩, hbr⟩ := hrel
      have HBR := Lib.hid hbr.out
      have HX := Lib.hid hX.out
      clear hbr hX
      have HW := Lib.hid (HBW.out.trans (HBR.out.mono HBW.out.size))
      match k, hkq, HX with
      | 0, hkq, HX =>
        by_cases hz : n0 = 0
        · subst hz
          go_wp2_with fail
          go_roundg 1
          case measure => omega
          case rel => exact ⟨1, by omega, rfl, ⟨_, rfl, (show X = ⟨(preK p 1).toArray⟩ from by rw [HX.out]; simp [preK, preL, List.length_eq_zero_iff.1 HN0.out.symm])⟩, HBR.out⟩
        · have hz' : (0 : Int) < n0 := by omega
          obtain ⟨LB, hLB⟩ : ∃ LB : ByteArray, LB = ⟨(lineT 0 p.p0).toArray⟩ := ⟨_, rfl⟩
          have HLB := Lib.hid hLB
          have HPL := Lib.hid (printLine_any 0 (.inl rfl) p.p0 s0 c0 wr (HI0.out.keep HW.out) (by have := HN0.out; omega) (by have := HO.out.2.2.1; omega) (HE.out.keep HW.out))
          rw [← hLB, ← HN0.out] at HPL
          have ea := add_any HX.out hLB (C := LB) (by rw [hLB]; rfl) (Nat.le_trans (preK_len HT.out 0) (by omega)) (by have := lineT_len 0 p.p0; have := HO.out.2.2.1; omega)
          clear hLB
          go_wp2_with (go_at_call 50; refine HPL.out.mono ?_; rintro e w3 ⟨rfl, hb3⟩; have HB3 := Lib.hid hb3; clear hb3)
          go_roundg 1
          case measure => omega
          case rel => exact ⟨1, by omega, rfl, ⟨_, rfl, (show LB = ⟨(preK p 1).toArray⟩ from by rw [HLB.out]; simp [preK, preL]; intro e; have := HN0.out; rw [e] at this; simp at this; omega)⟩, (show Aside _ from HBR.out.trans (HB3.out.mono HBR.out.size))⟩
      | 1, hkq, HX =>
        by_cases hz : n1 = 0
        · subst hz
          go_wp2_with fail
          go_roundg 0
          case measure => omega
          case rel => exact ⟨2, by omega, rfl, ⟨_, rfl, (show X = ⟨(preK p 2).toArray⟩ from by rw [HX.out]; simp [preK, preT, preL, List.length_eq_zero_iff.1 HN1.out.symm])⟩, HBR.out⟩
        · have hz' : (0 : Int) < n1 := by omega
          obtain ⟨LB, hLB⟩ : ∃ LB : ByteArray, LB = ⟨(lineT 1 p.p1).toArray⟩ := ⟨_, rfl⟩
          obtain ⟨CB, hCB⟩ : ∃ CB : ByteArray, CB = ⟨(preT p).toArray⟩ := ⟨_, rfl⟩
          have HCB := Lib.hid hCB
          have HPL := Lib.hid (printLine_any 1 (.inr rfl) p.p1 s1 c1 wr (HI1.out.keep HW.out) (by have := HN1.out; omega) (by have := HO.out.2.2.2; omega) (HE.out.keep HW.out))
          rw [← hLB, ← HN1.out] at HPL
          have hpl : preL 1 p.p1 = lineT 1 p.p1 := by unfold preL; rw [if_neg (fun e => by have := HN1.out; rw [e] at this; simp at this; omega)]
          have ea := add_any HX.out hLB (C := CB) (by rw [hCB, ← hpl]; rfl) (Nat.le_trans (preK_len HT.out 1) (by omega)) (by have := lineT_len 1 p.p1; have := HO.out.2.2.2; omega)
          clear hLB hCB hpl
          go_wp2_with (go_at_call 50; refine HPL.out.mono ?_; rintro e w3 ⟨rfl, hb3⟩; have HB3 := Lib.hid hb3; clear hb3)
          go_roundg 0
          case measure => omega
          case rel => exact ⟨2, by omega, rfl, ⟨_, rfl, HCB.out⟩, (show Aside _ from HBR.out.trans (HB3.out.mono HBR.out.size))⟩
      | k + 2, hkq, HX =>
        obtain rfl : k = 0 := by omega
        obtain ⟨b0, b3⟩ := HK.out wr HBR.out
        obtain ⟨XE, hXE⟩ : ∃ XE : ByteArray, XE = ⟨(preE (preT p)).toArray⟩ := ⟨_, rfl⟩
        have HXE := Lib.hid hXE
        have hcase : (X = ⟨#[]⟩ ∧ XE = ⟨#[]⟩) ∨ ((X.toList == []) = false ∧ ∀ w, (Op.stringOp .add X ⟨#[46, 46, 46, 10]⟩).run Tryd.prog w = .ok (.string XE) w) := by
          have hx : X = ⟨(preT p).toArray⟩ := HX.out
          by_cases he : preT p = []
          · left
            rw [hx, hXE, he]; exact ⟨rfl, rfl⟩
          · right
            refine ⟨?_, add_any (b := [46, 46, 46, 10]) hx rfl (by rw [hXE]; unfold preE; rw [if_neg he]) (Nat.le_trans (preK_len HT.out 2) (by omega)) (by simp)⟩
            rw [hx, ByteArray.toList_eq]; simpa using he
        clear hXE HX
        rcases hcase with ⟨rfl, rfl⟩ | ⟨hne, ea⟩
        all_goals
          go_wp2_with fail
          clear b0 b3
          go_loopg [5, 9, 35] n (fun q u5 _ u35 wr2 => ∃ i : Nat, i + q = n ∧ u35 = .int .i64 i ∧ (∃ M, u5 = .string M ∧ Aside (M = ⟨(msT (p.ms.take i)).toArray⟩)) ∧ Aside (Below w1.heap.size w1 wr2))
          case atStart => exact ⟨0, by omega, rfl, ⟨_, rfl, (show _ = (⟨(msT (p.ms.take 0)).toArray⟩ : ByteArray) from by simp [msT])⟩, HBR.out⟩
          case round =>
            obtain ⟨i, hiq, rfl, ⟨M, rfl, hM⟩, hbr2⟩ := hrel
            have HBR2 := Lib.hid hbr2.out
            have HM := Lib.hid hM.out
            clear hbr2 hM
            have HW2 := Lib.hid (HBW.out.trans (HBR2.out.mono HBW.out.size))
            by_cases hlt : i < n
            · obtain ⟨g, o, rfl, hia⟩ := (HIM.out.keep HW2.out) (by have := HN.out; omega)
              obtain ⟨q0, sx, cx, q1, qi⟩ := hia i (by have := HN.out; omega)
              clear hia
              have hok := HO.out.2.1 i (by have := HN.out; omega)
              obtain ⟨f, hf⟩ : ∃ f, f = (p.ms.getD i default).fr := ⟨_, rfl⟩
              obtain ⟨t, ht⟩ : ∃ t, t = (p.ms.getD i default).t := ⟨_, rfl⟩
              rw [← hf] at q0
              rw [← ht] at q1 qi
              have HX : Hid (p.ms.getD i default = ⟨f, t⟩) := Lib.hid (by rw [hf, ht])
              rw [HX.out] at hok
              clear hf ht
              simp only [msOk, Bool.and_eq_true, Bool.or_eq_true, decide_eq_true_eq] at hok
              obtain ⟨⟨⟨hf, h1⟩, h12⟩, _⟩ := hok
              obtain ⟨LB, hLB⟩ : ∃ LB : ByteArray, LB = ⟨(lineT f t).toArray⟩ := ⟨_, rfl⟩
              obtain ⟨CB, hCB⟩ : ∃ CB : ByteArray, CB = ⟨(msT (p.ms.take (i + 1))).toArray⟩ := ⟨_, rfl⟩
              have HCB := Lib.hid hCB
              have HPL := Lib.hid (fun wx (hb : Below wr.heap.size wr wx) => printLine_any f hf t sx cx wx (qi.keep hb) h1 h12 (HE.out.keep (HW2.out.trans (hb.mono HW2.out.size))))
              rw [← hLB] at HPL
              have eb := add_any HM.out hLB (C := CB) (by rw [hCB, ms_snoc (by have := HN.out; omega) HX.out]) (Nat.le_trans (ms_len HT.out i) (by omega)) (by have := lineT_len f t; omega)
              clear hLB hCB qi hf h1 h12
              have hi2 : (i : Int) < n := by omega
              have hn6 : (n : Int) ≤ 6 := by have := HO.out.1.2; have := HN.out; omega
              go_wp2_with (go_at_call 50; refine (HPL.out _ ((Below.refl _ _).alloc (Nat.le_refl _) _)).mono ?_; rintro e w3 ⟨rfl, hb3⟩; have HB3 := Lib.hid (((Below.refl _ _).alloc (Nat.le_refl _) _).trans (hb3.mono (by simp)) : Below wr.heap.size wr w3); clear hb3)
              go_roundg (n - (i + 1))
              case measure => omega
              case rel => exact ⟨i + 1, by omega, by go_num, ⟨_, rfl, HCB.out⟩, (show Aside _ from HBR2.out.trans (HB3.out.mono HBR2.out.size))⟩
            · have hi2 : ¬ (i : Int) < n := by omega
              obtain ⟨b0, b3⟩ := HK.out wr HBR2.out
              have hin : p.ms.take i = p.ms := by rw [List.take_of_length_le]; have := HN.out; omega
              obtain ⟨R1, hR1⟩ : ∃ R1 : ByteArray, R1 = ⟨(p.nm ++ [58, 10]).toArray⟩ := ⟨_, rfl⟩
              obtain ⟨R2, hR2⟩ : ∃ R2 : ByteArray, R2 = ⟨(p.nm ++ [58, 10] ++ preE (preT p)).toArray⟩ := ⟨_, rfl⟩
              obtain ⟨R3, hR3⟩ : ∃ R3 : ByteArray, R3 = ⟨(prn p).toArray⟩ := ⟨_, rfl⟩
              have HR3 := Lib.hid hR3
              have pl := prn_len HT.out
              unfold prn at pl
              simp only [List.length_append] at pl
              have f1 := add_any HNB.out (b := [58, 10]) (B := ⟨#[58, 10]⟩) rfl hR1 (by omega) (by simp)
              have f2 := add_any hR1 HXE.out hR2 (by simp only [List.length_append]; omega) (by omega)
              have hMM := HM.out
              rw [hin] at hMM
              have f3 := add_any hR2 hMM hR3 (by simp only [List.length_append]; omega) (by omega)
              clear hR1 hR2 hR3 hMM hin pl
              go_wp2_with fail
              go_ret2
              exact ⟨by rw [HR.out.1, HR.out.2, ← HR3.out]; rfl, HW2.out⟩
end Go.Proofs.YtahbbojhdkillaaDoor
