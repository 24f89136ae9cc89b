/- The law TokenEnds. -/
import Derived.Test.YtdihgfpnogiblaaDoorLa
namespace Go.Proofs.YtdihgfpnogiblaaDoor
open Go.RowKit Go.Shelf

theorem parse_no {s : ByteArray} (h : isTxt s.data.toList = false) (w : World) (hE : En w) : Calls Tryd.prog 15 #[.string s] w fun e w' => ∃ x, e = .returned (.tuple #[patV x zP, .int .i64 2]) ∧ PatA w' x zP ∧ Below w.heap.size w w' := by
  have := parse_any s w hE
  unfold psP psE at this
  rw [h] at this
  exact this
theorem same_zero (x : Sl) (w : World) (hx : PatA w x zP) : Calls Tryd.prog 17 #[patV x zP, patV nilS zP] w fun e w' => e = .returned (.bool true) ∧ Below w.heap.size w w' :=
  (same_any x nilS zP zP w hx (patA_zero w) zero_short zero_short).mono fun _ _ ⟨he, hb⟩ => ⟨by rw [he]; simp, hb⟩
def endT (S0 S1 S2 S3 : ByteArray) : Nat → ByteArray
  | 0 => S0
  | 1 => S1
  | 2 => S2
  | _ => S3

set_option maxRecDepth 100000 in
set_option maxHeartbeats 8000000 in
theorem ends_good (x : Sl) (p : Pt) (w : World) (hE : En w) (hp : PatA w x p) : Calls Tryd.prog 8 #[patV x p] w fun e w' => e = .returned (.bool true) ∧ Below w.heap.size w w' := by
  have HE := Lib.hid hE; clear hE
  have HP := Lib.hid hp; clear hp
  have HA := Lib.hid (fun wx (hb : Below w.heap.size w wx) => awake_any wx (HE.out.keep hb))
  have HF := Lib.hid (fun wx (hb : Below w.heap.size w wx) => few_any x p wx (HP.out.keep hb))
  have HPR := Lib.hid (fun wx (hb : Below w.heap.size w wx) => print_any x p wx (HP.out.keep hb) (HE.out.keep hb))
  have HW := Lib.hid (bx_new w x p)
  clear HP
  unfold patV at *
  cases f1 : fewB p with
  | false =>
    rw [f1] at HF
    clear f1
    go_enter Tryd.func8, Tryd.ntmps8
    go_wp2_with (first
      | (go_at_call 11; refine (HPR.out _ HW.out.bel).mono ?_; rintro e w1 ⟨rfl, hb1⟩; have HB1 := Lib.hid (HW.out.keep hb1); clear hb1; obtain ⟨a0, a1, a2, a3⟩ := HB1.out.cells)
      | (go_at_call 9; refine (HF.out _ HB1.out.bel).mono ?_; rintro e w2 ⟨rfl, hb2⟩; have HB2 := Lib.hid (HB1.out.keep hb2).bel; clear hb2)
      | (go_at_call 10; refine (HA.out _ HB2.out).mono ?_; rintro e w9 ⟨rfl, hb9⟩; have HB9 := Lib.hid (HB2.out.trans (hb9.mono HB2.out.size)); clear hb9))
    go_ret
    exact ⟨rfl, HB9.out⟩
  | true =>
    rw [f1] at HF
    clear f1
    cases hr : right p with
    | false =>
      have he : prnE p = 1 := by unfold prnE; rw [hr]; rfl
      rw [he] at HPR
      clear hr he
      go_enter Tryd.func8, Tryd.ntmps8
      go_wp2_with (first
        | (go_at_call 11; refine (HPR.out _ HW.out.bel).mono ?_; rintro e w1 ⟨rfl, hb1⟩; have HB1 := Lib.hid (HW.out.keep hb1); clear hb1; obtain ⟨a0, a1, a2, a3⟩ := HB1.out.cells)
        | (go_at_call 9; refine (HF.out _ HB1.out.bel).mono ?_; rintro e w2 ⟨rfl, hb2⟩; have HB2 := Lib.hid (HB1.out.keep hb2).bel; clear hb2)
        | (go_at_call 10; refine (HA.out _ HB2.out).mono ?_; rintro e w9 ⟨rfl, hb9⟩; have HB9 := Lib.hid (HB2.out.trans (hb9.mono HB2.out.size)); clear hb9))
      go_ret
      exact ⟨rfl, HB9.out⟩
    | true =>
      have he : prnE p = 0 := by unfold prnE; rw [hr]; rfl
      have hs : prnR p = prn p := by unfold prnR; rw [hr]; rfl
      obtain ⟨S, hS⟩ : ∃ S : ByteArray, S = ⟨(prn p).toArray⟩ := ⟨_, rfl⟩
      rw [he, hs, ← hS] at HPR
      have hln : S.size = (prn p).length := by rw [hS, arr_size]
      have h500 := prn_len hr
      obtain ⟨lx, cx, hlx, _⟩ := prn_last hr
      have h2 : 2 ≤ (prn p).length := by rw [hlx]; simp
      obtain ⟨S0, hS0⟩ : ∃ S0 : ByteArray, S0 = ⟨(prn p ++ [10]).toArray⟩ := ⟨_, rfl⟩
      obtain ⟨S1, hS1⟩ : ∃ S1 : ByteArray, S1 = ⟨((prn p).take ((prn p).length - 1)).toArray⟩ := ⟨_, rfl⟩
      obtain ⟨S2, hS2⟩ : ∃ S2 : ByteArray, S2 = ⟨(prn p ++ [32]).toArray⟩ := ⟨_, rfl⟩
      obtain ⟨S3, hS3⟩ : ∃ S3 : ByteArray, S3 = ⟨([32] ++ prn p).toArray⟩ := ⟨_, rfl⟩
      have e0 := add_any hS (b := [10]) (B := ⟨#[10]⟩) rfl hS0 (by omega) (by simp)
      have e2 := add_any hS (b := [32]) (B := ⟨#[32]⟩) rfl hS2 (by omega) (by simp)
      have e3 := add_any (a := [32]) (A := ⟨#[32]⟩) rfl hS hS3 (by simp) (by omega)
      have HN : Hid (∀ k, k < 4 → isTxt (endT S0 S1 S2 S3 k).data.toList = false) := Lib.hid (fun k hk => by
        match k, hk with
        | 0, _ => show isTxt S0.data.toList = false; rw [hS0]; exact ends_a hr
        | 1, _ => show isTxt S1.data.toList = false; rw [hS1]; exact ends_b hr
        | 2, _ => show isTxt S2.data.toList = false; rw [hS2]; exact ends_c
        | 3, _ => show isTxt S3.data.toList = false; rw [hS3]; exact ends_d)
      have hex : S.extract 0 (S.size - 1) = S1 := by
        apply ByteArray.ext
        apply Array.ext'
        rw [Lib.extract_from_zero, hS1, hln, hS]
      have l1 : ¬ (S.size : Int) < 1 := by omega
      have l2 : (1 : Int) ≤ S.size := by omega
      have l3 : (S.size : Int) ≤ 500 := by omega
      clear he hs hS hS0 hS1 hS2 hS3 hlx h2 hln h500 hr
      go_enter Tryd.func8, Tryd.ntmps8
      go_wp2_with (first
        | (go_at_call 11; refine (HPR.out _ HW.out.bel).mono ?_; rintro e w1 ⟨rfl, hb1⟩; have HB1 := Lib.hid (HW.out.keep hb1); clear hb1; obtain ⟨a0, a1, a2, a3⟩ := HB1.out.cells)
        | (go_at_call 9; refine (HF.out _ HB1.out.bel).mono ?_; rintro e w2 ⟨rfl, hb2⟩; have HB2 := Lib.hid (HB1.out.keep hb2).bel; clear hb2))
      have HST : Hid ((w2.alloc (.cells #[.string S0, .string S1, .string S2, .string S3] 9)).heap[w2.heap.size]? = some (.cells #[.string S0, .string S1, .string S2, .string S3] 9 (0, 0)) ∧ Below w.heap.size w (w2.alloc (.cells #[.string S0, .string S1, .string S2, .string S3] 9))) := Lib.hid ⟨heap_alloc_new w2 _, HB2.out.alloc HB2.out.size _⟩
      generalize w2.alloc (.cells #[.string S0, .string S1, .string S2, .string S3] 9) = W3 at *
      clear e0 e2 e3 hex a0 a1 a2 a3 HB1
      go_loopg [6, 7, 8, 40] 4 (fun q _ _ _ u40 wr => ∃ k : Nat, k + q = 4 ∧ u40 = .int .i64 k ∧ Aside (wr.heap[w2.heap.size]? = some (.cells #[.string S0, .string S1, .string S2, .string S3] 9 (0, 0)) ∧ Below w.heap.size w wr))
      case atStart => exact ⟨0, by omega, rfl, HST.out⟩
      case round =>
        obtain ⟨k, hkq, rfl, hr⟩ := hrel
        have HR := Lib.hid hr.out
        clear hr
        by_cases hlt : k < 4
        · obtain ⟨T, hT⟩ : ∃ T, T = endT S0 S1 S2 S3 k := ⟨_, rfl⟩
          have c0 : wr.cell? ⟨w2.heap.size, k, none⟩ = some (.string T) := by
            rw [cell_of_row wr _ k _ _ _ HR.out.1, hT]
            match k, hlt with
            | 0, _ => rfl
            | 1, _ => rfl
            | 2, _ => rfl
            | 3, _ => rfl
          have HTN : Hid (isTxt T.data.toList = false) := Lib.hid (by rw [hT]; exact HN.out k hlt)
          clear hT
          have hk2 : (k : Int) < 4 := by omega
          go_wp2_with (first
            | (go_at_call 15; refine (parse_no HTN.out _ (HE.out.keep HR.out.2)).mono ?_; rintro e w3 ⟨y, rfl, hy, hb3⟩; have HY := Lib.hid hy; have HB3 := Lib.hid hb3; clear hy hb3; simp only [patV, zP, List.length_nil])
            | (go_at_call 17; refine (same_zero y _ (HY.out.keep ((Below.refl _ _).alloc (Nat.le_refl _) _))).mono ?_; rintro e w4 ⟨rfl, hb4⟩; have HB4 := Lib.hid (HB3.out.trans ((((Below.refl _ _).alloc (Nat.le_refl _) _).trans (hb4.mono (by simp))).mono HB3.out.size)); clear hb4))
          go_roundg (4 - (k + 1))
          case measure => omega
          case rel => exact ⟨k + 1, by omega, by go_num, (show _ ∧ _ from ⟨(HB4.out.block _ (lt_of_heap HR.out.1)).trans HR.out.1, HR.out.2.trans (HB4.out.mono HR.out.2.size)⟩)⟩
        · have hk2 : ¬ (k : Int) < 4 := by omega
          go_wp2_with (go_at_call 10; refine (HA.out _ HR.out.2).mono ?_; rintro e w9 ⟨rfl, hb9⟩; have HB9 := Lib.hid (HR.out.2.trans (hb9.mono HR.out.2.size)); clear hb9)
          go_ret
          exact ⟨rfl, HB9.out⟩
end Go.Proofs.YtdihgfpnogiblaaDoor
