/- Layer 6: the reference's texts. -/
import Derived.Test.YtkpikggpbcnghaaDoorLb6
namespace Go.Proofs.YtkpikggpbcnghaaDoor
open Go.RowKit Go.Shelf

def txtY (n : List UInt8) : List UInt8 := match bsAt n basePs with | some p => prn p | none => []
theorem bs_self : ∀ k, k < 15 → bsAt (basePs.getD k zP).nm basePs = some (basePs.getD k zP) := by decide
theorem txt_at {k : Nat} (h : k < 15) : txtY (basePs.getD k zP).nm = prn (basePs.getD k zP) := by unfold txtY; rw [bs_self k h]
theorem bs_no {n : List UInt8} (h : bsAt n basePs = none) : ∀ k, k < 15 → n ≠ (basePs.getD k zP).nm := fun k hk e => by
  rw [e, bs_self k hk] at h; cases h

set_option maxRecDepth 100000 in
set_option maxHeartbeats 2000000 in
theorem refText_no (n : ByteArray) (w : World) (h : bsAt n.data.toList basePs = none) : Calls Tryd.prog 13 #[.string n] w fun e w' => e = .returned (.string ⟨#[]⟩) ∧ w = w' := by
  have h0 : (n.toList == [78]) = false := by rw [ByteArray.toList_eq]; exact beq_eq_false_iff_ne.2 (bs_no h 0 (by omega))
  have h1 : (n.toList == [75]) = false := by rw [ByteArray.toList_eq]; exact beq_eq_false_iff_ne.2 (bs_no h 1 (by omega))
  have h2 : (n.toList == [88]) = false := by rw [ByteArray.toList_eq]; exact beq_eq_false_iff_ne.2 (bs_no h 2 (by omega))
  have h3 : (n.toList == [78, 78]) = false := by rw [ByteArray.toList_eq]; exact beq_eq_false_iff_ne.2 (bs_no h 3 (by omega))
  have h4 : (n.toList == [78, 75]) = false := by rw [ByteArray.toList_eq]; exact beq_eq_false_iff_ne.2 (bs_no h 4 (by omega))
  have h5 : (n.toList == [78, 88]) = false := by rw [ByteArray.toList_eq]; exact beq_eq_false_iff_ne.2 (bs_no h 5 (by omega))
  have h6 : (n.toList == [88, 78]) = false := by rw [ByteArray.toList_eq]; exact beq_eq_false_iff_ne.2 (bs_no h 6 (by omega))
  have h7 : (n.toList == [88, 75]) = false := by rw [ByteArray.toList_eq]; exact beq_eq_false_iff_ne.2 (bs_no h 7 (by omega))
  have h8 : (n.toList == [88, 88]) = false := by rw [ByteArray.toList_eq]; exact beq_eq_false_iff_ne.2 (bs_no h 8 (by omega))
  have h9 : (n.toList == [75, 78]) = false := by rw [ByteArray.toList_eq]; exact beq_eq_false_iff_ne.2 (bs_no h 9 (by omega))
  have h10 : (n.toList == [75, 75]) = false := by rw [ByteArray.toList_eq]; exact beq_eq_false_iff_ne.2 (bs_no h 10 (by omega))
  have h11 : (n.toList == [75, 88]) = false := by rw [ByteArray.toList_eq]; exact beq_eq_false_iff_ne.2 (bs_no h 11 (by omega))
  have h12 : (n.toList == [73, 78]) = false := by rw [ByteArray.toList_eq]; exact beq_eq_false_iff_ne.2 (bs_no h 12 (by omega))
  have h13 : (n.toList == [73, 75]) = false := by rw [ByteArray.toList_eq]; exact beq_eq_false_iff_ne.2 (bs_no h 13 (by omega))
  have h14 : (n.toList == [73, 88]) = false := by rw [ByteArray.toList_eq]; exact beq_eq_false_iff_ne.2 (bs_no h 14 (by omega))
  clear h
  go_enter Tryd.func13, Tryd.ntmps13
  go_wp2
  go_ret
  exact ⟨rfl, rfl⟩
set_option maxRecDepth 100000 in
set_option maxHeartbeats 1000000 in
theorem refText_0 (w : World) : Calls Tryd.prog 13 #[.string ⟨#[78]⟩] w fun e w' => e = .returned (.string ⟨#[78, 58, 10, 60, 45, 32, 115, 10, 46, 46, 46, 10, 45, 62, 32, 101, 44, 32, 101, 115, 10]⟩) ∧ w = w' := by
  go_enter Tryd.func13, Tryd.ntmps13
  go_wp2
  go_ret
  exact ⟨rfl, rfl⟩
set_option maxRecDepth 100000 in
set_option maxHeartbeats 1000000 in
theorem refText_1 (w : World) : Calls Tryd.prog 13 #[.string ⟨#[75]⟩] w fun e w' => e = .returned (.string ⟨#[75, 58, 10, 45, 62, 32, 115, 10, 60, 45, 32, 115, 10, 46, 46, 46, 10, 45, 62, 32, 101, 44, 32, 101, 115, 44, 32, 115, 115, 10]⟩) ∧ w = w' := by
  go_enter Tryd.func13, Tryd.ntmps13
  go_wp2
  go_ret
  exact ⟨rfl, rfl⟩
set_option maxRecDepth 100000 in
set_option maxHeartbeats 1000000 in
theorem refText_2 (w : World) : Calls Tryd.prog 13 #[.string ⟨#[88]⟩] w fun e w' => e = .returned (.string ⟨#[88, 58, 10, 60, 45, 32, 115, 10, 46, 46, 46, 10, 45, 62, 32, 101, 44, 32, 101, 115, 44, 32, 115, 44, 32, 115, 115, 10]⟩) ∧ w = w' := by
  go_enter Tryd.func13, Tryd.ntmps13
  go_wp2
  go_ret
  exact ⟨rfl, rfl⟩
set_option maxRecDepth 100000 in
set_option maxHeartbeats 1000000 in
theorem refText_3 (w : World) : Calls Tryd.prog 13 #[.string ⟨#[78, 78]⟩] w fun e w' => e = .returned (.string ⟨#[78, 78, 58, 10, 45, 62, 32, 101, 10, 60, 45, 32, 101, 44, 32, 101, 101, 10]⟩) ∧ w = w' := by
  go_enter Tryd.func13, Tryd.ntmps13
  go_wp2
  go_ret
  exact ⟨rfl, rfl⟩
set_option maxRecDepth 100000 in
set_option maxHeartbeats 1000000 in
theorem refText_4 (w : World) : Calls Tryd.prog 13 #[.string ⟨#[78, 75]⟩] w fun e w' => e = .returned (.string ⟨#[78, 75, 58, 10, 60, 45, 32, 115, 10, 46, 46, 46, 10, 45, 62, 32, 101, 44, 32, 101, 115, 10, 60, 45, 32, 101, 44, 32, 101, 101, 10]⟩) ∧ w = w' := by
  go_enter Tryd.func13, Tryd.ntmps13
  go_wp2
  go_ret
  exact ⟨rfl, rfl⟩
set_option maxRecDepth 100000 in
set_option maxHeartbeats 1000000 in
theorem refText_5 (w : World) : Calls Tryd.prog 13 #[.string ⟨#[78, 88]⟩] w fun e w' => e = .returned (.string ⟨#[78, 88, 58, 10, 45, 62, 32, 101, 10, 60, 45, 32, 101, 44, 32, 101, 101, 44, 32, 115, 44, 32, 101, 115, 10]⟩) ∧ w = w' := by
  go_enter Tryd.func13, Tryd.ntmps13
  go_wp2
  go_ret
  exact ⟨rfl, rfl⟩
set_option maxRecDepth 100000 in
set_option maxHeartbeats 1000000 in
theorem refText_6 (w : World) : Calls Tryd.prog 13 #[.string ⟨#[88, 78]⟩] w fun e w' => e = .returned (.string ⟨#[88, 78, 58, 10, 45, 62, 32, 101, 10, 60, 45, 32, 101, 44, 32, 101, 101, 10, 45, 62, 32, 115, 44, 32, 115, 101, 10]⟩) ∧ w = w' := by
  go_enter Tryd.func13, Tryd.ntmps13
  go_wp2
  go_ret
  exact ⟨rfl, rfl⟩
set_option maxRecDepth 100000 in
set_option maxHeartbeats 1000000 in
theorem refText_7 (w : World) : Calls Tryd.prog 13 #[.string ⟨#[88, 75]⟩] w fun e w' => e = .returned (.string ⟨#[88, 75, 58, 10, 60, 45, 32, 115, 10, 46, 46, 46, 10, 45, 62, 32, 101, 44, 32, 101, 115, 10, 60, 45, 32, 101, 44, 32, 101, 101, 10, 45, 62, 32, 115, 44, 32, 115, 101, 10]⟩) ∧ w = w' := by
  go_enter Tryd.func13, Tryd.ntmps13
  go_wp2
  go_ret
  exact ⟨rfl, rfl⟩
set_option maxRecDepth 100000 in
set_option maxHeartbeats 1000000 in
theorem refText_8 (w : World) : Calls Tryd.prog 13 #[.string ⟨#[88, 88]⟩] w fun e w' => e = .returned (.string ⟨#[88, 88, 58, 10, 45, 62, 32, 101, 10, 60, 45, 32, 101, 44, 32, 101, 101, 44, 32, 115, 44, 32, 101, 115, 10, 45, 62, 32, 115, 44, 32, 115, 101, 10]⟩) ∧ w = w' := by
  go_enter Tryd.func13, Tryd.ntmps13
  go_wp2
  go_ret
  exact ⟨rfl, rfl⟩
set_option maxRecDepth 100000 in
set_option maxHeartbeats 1000000 in
theorem refText_9 (w : World) : Calls Tryd.prog 13 #[.string ⟨#[75, 78]⟩] w fun e w' => e = .returned (.string ⟨#[75, 78, 58, 10, 45, 62, 32, 115, 10, 46, 46, 46, 10, 45, 62, 32, 101, 10, 60, 45, 32, 101, 44, 32, 101, 101, 44, 32, 115, 101, 10]⟩) ∧ w = w' := by
  go_enter Tryd.func13, Tryd.ntmps13
  go_wp2
  go_ret
  exact ⟨rfl, rfl⟩
set_option maxRecDepth 100000 in
set_option maxHeartbeats 1000000 in
theorem refText_10 (w : World) : Calls Tryd.prog 13 #[.string ⟨#[75, 75]⟩] w fun e w' => e = .returned (.string ⟨#[75, 75, 58, 10, 45, 62, 32, 115, 10, 60, 45, 32, 115, 10, 46, 46, 46, 10, 45, 62, 32, 101, 44, 32, 101, 115, 44, 32, 115, 115, 10, 60, 45, 32, 101, 44, 32, 101, 101, 44, 32, 115, 101, 10]⟩) ∧ w = w' := by
  go_enter Tryd.func13, Tryd.ntmps13
  go_wp2
  go_ret
  exact ⟨rfl, rfl⟩
set_option maxRecDepth 100000 in
set_option maxHeartbeats 1000000 in
theorem refText_11 (w : World) : Calls Tryd.prog 13 #[.string ⟨#[75, 88]⟩] w fun e w' => e = .returned (.string ⟨#[75, 88, 58, 10, 45, 62, 32, 115, 10, 46, 46, 46, 10, 45, 62, 32, 101, 10, 60, 45, 32, 101, 44, 32, 101, 101, 44, 32, 115, 101, 44, 32, 115, 44, 32, 101, 115, 10]⟩) ∧ w = w' := by
  go_enter Tryd.func13, Tryd.ntmps13
  go_wp2
  go_ret
  exact ⟨rfl, rfl⟩
set_option maxRecDepth 100000 in
set_option maxHeartbeats 1000000 in
theorem refText_12 (w : World) : Calls Tryd.prog 13 #[.string ⟨#[73, 78]⟩] w fun e w' => e = .returned (.string ⟨#[73, 78, 58, 10, 45, 62, 32, 101, 44, 32, 115, 10, 60, 45, 32, 101, 44, 32, 101, 101, 44, 32, 115, 101, 10]⟩) ∧ w = w' := by
  go_enter Tryd.func13, Tryd.ntmps13
  go_wp2
  go_ret
  exact ⟨rfl, rfl⟩
set_option maxRecDepth 100000 in
set_option maxHeartbeats 1000000 in
theorem refText_13 (w : World) : Calls Tryd.prog 13 #[.string ⟨#[73, 75]⟩] w fun e w' => e = .returned (.string ⟨#[73, 75, 58, 10, 60, 45, 32, 115, 10, 46, 46, 46, 10, 45, 62, 32, 101, 44, 32, 101, 115, 44, 32, 115, 44, 32, 115, 115, 10, 60, 45, 32, 101, 44, 32, 101, 101, 44, 32, 115, 101, 10]⟩) ∧ w = w' := by
  go_enter Tryd.func13, Tryd.ntmps13
  go_wp2
  go_ret
  exact ⟨rfl, rfl⟩
set_option maxRecDepth 100000 in
set_option maxHeartbeats 1000000 in
theorem refText_14 (w : World) : Calls Tryd.prog 13 #[.string ⟨#[73, 88]⟩] w fun e w' => e = .returned (.string ⟨#[73, 88, 58, 10, 45, 62, 32, 101, 44, 32, 115, 10, 60, 45, 32, 101, 44, 32, 101, 101, 44, 32, 115, 101, 44, 32, 115, 44, 32, 101, 115, 10]⟩) ∧ w = w' := by
  go_enter Tryd.func13, Tryd.ntmps13
  go_wp2
  go_ret
  exact ⟨rfl, rfl⟩
set_option maxRecDepth 100000 in
theorem refText_any (n : ByteArray) (w : World) : Calls Tryd.prog 13 #[.string n] w fun e w' => e = .returned (.string ⟨(txtY n.data.toList).toArray⟩) ∧ w = w' := by
  cases h : bsAt n.data.toList basePs with
  | none =>
    refine (refText_no n w h).mono fun e w' ⟨he, hw⟩ => ⟨?_, hw⟩
    rw [he]; unfold txtY; rw [h]
  | some p =>
    obtain ⟨hm, hn⟩ := bsAt_mem h
    obtain ⟨k, hk, e2⟩ := List.getElem_of_mem hm
    have hk15 : k < 15 := by rw [base_len] at hk; exact hk
    have hg : basePs.getD k zP = p := by rw [List.getD_eq_getElem?_getD, List.getElem?_eq_getElem hk, e2]; rfl
    have hd : n = ⟨((basePs.getD k zP).nm).toArray⟩ := by rw [hg, hn]
    have ht : txtY n.data.toList = prn (basePs.getD k zP) := by unfold txtY; rw [h, hg]
    rw [ht, hd]
    clear ht hd hg e2 hn hm h
    match k, hk15 with
    | 0, _ => exact refText_0 w
    | 1, _ => exact refText_1 w
    | 2, _ => exact refText_2 w
    | 3, _ => exact refText_3 w
    | 4, _ => exact refText_4 w
    | 5, _ => exact refText_5 w
    | 6, _ => exact refText_6 w
    | 7, _ => exact refText_7 w
    | 8, _ => exact refText_8 w
    | 9, _ => exact refText_9 w
    | 10, _ => exact refText_10 w
    | 11, _ => exact refText_11 w
    | 12, _ => exact refText_12 w
    | 13, _ => exact refText_13 w
    | 14, _ => exact refText_14 w
end Go.Proofs.YtkpikggpbcnghaaDoor
