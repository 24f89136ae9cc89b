/- Layer 5: what the document fixes of NK (the law's awake). -/
import Derived.Test.YtdihgfpnogiblaaDoorMk
namespace Go.Proofs.YtdihgfpnogiblaaDoor
open Go.RowKit Go.Shelf

def nkP : Pt := ⟨[78, 75], [], [2], [⟨0, [1, 4]⟩, ⟨1, [1, 3]⟩]⟩
def nkB : ByteArray := ⟨#[78, 75, 58, 10, 60, 45, 32, 115, 10, 46, 46, 46, 10, 45, 62, 32, 101, 44, 32, 101, 115, 10, 60, 45, 32, 101, 44, 32, 101, 101, 10]⟩
theorem nk_right : right nkP = true := by decide
theorem nk_prn : prn nkP = nkB.data.toList := by decide
theorem nk_ps : psP nkB.data.toList = nkP ∧ psE nkB.data.toList = 0 := by
  have h := isTxt_prn nk_right
  have g := guess_prn nk_right
  rw [nk_prn] at h g
  unfold psP psE
  rw [h, g]; exact ⟨rfl, rfl⟩
theorem nk_pr : prnR nkP = nkB.data.toList ∧ prnE nkP = 0 := by
  unfold prnR prnE
  rw [nk_right, nk_prn]; exact ⟨rfl, rfl⟩

set_option maxRecDepth 100000 in
set_option maxHeartbeats 4000000 in
theorem awake_any (w : World) (hE : En w) : Calls Tryd.prog 10 #[] w fun e w' => e = .returned (.bool true) ∧ Below w.heap.size w w' := by
  have HP := Lib.hid (parse_any nkB w hE)
  rw [nk_ps.1, nk_ps.2] at HP
  have HE := Lib.hid hE; clear hE
  go_enter Tryd.func10, Tryd.ntmps10
  go_wp2_with (first
    | (go_at_call 15; refine HP.out.mono ?_; rintro e w1 ⟨x, rfl, hx1, hb1⟩; have HX1 := Lib.hid hx1; have HB1 := Lib.hid hb1; clear hx1 hb1; simp only [patV, nkP, List.length_cons, List.length_nil, Nat.zero_add, Nat.reduceAdd])
    | (go_at_call 11; refine (print_any x nkP _ (HX1.out.keep ((Below.refl _ _).alloc (Nat.le_refl _) _)) (HE.out.keep (HB1.out.alloc HB1.out.size _))).mono ?_; rintro e w2 ⟨rfl, hb2⟩; rw [nk_pr.1, nk_pr.2]; obtain ⟨k0, k1, k2, k3, hbw⟩ := box4 hb2; have HB2 := Lib.hid hbw; clear hb2 hbw; simp only [nkB])
    | (go_at_call 19; refine (name_any 7 _ (HE.out.keep (HB1.out.trans (HB2.out.mono HB1.out.size)))).mono ?_; rintro e w3 ⟨rfl, rfl⟩; simp only [nmT, isTok, namesL])
    | (go_at_call 14; refine (right_any x nkP _ (HX1.out.keep HB2.out)).mono ?_; rintro e w4 ⟨rfl, hb4⟩; rw [nk_right]; have HB4 := Lib.hid hb4; clear hb4))
  go_ret
  have h2 := HB1.out.trans (HB2.out.mono HB1.out.size)
  exact ⟨rfl, h2.trans (HB4.out.mono h2.size)⟩
end Go.Proofs.YtdihgfpnogiblaaDoor
