/- Layer 6: what the document fixes of XXfallback (the law's awake). -/
import Derived.Test.YtkdcdnkfcbngaaaGreatDoorBr
namespace Go.Proofs.YtkdcdnkfcbngaaaGreatDoor
open Go.RowKit Go.Shelf

def xfB : ByteArray := ⟨xfT.toArray⟩
theorem xf_pr : prnR xfP = xfB.data.toList ∧ prnE xfP = 0 := by
  unfold prnR prnE
  rw [xf_right, xf_prn]; exact ⟨rfl, rfl⟩
set_option maxRecDepth 100000 in
set_option maxHeartbeats 2000000 in
theorem awake_any (w : World) (hE : Eb w) : Calls Tryz.prog 5 #[] w fun e w' => e = .returned (.bool true) ∧ Below w.heap.size w w' := by
  have HN := Lib.hid (named_any ⟨xfN.toArray⟩ w hE)
  rw [show (⟨xfN.toArray⟩ : ByteArray).data.toList = xfN from rfl, xf_nm.1, xf_nm.2] at HN
  unfold xfN at HN
  have HE := Lib.hid hE; clear hE
  go_enter Tryz.func5, Tryz.ntmps5
  go_wp2_with (first
    | (go_at_call 15; refine HN.out.mono ?_; rintro e w1 ⟨x, rfl, hx1, hb1⟩; have HX1 := Lib.hid hx1; have HB1 := Lib.hid hb1; clear hx1 hb1; simp only [patV, xfP, xfN, List.length_cons, List.length_nil, Nat.zero_add, Nat.reduceAdd])
    | (go_at_call 6; refine (print_any x xfP _ (HX1.out.keep ((Below.refl _ _).alloc (Nat.le_refl _) _)) (HE.out.en.keep (HB1.out.alloc HB1.out.size _))).mono ?_; rintro e w2 ⟨rfl, hb2⟩; rw [xf_pr.1, xf_pr.2]; obtain ⟨k0, k1, k2, k3, hbw⟩ := box4 hb2; have HB2 := Lib.hid (HB1.out.trans (hbw.mono HB1.out.size)); clear hb2 hbw; simp only [xfB, xfT])
    | (go_at_call 16; refine (names_any _ (HE.out.keep HB2.out)).mono ?_; rintro e w3 ⟨s3, c3, rfl, -, hb3⟩; have HB3 := Lib.hid (HB2.out.trans (hb3.mono HB2.out.size)); clear hb3))
  go_ret
  exact ⟨rfl, HB3.out⟩
end Go.Proofs.YtkdcdnkfcbngaaaGreatDoor
