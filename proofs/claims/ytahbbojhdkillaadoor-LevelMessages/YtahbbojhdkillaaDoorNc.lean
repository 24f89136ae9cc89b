/- Layer 5: the walks of the reference's name, line, Print. -/
import Derived.Test.YtahbbojhdkillaaDoorMk
namespace Go.Proofs.YtahbbojhdkillaaDoor
open Go.RowKit Go.Shelf

set_option maxRecDepth 100000 in
set_option maxHeartbeats 1000000 in
theorem rname_any (t : Int) (w : World) : Calls Tryd.prog 27 #[.int .i64 t] w fun e w' => e = .returned (.string ⟨(nmT t).toArray⟩) ∧ w = w' := by
  cases ht : isTok t with
  | false =>
    have h1 : (t == 1) = false := by simp [isTok] at ht; simp; omega
    have h2 : (t == 2) = false := by simp [isTok] at ht; simp; omega
    have h3 : (t == 3) = false := by simp [isTok] at ht; simp; omega
    have h4 : (t == 4) = false := by simp [isTok] at ht; simp; omega
    have h5 : (t == 5) = false := by simp [isTok] at ht; simp; omega
    have h6 : (t == 6) = false := by simp [isTok] at ht; simp; omega
    have h7 : (t == 7) = false := by simp [isTok] at ht; simp; omega
    have HT := Lib.hid ht; clear ht
    go_enter Tryd.func27, Tryd.ntmps27
    go_wp2
    go_ret
    exact ⟨by unfold nmT; rw [HT.out]; rfl, rfl⟩
  | true =>
    rcases tok_cases ht with rfl | rfl | rfl | rfl | rfl | rfl | rfl
    all_goals
      clear ht
      go_enter Tryd.func27, Tryd.ntmps27
      go_wp2
      go_ret
      exact ⟨rfl, rfl⟩
end Go.Proofs.YtahbbojhdkillaaDoor
