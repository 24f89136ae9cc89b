/- The walk of TermCompares: the order of refs is the document's, turned the other way round, 0 just of the same; it is an order. -/
import Derived.Test.YtemjhhjalnlmlaaDoorLOdds
namespace Go.Proofs.YtemjhhjalnlmlaaDoor
open Go.RowKit Go.Maps

set_option maxHeartbeats 1000000 in
theorem compares_long (s : Option Addr) (n c : Nat) (hn : 40 < n) (hm : n ≤ maxLen) (x : Int) (hx : i64ok x) (y : Int) (hy : i64ok y) (z : Int) (hz : i64ok z) (w : World) (hs : Shp w) :
    Calls Tryd.prog 4 #[.slice s n c, .int .i64 x, .int .i64 y, .int .i64 z] w fun e w' => e = .returned (.bool true) ∧ Below w.heap.size w w' := by
  unfold maxLen at hm
  have HW := Lib.hid (awake_any w hs)
  have hn1 : (40 : Int) < (n : Int) := by omega
  go_enter Tryd.func4, Tryd.ntmps4
  go_wp2_with (go_at_call 11; refine HW.out.mono ?_; rintro e w5 ⟨rfl, hb5⟩)
  go_ret
  exact ⟨rfl, hb5⟩

theorem bld_wf (lim : Nat) {ns : List Nd} (hok : ∀ i, i < ns.length → (ns.getD i zN).ok) : WF (bld lim ns) := by
  have key : ∀ k, k ≤ ns.length → WF (bld lim (ns.take k)) := by
    intro k
    induction k with
    | zero => intro _; exact WF.one
    | succ k ih => intro hk; rw [bld_succ (by omega)]; exact mk_wf (ih (by omega)) (hok k (by omega))
  have := key ns.length (Nat.le_refl _)
  rw [List.take_length] at this
  exact this

theorem below2 {B : Nat} {w0 w1 w2 : World} (h : Below B w0 w1) (hB : B ≤ w1.heap.size) (h2 : Below w1.heap.size w1 w2) : Below B w0 w2 := h.trans (h2.mono hB)
end Go.Proofs.YtemjhhjalnlmlaaDoor
