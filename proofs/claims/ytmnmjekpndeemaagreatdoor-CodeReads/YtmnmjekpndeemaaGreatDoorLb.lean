/- How large what a law builds is, and its texts: for laws of a seat without CodeApart. -/
import Derived.Test.YtmnmjekpndeemaaGreatDoorSd
namespace Go.Proofs.YtmnmjekpndeemaaGreatDoor
open Go.RowKit Go.Maps Go.Shelf

/-- What a law of layer 2 has of its list of nodes. -/
theorem built_at {w : World} {v : Value} {ns : List Nd} (h : BuiltAt w v ns) {lim : Nat} (hl : limZ lim = lim) {W : World} (hW : Below w.heap.size w W) : Calls Tryz.prog 5 #[.int .i64 lim, v] W (BuiltPost lim ns W) := h lim lim hl W hW
theorem bld_len (lim : Nat) (hl : 1 ≤ lim) (ns : List Nd) : (bld lim ns).length ≤ ns.length + 1 ∧ (bld lim ns).length ≤ lim := by
  have key : ∀ k, k ≤ ns.length → (bld lim (ns.take k)).length ≤ k + 1 ∧ (bld lim (ns.take k)).length ≤ lim := by
    intro k
    induction k with
    | zero => intro _; simp [bld]; omega
    | succ k ih =>
      intro hk
      have := ih (by omega)
      have h2 := mk_len (d := ns.getD k zN) this.2
      rw [bld_succ (by omega)]
      omega
  have := key ns.length (Nat.le_refl _)
  rw [List.take_length] at this
  exact this
theorem bld_small (lim : Nat) (hl : 1 ≤ lim) (ns : List Nd) (hn : ns.length ≤ 40) : (bld lim ns).length ≤ 41 := by
  have := (bld_len lim hl ns).1
  omega
theorem txt_small {L : List Nd} (hL : WF L) (hs : L.length ≤ 41) (x : Int) : (txt L x).length ≤ 16384 := by
  have h1 := prn_len (nums L x) (nums_ok hL (by omega) x)
  have h2 : (nums L x).length = (rows L x).length := by simp [nums]
  have h3 := (rows_acc hL x).len
  unfold txt
  omega

theorem new_cell (w : World) (i : Nat) (u : Array Value) (t : TypeId) (v : Value) (h : u[i]? = some v) : (w.alloc (.cells u t)).cell? ⟨w.heap.size, i, none⟩ = some v := by
  rw [cell_of_row _ _ i _ _ _ (heap_alloc_new w (.cells u t))]; exact h

end Go.Proofs.YtmnmjekpndeemaaGreatDoor
