/- Layer 3: walks: what is known, the Pub of a secret, a new search. -/
import Derived.Test.YtemigefkkjgehaaDoorXc
import Derived.Lib.Hide
namespace Go.Proofs.YtemigefkkjgehaaDoor
open Go.RowKit Go.Maps

/-- What is known, in memory. -/
structure Kw (w : World) (bk b mk n : Nat) (hv : Value) (K : Int → Bool) : Prop where
  box : w.heap[bk]? = some (.cells #[.pointer (some ⟨b, 0, none⟩), hv, .map (some mk)] 76 (0, 0))
  kn : MapU w mk n K
theorem Sst.kw {c : Cx} {w : World} {G : Gh} {s : Sx} (h : Sst c w G s) : Kw w c.bk c.b c.mq (cnt c.L.length s.K) c.hv s.K := ⟨h.kb.1, h.kn⟩
section
variable {w : World} {bk b mk n : Nat} {hv : Value} {K : Int → Bool}
theorem Kw.c0 (h : Kw w bk b mk n hv K) : w.cell? ⟨bk, 0, none⟩ = some (.pointer (some ⟨b, 0, none⟩)) := by rw [cell_of_row w bk 0 _ _ _ h.box]; rfl
theorem Kw.c1 (h : Kw w bk b mk n hv K) : w.cell? ⟨bk, 1, none⟩ = some hv := by rw [cell_of_row w bk 1 _ _ _ h.box]; rfl
theorem Kw.c2 (h : Kw w bk b mk n hv K) : w.cell? ⟨bk, 2, none⟩ = some (.map (some mk)) := by rw [cell_of_row w bk 2 _ _ _ h.box]; rfl
theorem Kw.keep (h : Kw w bk b mk n hv K) {w' : World} (hb : Below w.heap.size w w') : Kw w' bk b mk n hv K := ⟨(hb.block _ (lt_of_heap h.box)).trans h.box, h.kn.keep (hb.block _ h.kn.lt)⟩
end
theorem Sst.s0 {c : Cx} {w : World} {G : Gh} {s : Sx} (h : Sst c w G s) : w.cell? ⟨c.bs, 0, none⟩ = some (.pointer (some ⟨c.bk, 0, none⟩)) := by rw [cell_of_row w c.bs 0 _ _ _ h.sb.1]; rfl
theorem Sst.s1 {c : Cx} {w : World} {G : Gh} {s : Sx} (h : Sst c w G s) : w.cell? ⟨c.bs, 1, none⟩ = some (.map (some c.ma)) := by rw [cell_of_row w c.bs 1 _ _ _ h.sb.1]; rfl

set_option maxRecDepth 100000 in
set_option maxHeartbeats 1000000 in
theorem knows_any {bk b mk n : Nat} {hv : Value} {K : Int → Bool} (r : Int) (hr : i64ok r) (w : World) (h : Kw w bk b mk n hv K) :
    Calls Tryd.prog 16 #[.pointer (some ⟨bk, 0, none⟩), .int .i64 r] w fun e w' => e = .returned (.bool (K r)) ∧ Below w.heap.size w w' := by
  have c2 := h.c2
  have hl := h.kn.look hr
  have hlt := lt_of_heap h.box
  generalize K r = y at *
  clear h
  go_enter Tryd.func16, Tryd.ntmps16
  go_wp2_with fail
  go_ret
  exact ⟨rfl, (Below.refl _ _).alloc (Nat.le_refl _) _⟩

set_option maxRecDepth 100000 in
set_option maxHeartbeats 1000000 in
theorem public_any {c : Cx} {w : World} {G : Gh} {s : Sx} (h : Sst c w G s) (x : Int) (hx : i64ok x) :
    Calls Tryd.prog 78 #[.pointer (some ⟨c.bs, 0, none⟩), .int .i64 x] w fun e w' => e = .returned (.int .i64 (pubR c.L x)) ∧ Below w.heap.size w w' := by
  have c0 := h.s0
  have k0 := h.kw.c0
  have HF := Lib.hid (find_any c.b c.g c.bm c.cap c.lim c.L 2 0 x 0 0 w h.ar ⟨by simp [i64ok], by simp [u64ok], hx, by simp [i64ok], by simp [i64ok]⟩)
  clear h
  unfold pubR
  cases hi : ix ⟨2, 0, x, 0, 0⟩ c.L with
  | none =>
    rw [hi] at HF
    clear hi
    go_enter Tryd.func78, Tryd.ntmps78
    go_wp2_with (go_at_call 51; refine HF.out.mono ?_; rintro e w1 ⟨rfl, hb1⟩; simp only [Option.getD_none, Option.isSome_none])
    go_ret
    exact ⟨rfl, hb1⟩
  | some i =>
    rw [hi] at HF
    clear hi
    go_enter Tryd.func78, Tryd.ntmps78
    go_wp2_with (go_at_call 51; refine HF.out.mono ?_; rintro e w1 ⟨rfl, hb1⟩; simp only [Option.getD_some, Option.isSome_some])
    go_ret
    exact ⟨rfl, hb1⟩
end Go.Proofs.YtemigefkkjgehaaDoor
