/- A text that grows in memory; the library's functions, by their contracts. -/
import Derived.Test.YtmnmjekpndeemaaGreatDoorRe
import Derived.Test.YtmnmjekpndeemaaGreatDoorSh
import Derived.Lib.BufferKept
import Derived.Lib.ItoaLen
namespace Go.Proofs.YtmnmjekpndeemaaGreatDoor
open Go.RowKit Go.Maps Go.Shelf

theorem itoa_nat (n : Nat) : Lib.itoa (n : Int) = Lib.decDigits n := by unfold Lib.itoa; rw [if_neg (by omega)]; simp

/-- Bytes that the call owns. -/
def Tx (B : Nat) (w : World) (v : Value) (l : List UInt8) : Prop := w.ownsRow B 5 1 v l.length (Lib.byteCells l)
theorem Tx.nil (B : Nat) (w : World) : Tx B w (.slice none 0 0) [] := World.ownsRow_nil _ _ _ _

/-- Nothing has changed but rows of bytes of the call's own, and what is new. -/
structure Fr (B : Nat) (w w' : World) : Prop where
  bel : Below B w w'
  oth : Lib.OthersKept 5 none w w'
theorem Fr.refl (B : Nat) (w : World) : Fr B w w := ⟨Below.refl _ _, Lib.OthersKept.refl _ _ _⟩
theorem Fr.trans {B : Nat} {w w1 w2 : World} (h : Fr B w w1) (h' : Fr B w1 w2) : Fr B w w2 := ⟨h.bel.trans h'.bel, h.oth.trans h'.oth⟩
theorem Fr.of {B : Nat} {w w' : World} (hB : B ≤ w.heap.size) (h : Below w.heap.size w w') : Fr B w w' := ⟨h.mono hB, (Lib.OthersKept.refl _ _ _).below h⟩
theorem Fr.obj {B : Nat} {w w' : World} (h : Fr B w w') {k : Nat} {o : Obj} (ho : w.heap[k]? = some o) (hn : ∀ c fz, o ≠ .cells c 5 fz) : w'.heap[k]? = some o := h.oth k o ho (by simp) hn
theorem Fr.cells {B : Nat} {w w' : World} (h : Fr B w w') {k : Nat} {u : Array Value} {t : TypeId} {z : Nat × Nat} (ho : w.heap[k]? = some (.cells u t z)) (hn : t ≠ 5) : w'.heap[k]? = some (.cells u t z) := h.obj ho (fun c fz e => hn (by injection e))
theorem Fr.map {B : Nat} {w w' : World} (h : Fr B w w') {m n : Nat} {f : Int → Option Int} (hm : MapZ w m n f) : MapZ w' m n f := by
  obtain ⟨es, c, he⟩ := hm.obj
  exact hm.keep ((h.obj he (fun _ _ e => by cases e)).trans he.symm)
theorem Fr.row {B B' : Nat} {w w' : World} (h : Fr B w w') {t : TypeId} {z n : Nat} {v : Value} {xs : List Value} (hr : w.ownsRow B' t z v n xs) (hn : t ≠ 5) : w'.ownsRow B' t z v n xs := by
  obtain ⟨e, h'⟩ := hr
  refine ⟨e, ?_⟩
  rcases h' with h' | ⟨g, cap, cur, hv, hb, hg, rest⟩
  · exact .inl h'
  · exact .inr ⟨g, cap, cur, hv, hb, h.cells hg hn, rest⟩
theorem Tx.keep {B : Nat} {w w' : World} {v : Value} {l : List UInt8} (h : Tx B w v l) (hb : Below w.heap.size w w') : Tx B w' v l := row_below h hb
/-- A byte is appended. -/
theorem Tx.byte {B : Nat} {w w1 w2 : World} {v v' : Value} {l : List UInt8} {c : UInt8} (hB : B ≤ w.heap.size) (h : Tx B w v l) (hb : Below w.heap.size w w1) (ho : w2.ownsRow B 5 1 v' (l.length + 1) (Lib.byteCells l ++ [.int .u8 c.toNat])) (hg : w1.grownBy w2 v.ownBlock) : Tx B w2 v' (l ++ [c]) ∧ Fr B w w2 := by
  refine ⟨?_, (Fr.of hB hb).trans ⟨(Below.refl _ _).grown hg (Nat.le_trans hB hb.size) (fun k e => (h.lt k e).1), (Lib.OthersKept.refl _ _ _).grown hg (Lib.ownsRow_kind (row_below h hb))⟩⟩
  unfold Tx Lib.byteCells at *
  simpa using ho

theorem appendInt_any (B : Nat) (i : Nat) (hi : i < 9223372036854775808) (v : Value) (l : List UInt8) (w0 w : World) (hE : Env w0) (hw0 : w0.heap.size = B) (hb : Below B w0 w) (h : Tx B w v l) (hl : l.length ≤ 16777216) :
    Calls Tryz.prog 24 #[v, .int .i64 i, .int .i64 10] w fun e w' => ∃ v' l', e = .returned v' ∧ Hid (l' = l ++ Lib.decDigits i) ∧ Tx B w' v' l' ∧ Fr B w w' := by
  subst hw0
  have hc := Any.strconv_AppendInt_10 Tryz.laysM176 w0.heap.size l.length (i : Int) (by omega) (by omega) v (Lib.byteCells l) w h hb.size (by omega) ((Lib.tabBelow_of_tabIs hE.pow).on hb)
  refine hc.mono ?_
  rintro e w' ⟨v', rfl, h1, h2, h3⟩
  refine ⟨v', _, rfl, Lib.hid rfl, ?_, h2, h3⟩
  rw [itoa_nat] at h1
  change w'.ownsRow w0.heap.size 5 1 v' _ _ at h1
  unfold Tx Lib.byteCells at *
  simpa using h1

set_option maxRecDepth 100000 in
set_option maxHeartbeats 1000000 in
theorem appendUint_any (B : Nat) (i : Nat) (hi : i < 18446744073709551616) (v : Value) (l : List UInt8) (w0 w : World) (hE : Env w0) (hw0 : w0.heap.size = B) (hb : Below B w0 w) (h : Tx B w v l) (hl : l.length ≤ 16777216) :
    Calls Tryz.prog 25 #[v, .int .u64 i, .int .i64 10] w fun e w' => ∃ v' l', e = .returned v' ∧ Hid (l' = l ++ Lib.decDigits i) ∧ Tx B w' v' l' ∧ Fr B w w' := by
  subst hw0
  have HC := Lib.hid (Any.internal_strconv_AppendUint_10 Tryz.laysM288 w0.heap.size l.length i hi v (Lib.byteCells l) w h hb.size (by omega) ((Lib.tabBelow_of_tabIs hE.pow) w hb))
  obtain ⟨sp, c, rfl⟩ := own_slice h
  clear h hE hb
  go_enter Tryz.func25, Tryz.ntmps25
  go_wp2_with (go_at_call 47; refine HC.out.mono ?_; rintro e w' ⟨v', rfl, h1, h2, h3⟩)
  go_ret
  refine ⟨v', _, rfl, Lib.hid rfl, ?_, h2, h3⟩
  change w'.ownsRow w0.heap.size 5 1 v' _ _ at h1
  unfold Tx Lib.byteCells at *
  simpa using h1
end Go.Proofs.YtmnmjekpndeemaaGreatDoor
