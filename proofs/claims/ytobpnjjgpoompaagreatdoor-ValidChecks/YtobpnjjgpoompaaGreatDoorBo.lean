/- Layer 6: walks of the closure take and of modify. -/
import Derived.Test.YtobpnjjgpoompaaGreatDoorBn
namespace Go.Proofs.YtobpnjjgpoompaaGreatDoor
open Go.RowKit Go.Shelf

/-- What is left of a name, in memory. -/
def restO (r : ByteArray) : Obj := .cells #[.string r] 9 (0, 0)
theorem rest_cell {w : World} {rb : Nat} {r : ByteArray} (h : w.heap[rb]? = some (restO r)) : w.cell? ⟨rb, 0, none⟩ = some (.string r) ∧ w.frozen? ⟨rb, 0, none⟩ = false := ⟨(cell_of_row w _ 0 _ _ _ h).trans rfl, frozen_of_row _ _ _ _ _ h⟩
theorem rest_set {w : World} {rb : Nat} {r s : ByteArray} (h : w.heap[rb]? = some (restO r)) : (w.setCell ⟨rb, 0, none⟩ (.string s)).heap[rb]? = some (restO s) := by
  simp only [World.setCell, Array.getElem?_modify, if_true, h]
  rfl
theorem rest_noInt {w : World} {rb : Nat} {r : ByteArray} (h : w.heap[rb]? = some (restO r)) : NoInt w rb := fun j m e => by
  rw [cell_of_row w rb j _ _ _ h] at e
  match j, e with
  | 0, e => cases e
  | j + 1, e => simp at e
def takeV (rb : Nat) : Value := .func (.func 39) #[] #[.pointer (some ⟨rb, 0, none⟩)]
def trimB (r t : ByteArray) : ByteArray := ⟨(Lib.trimPrefix r.data.toList t.data.toList).toArray⟩

set_option maxRecDepth 100000 in
set_option maxHeartbeats 1000000 in
theorem take_any (t r : ByteArray) (rb : Nat) (w : World) (h : w.heap[rb]? = some (restO r)) : Calls Tryz.prog 39 #[.string t, .pointer (some ⟨rb, 0, none⟩)] w fun e w' => e = .returned (.bool (Lib.hasPrefix r.data.toList t.data.toList)) ∧ w' = w.setCell ⟨rb, 0, none⟩ (.string (trimB r t)) := by
  obtain ⟨c0, z0⟩ := rest_cell h
  have HC := Lib.hid (fun w => cutPre_any r t w)
  obtain ⟨b, hb⟩ : ∃ b, b = Lib.hasPrefix r.data.toList t.data.toList := ⟨_, rfl⟩
  obtain ⟨y, hy⟩ : ∃ y : ByteArray, y = trimB r t := ⟨_, rfl⟩
  have hy' : y = ⟨(Lib.trimPrefix r.data.toList t.data.toList).toArray⟩ := hy
  simp only [← hb, ← hy'] at HC
  rw [← hb, ← hy]
  clear hb hy hy' h
  go_enter Tryz.func39, Tryz.ntmps39
  go_wp2_with (go_at_call 40; refine (HC.out _).mono ?_; rintro e w1 ⟨rfl, rfl⟩)
  go_ret
  exact ⟨rfl, rfl⟩

/-- While a modifier is looked for. -/
structure Md (w : World) (rb : Nat) (r : ByteArray) (x : Sl) (p : Pt) (wr : World) : Prop where
  pb : wr.heap[w.heap.size]? = some (.cells #[.string ⟨p.nm.toArray⟩, .slice x.s0 p.p0.length x.c0, .slice x.s1 p.p1.length x.c1, .slice x.s2 p.ms.length x.c2] 26 (0, 0))
  res : wr.heap[w.heap.size + 1]? = some (.cells #[.string ⟨#[]⟩, .slice none 0 0, .slice none 0 0, .slice none 0 0] 26 (0, 0))
  rc : wr.heap[rb]? = some (restO r)
  gr : w.grownBy wr (some rb)
  lt : rb < w.heap.size
  pat : PatA wr x p
theorem Md.set {w : World} {rb : Nat} {r : ByteArray} {x : Sl} {p : Pt} {wr : World} (h : Md w rb r x p wr) (s : ByteArray) : Md w rb s x p (wr.setCell ⟨rb, 0, none⟩ (.string s)) := by
  have hl := h.lt
  refine ⟨(Below.heap_setCell _ _ _ _ (by simp; omega)).trans h.pb, (Below.heap_setCell _ _ _ _ (by simp; omega)).trans h.res, rest_set h.rc, grown_trans h.gr (grown_setCell wr rb 0 _), h.lt, ?_⟩
  exact h.pat.other (rest_noInt h.rc) (fun j hj => Below.heap_setCell _ _ _ _ (by simpa using hj))
theorem grown_below {w wr wx : World} {g : Nat} (h : w.grownBy wr (some g)) (hb : Below wr.heap.size wr wx) : w.grownBy wx (some g) :=
  ⟨hb.os.trans h.os, hb.tape.trans h.tape, hb.output.trans h.output, Nat.le_trans h.size hb.size, fun k hk hr => (hb.block k (Nat.lt_of_lt_of_le hk h.size)).trans (h.block k hk hr)⟩
theorem Md.keep {w : World} {rb : Nat} {r : ByteArray} {x : Sl} {p : Pt} {wr wx : World} (h : Md w rb r x p wr) (hb : Below wr.heap.size wr wx) : Md w rb r x p wx :=
  ⟨(hb.block _ (lt_of_heap h.pb)).trans h.pb, (hb.block _ (lt_of_heap h.res)).trans h.res, (hb.block _ (lt_of_heap h.rc)).trans h.rc, grown_below h.gr hb, h.lt, h.pat.keep hb⟩
theorem md_new {w : World} {rb : Nat} {r : ByteArray} {x : Sl} {p : Pt} (h : w.heap[rb]? = some (restO r)) (hp : PatA w x p) : Md w rb r x p ((w.alloc (.cells #[.string ⟨p.nm.toArray⟩, .slice x.s0 p.p0.length x.c0, .slice x.s1 p.p1.length x.c1, .slice x.s2 p.ms.length x.c2] 26)).alloc (.cells #[.string ⟨#[]⟩, .slice none 0 0, .slice none 0 0, .slice none 0 0] 26)) := by
  have hb := pb_new w x p
  exact ⟨hb.pb, hb.res, (hb.bel.block _ (lt_of_heap h)).trans h, grown_of_below hb.bel, lt_of_heap h, hp.keep hb.bel⟩
/-- What a modifier leaves. -/
def MdPost (w : World) (rb : Nat) (m : Pt × Int × List UInt8) (e : Ending) (w' : World) : Prop :=
  ∃ y, e = .returned (.tuple #[patV y m.1, .int .i64 m.2.1]) ∧ PatA w' y m.1 ∧ w'.heap[rb]? = some (restO ⟨m.2.2.toArray⟩) ∧ w.grownBy w' (some rb)
theorem md_end {w : World} {rb : Nat} {r : ByteArray} {x y : Sl} {p q : Pt} {wr w1 : World} (h : Md w rb r x p wr) (hb : Below wr.heap.size wr w1) (hy : PatA w1 y q) (u0 u1 u2 u3 : Value) :
    PatA ((((w1.setCell ⟨w.heap.size + 1, 0, none⟩ u0).setCell ⟨w.heap.size + 1, 1, none⟩ u1).setCell ⟨w.heap.size + 1, 2, none⟩ u2).setCell ⟨w.heap.size + 1, 3, none⟩ u3) y q ∧
    ((((w1.setCell ⟨w.heap.size + 1, 0, none⟩ u0).setCell ⟨w.heap.size + 1, 1, none⟩ u1).setCell ⟨w.heap.size + 1, 2, none⟩ u2).setCell ⟨w.heap.size + 1, 3, none⟩ u3).heap[rb]? = some (restO r) ∧
    w.grownBy ((((w1.setCell ⟨w.heap.size + 1, 0, none⟩ u0).setCell ⟨w.heap.size + 1, 1, none⟩ u1).setCell ⟨w.heap.size + 1, 2, none⟩ u2).setCell ⟨w.heap.size + 1, 3, none⟩ u3) (some rb) := by
  have h1 := h.keep hb
  have hl := h.lt
  have ho := set4_only w1 (w.heap.size + 1) u0 u1 u2 u3
  refine ⟨hy.other (noInt_res h1.res) ho, (ho rb (by omega)).trans h1.rc, ⟨h1.gr.os, h1.gr.tape, h1.gr.output, by simpa using h1.gr.size, fun k hk hr => (ho k (by omega)).trans (h1.gr.block k hk hr)⟩⟩
end Go.Proofs.YtobpnjjgpoompaaGreatDoor
