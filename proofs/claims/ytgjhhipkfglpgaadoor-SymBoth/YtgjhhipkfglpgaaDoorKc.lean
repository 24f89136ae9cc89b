/- Layer 11: a state's value; what stands beside an arena that changes. -/
import Derived.Test.YtgjhhipkfglpgaaDoorQh
import Derived.Test.YtgjhhipkfglpgaaDoorJd
import Derived.Test.YtgjhhipkfglpgaaDoorKb
namespace Go.Proofs.YtgjhhipkfglpgaaDoor
open Go.RowKit

/-- A box of another type is none of an arena's blocks. -/
theorem Ar.far {w : World} {b g bm cap lim p : Nat} {L : List Nd} {vs : Array Value} {T : TypeId} (h : Ar w b g bm cap lim L) (hp : w.heap[p]? = some (.cells vs T (0, 0))) (h1 : T ≠ 72) (h2 : T ≠ 53) : p ≠ b ∧ p ≠ g ∧ p ≠ bm := by
  refine ⟨fun e => ?_, fun e => ?_, fun e => ?_⟩
  · subst e; rw [h.box] at hp
    simp only [Option.some.injEq, Obj.cells.injEq] at hp
    exact h1 hp.2.1.symm
  · subst e
    obtain ⟨_, ⟨hx, _⟩ | ⟨g2, c2, cur, hx, _, hg, _⟩⟩ := h.own
    · simp at hx
    · simp only [Value.slice.injEq, Option.some.injEq, Addr.mk.injEq] at hx
      rw [← hx.1.1, hp] at hg
      simp only [Option.some.injEq, Obj.cells.injEq] at hg
      exact h2 hg.2.1
  · subst e
    obtain ⟨D, ⟨es, clock, hm, _⟩, _⟩ := h.reg
    rw [hp] at hm; simp at hm
/-- A box of another type through a call that changes an arena. -/
theorem Ar.boxKept {w w' : World} {b g bm cap lim p : Nat} {L : List Nd} {vs : Array Value} {T : TypeId} (hA : Ar w b g bm cap lim L) (hk : Kept w w' b g bm) (hp : w.heap[p]? = some (.cells vs T (0, 0))) (h1 : T ≠ 72) (h2 : T ≠ 53) : w'.heap[p]? = some (.cells vs T (0, 0)) := by
  obtain ⟨k1, k2, k3⟩ := hA.far hp h1 h2
  exact (hk.block p (lt_of_heap hp) k1 k2 k3).trans hp

section
variable {w wi : World} {b g bm cap lim : Nat} {L : List Nd}
theorem St.make (h : St w wi b g bm cap lim L) (hs : Shp w) (d : Nd) (hok : d.ok) : Calls Tryd.prog 18 #[.pointer (some ⟨b, 0, none⟩), agg d] wi fun e w' => ∃ g' cap', e = .returned (.tuple #[.int .i64 (mkR lim L d), .int .i64 (mkE lim L d)]) ∧ St w w' b g' bm cap' lim (mkL lim L d) ∧ Kept wi w' b g bm := by
  refine (mk_any b g bm cap lim L d.k d.n d.a d.b d.c wi h.ar (h.shp hs) hok).mono ?_
  rintro e w' ⟨g', cap', rfl, hA, hg, hk⟩
  exact ⟨g', cap', rfl, h.step hA hg hk, hk⟩
theorem St.seal (h : St w wi b g bm cap lim L) (hs : Shp w) (c : Cf) (ad p : Int) (hn : u64ok c.n) : Calls Tryd.prog 26 #[cfV c, .pointer (some ⟨b, 0, none⟩), .int .i64 ad, .int .i64 p] wi fun e w' => ∃ g' cap', e = .returned (.tuple #[cfV (slC lim L c ad p), .int .i64 (slR lim L c ad p), .int .i64 (slE lim L c ad p)]) ∧ St w w' b g' bm cap' lim (slL lim L c ad p) ∧ Kept wi w' b g bm := by
  refine (seal_any b g bm cap lim L c ad p wi h.ar (h.shp hs) hn).mono ?_
  rintro e w' ⟨g', cap', rfl, hA, hg, hk⟩
  exact ⟨g', cap', rfl, h.step hA hg hk, hk⟩
theorem St.opens (h : St w wi b g bm cap lim L) (c : Cf) (ad x : Int) (hn : u64ok c.n) : Calls Tryd.prog 28 #[cfV c, .pointer (some ⟨b, 0, none⟩), .int .i64 ad, .int .i64 x] wi fun e w' => e = .returned (.tuple #[cfV (opC L c ad x), .int .i64 (opR L c ad x), .int .i64 (opE L c ad x)]) ∧ St w w' b g bm cap lim L ∧ Below wi.heap.size wi w' := by
  refine (open_any b g bm cap lim L c ad x wi h.ar hn).mono ?_
  rintro e w' ⟨rfl, hb⟩
  exact ⟨rfl, h.keep hb, hb⟩
end

theorem below_box {w w' : World} {p : Nat} {o : Obj} (hb : Below w.heap.size w w') (hp : w.heap[p]? = some o) : w'.heap[p]? = some o := (hb.block _ (lt_of_heap hp)).trans hp
/-- A state's value. -/
def syV (s : Sf) : Value := .agg #[.int .i64 s.ck, .int .i64 s.h, .int .i64 s.c.k, .bool s.c.h, .int .u64 s.c.n]
def syO (s : Sf) : Obj := .cells #[.int .i64 s.ck, .int .i64 s.h, .int .i64 s.c.k, .bool s.c.h, .int .u64 s.c.n] 35
def Sf.ok (s : Sf) : Prop := i64ok s.ck ∧ i64ok s.h ∧ s.c.ok
theorem sy_cells {w : World} {p : Nat} {a0 a1 a2 a3 a4 : Value} (e : w.heap[p]? = some (.cells #[a0, a1, a2, a3, a4] 35 (0, 0))) : w.cell? ⟨p, 0, none⟩ = some a0 ∧ w.cell? ⟨p, 1, none⟩ = some a1 ∧ w.cell? ⟨p, 2, none⟩ = some a2 ∧ w.cell? ⟨p, 3, none⟩ = some a3 ∧ w.cell? ⟨p, 4, none⟩ = some a4 :=
  ⟨(cell_of_row w p 0 _ _ _ e).trans rfl, (cell_of_row w p 1 _ _ _ e).trans rfl, (cell_of_row w p 2 _ _ _ e).trans rfl, (cell_of_row w p 3 _ _ _ e).trans rfl, (cell_of_row w p 4 _ _ _ e).trans rfl⟩
/-- What a call that makes terms leaves: the arena, what it returns. -/
def ArPost (b g bm lim : Nat) (M : List Nd) (v : Value) (w : World) (e : Ending) (w' : World) : Prop :=
  ∃ g' cap', e = .returned v ∧ Ar w' b g' bm cap' lim M ∧ (g' = g ∨ w.heap.size ≤ g') ∧ Kept w w' b g bm
/-- The same of an arena made since w0. -/
def StPost (w0 : World) (b g bm lim : Nat) (M : List Nd) (v : Value) (w : World) (e : Ending) (w' : World) : Prop :=
  ∃ g' cap', e = .returned v ∧ St w0 w' b g' bm cap' lim M ∧ (g' = g ∨ w.heap.size ≤ g') ∧ Kept w w' b g bm
theorem ArPost.st {w0 w w' : World} {b g bm cap lim : Nat} {L M : List Nd} {v : Value} {e : Ending} (h : St w0 w b g bm cap lim L) (hp : ArPost b g bm lim M v w e w') : StPost w0 b g bm lim M v w e w' := by
  obtain ⟨g', cap', he, hA, hg, hk⟩ := hp
  exact ⟨g', cap', he, h.step hA hg hk, hg, hk⟩
theorem Tryd.infoI : (Tryd.prog.info? 3).map (fun i => (i.zero, i.size, i.bytes)) = some (some (.int .i64 0), 1, 8) := by kernel_rfl
/-- A call within one that w began: what it leaves, seen from w. -/
theorem grow_from {w W : World} {g g' : Nat} (hb : w.heap.size ≤ W.heap.size) (h : g' = g ∨ W.heap.size ≤ g') : g' = g ∨ w.heap.size ≤ g' := h.imp id fun q => Nat.le_trans hb q
theorem grow_two {w W : World} {g g1 g2 : Nat} (hb : w.heap.size ≤ W.heap.size) (h1 : g1 = g ∨ w.heap.size ≤ g1) (h : g2 = g1 ∨ W.heap.size ≤ g2) : g2 = g ∨ w.heap.size ≤ g2 := by omega
theorem Kept.two {w W W' : World} {b g g1 bm : Nat} (h1 : Kept w W b g bm) (h : Kept W W' b g1 bm) (hg : g1 = g ∨ w.heap.size ≤ g1) : Kept w W' b g bm :=
  ⟨h.os.trans h1.os, h.tape.trans h1.tape, h.output.trans h1.output, Nat.le_trans h1.size h.size, fun k hk n1 n2 n3 => (h.block k (Nat.lt_of_lt_of_le hk h1.size) n1 (by omega) n3).trans (h1.block k hk n1 n2 n3)⟩
theorem Kept.setAt {w w3 : World} {b g bm p j : Nat} (h : Kept w w3 b g bm) (hp : w.heap.size ≤ p) (u : Value) : Kept w (w3.setCell ⟨p, j, none⟩ u) b g bm :=
  ⟨h.os, h.tape, h.output, by simp [World.setCell]; exact h.size, fun k hk h1 h2 h3 => (Below.heap_setCell _ _ _ _ (by simp only; omega)).trans (h.block k hk h1 h2 h3)⟩
theorem Ar.setAt {w : World} {b g bm cap lim p j : Nat} {L : List Nd} (h : Ar w b g bm cap lim L) (h1 : b ≠ p) (h2 : g ≠ p) (h3 : bm ≠ p) (u : Value) : Ar (w.setCell ⟨p, j, none⟩ u) b g bm cap lim L :=
  h.keep (Below.heap_setCell _ _ _ _ h1) (Below.heap_setCell _ _ _ _ h2) (Below.heap_setCell _ _ _ _ h3)
/-- The receiver's box, and the result's, in a call that w began. -/
structure Sb (w W : World) (s : Sf) : Prop where
  bx : W.heap[w.heap.size]? = some (.cells #[.int .i64 s.ck, .int .i64 s.h, .int .i64 s.c.k, .bool s.c.h, .int .u64 s.c.n] 35 (0, 0))
  rs : W.heap[w.heap.size + 1]? = some (.cells #[.int .i64 0, .int .i64 0, .int .i64 0, .bool false, .int .u64 0] 35 (0, 0))
theorem Sb.new (w : World) (s : Sf) : Sb w ((w.alloc (.cells #[.int .i64 s.ck, .int .i64 s.h, .int .i64 s.c.k, .bool s.c.h, .int .u64 s.c.n] 35)).alloc (.cells #[.int .i64 0, .int .i64 0, .int .i64 0, .bool false, .int .u64 0] 35)) s := by
  refine ⟨?_, ?_⟩
  · rw [Below.heap_alloc _ _ _ (by simp)]; exact heap_alloc_new w _
  · have := heap_alloc_new (w.alloc (.cells #[.int .i64 s.ck, .int .i64 s.h, .int .i64 s.c.k, .bool s.c.h, .int .u64 s.c.n] 35)) (.cells #[.int .i64 0, .int .i64 0, .int .i64 0, .bool false, .int .u64 0] 35)
    rwa [World.size_alloc] at this
theorem Sb.keep {w W W' : World} {s : Sf} (h : Sb w W s) (hb : Below W.heap.size W W') : Sb w W' s :=
  ⟨(hb.block _ (lt_of_heap h.bx)).trans h.bx, (hb.block _ (lt_of_heap h.rs)).trans h.rs⟩
theorem Sb.kept {w W W' : World} {s : Sf} {b g bm cap lim : Nat} {L : List Nd} (h : Sb w W s) (hA : Ar W b g bm cap lim L) (hk : Kept W W' b g bm) : Sb w W' s :=
  ⟨hA.boxKept hk h.bx (by decide) (by decide), hA.boxKept hk h.rs (by decide) (by decide)⟩
theorem two_below (w : World) (o p : Obj) : Below w.heap.size w ((w.alloc o).alloc p) := ((Below.refl _ _).alloc (Nat.le_refl _) _).alloc (by simp) _
/-- The arena lies apart from both boxes. -/
theorem Sb.apart {w W : World} {s : Sf} {b g bm cap lim : Nat} {L : List Nd} (h : Sb w W s) (hA : Ar W b g bm cap lim L) : (b ≠ w.heap.size ∧ g ≠ w.heap.size ∧ bm ≠ w.heap.size) ∧ (b ≠ w.heap.size + 1 ∧ g ≠ w.heap.size + 1 ∧ bm ≠ w.heap.size + 1) := by
  obtain ⟨h1, h2, h3⟩ := hA.far h.bx (by decide) (by decide)
  obtain ⟨h4, h5, h6⟩ := hA.far h.rs (by decide) (by decide)
  exact ⟨⟨Ne.symm h1, Ne.symm h2, Ne.symm h3⟩, ⟨Ne.symm h4, Ne.symm h5, Ne.symm h6⟩⟩
end Go.Proofs.YtgjhhipkfglpgaaDoor
