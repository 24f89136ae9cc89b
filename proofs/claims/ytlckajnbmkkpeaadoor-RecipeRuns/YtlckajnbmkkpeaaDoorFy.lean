import Derived.Test.YtlckajnbmkkpeaaDoorFa
import Derived.Test.YtlckajnbmkkpeaaDoorQo
import Derived.Test.YtlckajnbmkkpeaaDoorEp
import Derived.Test.YtlckajnbmkkpeaaDoorFz

/- Layer 4: walks of the reference: one. -/
namespace Go.Proofs.YtlckajnbmkkpeaaDoor
open Go.RowKit Go.Maps

/-- What a step of the reference gives. -/
def OneP (lim : Nat) (st : Yd) (w : World) (e : Ending) (w' : World) : Prop :=
  ∃ g' cap', e = .returned (.tuple #[.agg #[.int .i64 lim, .slice (some ⟨g', 0, none⟩) st.L.length cap'], .int .i64 st.r, .int .i64 st.e]) ∧ rowAt w' g' st.L ∧ g' < w'.heap.size ∧ Below w.heap.size w w'
/-! What a step is, by what the reference asks. -/
theorem ix_cases (op : Int) : ixS op = 0 ∨ ixS op = 1 ∨ ixS op = 2 ∨ ixS op = 3 := by
  unfold ixS; split
  · exact Or.inl rfl
  · split
    · exact Or.inr (Or.inl rfl)
    · split
      · exact Or.inr (Or.inr (Or.inr rfl))
      · exact Or.inr (Or.inr (Or.inl rfl))
def pxS (u i : Nat) (Y : List Int) (v : Int) : Int := if i ≤ u then Y.getD v.toNat 0 else 0
theorem used_ahead {Y : List Int} {s : Sp} : ((decide (1 ≤ ixS s.op) || decide (s.a = 0)) && (decide (2 ≤ ixS s.op) || decide (s.b = 0)) && (decide (3 ≤ ixS s.op) || decide (s.c = 0)) && pickB Y (idx s)) = aheadB (ixS s.op) Y.length s := by
  unfold pickB idx aheadB
  rcases ix_cases s.op with e | e | e | e <;> rw [e] <;> simp [List.take, Bool.and_assoc]
theorem step_split {lim : Nat} {H : List Int} {L : List Nd} {Y : List Int} {s : Sp} (h0 : s.op ≠ 0) : stepY lim H L Y s = if (opOk s.op && decide (loS s.op ≤ s.n) && decide (s.n ≤ hiS s.op)) && aheadB (ixS s.op) Y.length s then doY lim L s (pxS (ixS s.op) 1 Y s.a) (pxS (ixS s.op) 2 Y s.b) (pxS (ixS s.op) 3 Y s.c) else bad L := by
  rw [← used_ahead]
  unfold stepY usedB srcS
  rw [if_neg h0]
  have hp : (pickL Y (idx s)).getD 0 0 = pxS (ixS s.op) 1 Y s.a ∧ (pickL Y (idx s)).getD 1 0 = pxS (ixS s.op) 2 Y s.b ∧ (pickL Y (idx s)).getD 2 0 = pxS (ixS s.op) 3 Y s.c := by
    unfold pickL idx pxS
    rcases ix_cases s.op with e | e | e | e <;> rw [e] <;> simp
  rw [hp.1, hp.2.1, hp.2.2]
  generalize pickB Y (idx s) = q
  generalize (decide (1 ≤ ixS s.op) || decide (s.a = 0)) = x1
  generalize (decide (2 ≤ ixS s.op) || decide (s.b = 0)) = x2
  generalize (decide (3 ≤ ixS s.op) || decide (s.c = 0)) = x3
  generalize (opOk s.op && decide (loS s.op ≤ s.n) && decide (s.n ≤ hiS s.op)) = x0
  cases x0 <;> cases x1 <;> cases x2 <;> cases x3 <;> cases q <;> rfl
/-! Memory. -/
structure Obx (w : World) (lim g cap : Nat) (L : List Nd) (s : Sp) (wr : World) : Prop where
  ab : wr.heap[w.heap.size]? = some (.cells #[.int .i64 lim, .slice (some ⟨g, 0, none⟩) L.length cap] 29 (0, 0))
  sb : wr.heap[w.heap.size + 1]? = some (.cells #[.int .i64 s.op, .int .u64 s.n, .int .i64 s.a, .int .i64 s.b, .int .i64 s.c] 101 (0, 0))
  rb : wr.heap[w.heap.size + 1 + 1]? = some (.cells #[.int .i64 0, .slice none 0 0] 29 (0, 0))
  bel : Below w.heap.size w wr
theorem Obx.keep {w : World} {lim g cap : Nat} {L : List Nd} {s : Sp} {wr wx : World} (h : Obx w lim g cap L s wr) (hb : Below wr.heap.size wr wx) : Obx w lim g cap L s wx :=
  ⟨(hb.block _ (lt_of_heap h.ab)).trans h.ab, (hb.block _ (lt_of_heap h.sb)).trans h.sb, (hb.block _ (lt_of_heap h.rb)).trans h.rb, h.bel.trans (hb.mono h.bel.size)⟩
theorem obx_new (w : World) (lim g cap : Nat) (L : List Nd) (s : Sp) : Obx w lim g cap L s (((w.alloc (.cells #[.int .i64 lim, .slice (some ⟨g, 0, none⟩) L.length cap] 29)).alloc (.cells #[.int .i64 s.op, .int .u64 s.n, .int .i64 s.a, .int .i64 s.b, .int .i64 s.c] 101)).alloc (.cells #[.int .i64 0, .slice none 0 0] 29)) := by
  refine ⟨?_, ?_, ?_, (((Below.refl _ _).alloc (Nat.le_refl _) _).alloc (by simp) _).alloc (by simp; omega) _⟩
  · rw [Below.heap_alloc _ _ _ (by simp; omega), Below.heap_alloc _ _ _ (by simp)]; exact heap_alloc_new w _
  · rw [Below.heap_alloc _ _ _ (by simp)]
    have := heap_alloc_new (w.alloc (.cells #[.int .i64 lim, .slice (some ⟨g, 0, none⟩) L.length cap] 29)) (.cells #[.int .i64 s.op, .int .u64 s.n, .int .i64 s.a, .int .i64 s.b, .int .i64 s.c] 101)
    rwa [World.size_alloc] at this
  · have := heap_alloc_new ((w.alloc (.cells #[.int .i64 lim, .slice (some ⟨g, 0, none⟩) L.length cap] 29)).alloc (.cells #[.int .i64 s.op, .int .u64 s.n, .int .i64 s.a, .int .i64 s.b, .int .i64 s.c] 101)) (.cells #[.int .i64 0, .slice none 0 0] 29)
    rwa [World.size_alloc, World.size_alloc] at this
theorem Obx.cells {w : World} {lim g cap : Nat} {L : List Nd} {s : Sp} {wr : World} (h : Obx w lim g cap L s wr) : (wr.cell? ⟨w.heap.size, 0, none⟩ = some (.int .i64 lim) ∧ wr.cell? ⟨w.heap.size, 1, none⟩ = some (.slice (some ⟨g, 0, none⟩) L.length cap)) ∧
    (wr.cell? ⟨w.heap.size + 1, 0, none⟩ = some (.int .i64 s.op) ∧ wr.cell? ⟨w.heap.size + 1, 1, none⟩ = some (.int .u64 s.n) ∧ wr.cell? ⟨w.heap.size + 1, 2, none⟩ = some (.int .i64 s.a) ∧ wr.cell? ⟨w.heap.size + 1, 3, none⟩ = some (.int .i64 s.b) ∧ wr.cell? ⟨w.heap.size + 1, 4, none⟩ = some (.int .i64 s.c)) ∧
    (wr.cell? ⟨w.heap.size + 1 + 1, 0, none⟩ = some (.int .i64 0) ∧ wr.cell? ⟨w.heap.size + 1 + 1, 1, none⟩ = some (.slice none 0 0) ∧ wr.frozen? ⟨w.heap.size + 1 + 1, 0, none⟩ = false ∧ wr.frozen? ⟨w.heap.size + 1 + 1, 1, none⟩ = false) ∧ w.heap.size + 1 + 1 < wr.heap.size :=
  ⟨⟨(cell_of_row wr _ 0 _ _ _ h.ab).trans rfl, (cell_of_row wr _ 1 _ _ _ h.ab).trans rfl⟩, ⟨(cell_of_row wr _ 0 _ _ _ h.sb).trans rfl, (cell_of_row wr _ 1 _ _ _ h.sb).trans rfl, (cell_of_row wr _ 2 _ _ _ h.sb).trans rfl, (cell_of_row wr _ 3 _ _ _ h.sb).trans rfl, (cell_of_row wr _ 4 _ _ _ h.sb).trans rfl⟩,
    ⟨(cell_of_row wr _ 0 _ _ _ h.rb).trans rfl, (cell_of_row wr _ 1 _ _ _ h.rb).trans rfl, frozen_of_row _ _ _ _ _ h.rb, frozen_of_row _ _ _ _ _ h.rb⟩, lt_of_heap h.rb⟩
theorem one_end0 {w : World} {lim g cap : Nat} {L : List Nd} (hr : rowAt w g L) (hg : g < w.heap.size) (r e : Int) (o1 o2 o3 : Obj) : OneP lim ⟨L, r, e⟩ w (.returned (.tuple #[.agg #[.int .i64 lim, .slice (some ⟨g, 0, none⟩) L.length cap], .int .i64 r, .int .i64 e])) (((w.alloc o1).alloc o2).alloc o3) := by
  have hb : Below w.heap.size w (((w.alloc o1).alloc o2).alloc o3) := (((Below.refl _ _).alloc (Nat.le_refl _) _).alloc (by simp) _).alloc (by simp; omega) _
  exact ⟨g, cap, rfl, hr.keep (hb.block g hg), by have := hb.size; omega, hb⟩
theorem one_end {w : World} {lim g cap : Nat} {L : List Nd} {s : Sp} {wr : World} (h : Obx w lim g cap L s wr) (hr : rowAt w g L) (hg : g < w.heap.size) (r e : Int) (u v : Value) : OneP lim ⟨L, r, e⟩ w (.returned (.tuple #[.agg #[.int .i64 lim, .slice (some ⟨g, 0, none⟩) L.length cap], .int .i64 r, .int .i64 e])) ((wr.setCell ⟨w.heap.size + 1 + 1, 0, none⟩ u).setCell ⟨w.heap.size + 1 + 1, 1, none⟩ v) :=
  ⟨g, cap, rfl, (hr.keep (h.bel.block g hg)).keep (set2_block _ _ _ _ _ (by omega)), by rw [set2_size]; have := h.bel.size; omega, set2_below h.bel (by omega) _ _⟩
theorem one_new {w : World} {lim g cap : Nat} {L : List Nd} {s : Sp} {wr w' : World} (h : Obx w lim g cap L s wr) (hb : Below wr.heap.size wr w') {st : Yd} {g' cap' : Nat} (hrow : rowAt w' g' st.L) (hp : 0 < st.L.length) (hlt : g' < w'.heap.size) (u v : Value) :
    OneP lim st w (.returned (.tuple #[.agg #[.int .i64 lim, .slice (some ⟨g', 0, none⟩) st.L.length cap'], .int .i64 st.r, .int .i64 st.e])) ((w'.setCell ⟨w.heap.size + 1 + 1, 0, none⟩ u).setCell ⟨w.heap.size + 1 + 1, 1, none⟩ v) := by
  have hk := h.keep hb
  have hne : g' ≠ w.heap.size + 1 + 1 := row_ne hrow hp hk.cells.2.2.1.2.1
  exact ⟨g', cap', rfl, hrow.keep (set2_block _ _ _ _ _ hne), by rw [set2_size]; exact hlt, set2_below hk.bel (by omega) _ _⟩
theorem OneP.drew {lim : Nat} {st : Yd} {w : World} {e : Ending} {w' : World} (h : OneP lim st w e w') : OneP lim st w e w'.drew := by
  obtain ⟨g', c', h1, h2, h3, h4⟩ := h
  exact ⟨g', c', h1, h2, h3, h4.drew⟩
theorem one_end0d {w : World} {lim g cap : Nat} {L : List Nd} (hr : rowAt w g L) (hg : g < w.heap.size) (r e : Int) (o1 o2 o3 : Obj) : OneP lim ⟨L, r, e⟩ w (.returned (.tuple #[.agg #[.int .i64 lim, .slice (some ⟨g, 0, none⟩) L.length cap], .int .i64 r, .int .i64 e])) (((w.alloc o1).alloc o2).alloc o3).drew := by
  have hb : Below w.heap.size w (((w.alloc o1).alloc o2).alloc o3).drew := ((((Below.refl _ _).alloc (Nat.le_refl _) _).alloc (by simp) _).alloc (by simp; omega) _).drew
  exact ⟨g, cap, rfl, hr.keep (hb.block g hg), by have := hb.size; omega, hb⟩
theorem shL_pos {lim : Nat} {L : List Nd} {x y : Int} (h : 0 < L.length) : 0 < (shL lim L x y).length := by
  unfold shL; split
  · exact mkL_pos h
  · exact h
end Go.Proofs.YtlckajnbmkkpeaaDoor

/- Layer 4: walks of the reference: Run. -/
namespace Go.Proofs.YtlckajnbmkkpeaaDoor
open Go.RowKit Go.Maps

/-- What the reference's Run leaves. -/
def RunF (lim : Nat) (R : Rn) (w : World) (e : Ending) (w' : World) : Prop :=
  ∃ g' cap' sy cy, e = .returned (.tuple #[.agg #[.int .i64 lim, .slice (some ⟨g', 0, none⟩) R.L.length cap'], .slice sy R.Y.length cy, .int .i64 R.i, .int .i64 R.e]) ∧ rowAt w' g' R.L ∧ g' < w'.heap.size ∧ IntsV w' sy R.Y ∧ (0 < R.Y.length → ∀ p, sy = some p → w.heap.size ≤ p.block) ∧ Below w.heap.size w w'
def OneC : Prop := ∀ (lim g cap : Nat) (L : List Nd) (_ : WFp L) (_ : L.length ≤ 65536) (sh sy : Option Addr) (ch cy : Nat) (H Y : List Int) (s : Sp) (w : World) (_ : rowAt w g L) (_ : g < w.heap.size) (_ : IntsV w sh H) (_ : IntsV w sy Y) (_ : H.length ≤ 65536) (_ : Y.length ≤ 65536) (_ : ∀ i, i < Y.length → hasB L.length (Y.getD i 0) = true) (_ : 0 ≤ s.n) (_ : s.n ≤ 18446744073709551615),
    Calls Tryd.prog 49 #[.agg #[.int .i64 lim, .slice (some ⟨g, 0, none⟩) L.length cap], .slice sh H.length ch, .slice sy Y.length cy, aggR s] w (OneP lim (stepY lim H L Y s) w)
theorem set2_at {w : World} {b : Nat} {v0 v1 : Value} {T : TypeId} (h : w.heap[b]? = some (.cells #[v0, v1] T (0, 0))) (u v : Value) : ((w.setCell ⟨b, 0, none⟩ u).setCell ⟨b, 1, none⟩ v).heap[b]? = some (.cells #[u, v] T (0, 0)) := by
  have k : ∀ (w : World) (cs : Array Value) (i : Nat) (v : Value), w.heap[b]? = some (.cells cs T (0, 0)) → (w.setCell ⟨b, i, none⟩ v).heap[b]? = some (.cells (cs.set! i v) T (0, 0)) := by
    intro w cs i v h
    simp only [World.setCell, Array.getElem?_modify, if_true, h]
    rfl
  exact k _ _ 1 v (k _ _ 0 u h)
/-- The arena's box, the result's, and what was made, round by round. -/
structure Rg (w wr : World) (lim g' cap' : Nat) (Lk : List Nd) (v : Value) (Y : List Int) : Prop where
  ab : wr.heap[w.heap.size]? = some (.cells #[.int .i64 lim, .slice (some ⟨g', 0, none⟩) Lk.length cap'] 29 (0, 0))
  rb : wr.heap[w.heap.size + 1]? = some (.cells #[.int .i64 0, .slice none 0 0] 29 (0, 0))
  row : rowAt wr g' Lk
  lt : g' < wr.heap.size
  pos : 0 < Lk.length
  own : wr.ownsRow (w.heap.size + 2) 3 1 v Y.length (Y.map (Value.int .i64))
  bel : Below w.heap.size w wr
  ib : IntB wr v
theorem Rg.keep {w wr wx : World} {lim g' cap' : Nat} {Lk : List Nd} {v : Value} {Y : List Int} (h : Rg w wr lim g' cap' Lk v Y) (hb : Below wr.heap.size wr wx) : Rg w wx lim g' cap' Lk v Y :=
  ⟨(hb.block _ (lt_of_heap h.ab)).trans h.ab, (hb.block _ (lt_of_heap h.rb)).trans h.rb, h.row.keep (hb.block _ h.lt), Nat.lt_of_lt_of_le h.lt hb.size, h.pos, ownsRow_same h.own (fun k hk => hb.block k (h.own.lt k hk).2), h.bel.trans (hb.mono h.bel.size), h.ib.keep (fun k hk => hb.block k (h.own.lt k hk).2)⟩
theorem Rg.cells {w wr : World} {lim g' cap' : Nat} {Lk : List Nd} {v : Value} {Y : List Int} (h : Rg w wr lim g' cap' Lk v Y) : (wr.cell? ⟨w.heap.size, 0, none⟩ = some (.int .i64 lim) ∧ wr.cell? ⟨w.heap.size, 1, none⟩ = some (.slice (some ⟨g', 0, none⟩) Lk.length cap') ∧ wr.frozen? ⟨w.heap.size, 0, none⟩ = false ∧ wr.frozen? ⟨w.heap.size, 1, none⟩ = false) ∧
    (wr.cell? ⟨w.heap.size + 1, 0, none⟩ = some (.int .i64 0) ∧ wr.cell? ⟨w.heap.size + 1, 1, none⟩ = some (.slice none 0 0) ∧ wr.frozen? ⟨w.heap.size + 1, 0, none⟩ = false ∧ wr.frozen? ⟨w.heap.size + 1, 1, none⟩ = false) ∧ w.heap.size + 1 < wr.heap.size :=
  ⟨⟨(cell_of_row wr _ 0 _ _ _ h.ab).trans rfl, (cell_of_row wr _ 1 _ _ _ h.ab).trans rfl, frozen_of_row _ _ _ _ _ h.ab, frozen_of_row _ _ _ _ _ h.ab⟩, ⟨(cell_of_row wr _ 0 _ _ _ h.rb).trans rfl, (cell_of_row wr _ 1 _ _ _ h.rb).trans rfl, frozen_of_row _ _ _ _ _ h.rb, frozen_of_row _ _ _ _ _ h.rb⟩, lt_of_heap h.rb⟩
/-- Behind a step: what is next, in its own box. -/
structure Rk (w wx : World) (lim g' cap' : Nat) (Lk : List Nd) (v : Value) (Y : List Int) (B g2 cap2 : Nat) (L2 : List Nd) : Prop where
  rg : Rg w wx lim g' cap' Lk v Y
  bb : wx.heap[B]? = some (.cells #[.int .i64 lim, .slice (some ⟨g2, 0, none⟩) L2.length cap2] 29 (0, 0))
  ne : w.heap.size + 1 < B ∧ v.ownBlock ≠ some B
  row : rowAt wx g2 L2
  lt : g2 < wx.heap.size
theorem Rg.put {w wr w2 : World} {lim g' cap' : Nat} {Lk : List Nd} {v : Value} {Y : List Int} (h : Rg w wr lim g' cap' Lk v Y) (hb : Below wr.heap.size wr w2) {B g2 cap2 : Nat} {L2 : List Nd} (hB : wr.heap.size ≤ B) (hz : w2.heap[B]? = some (.cells #[.int .i64 0, .slice none 0 0] 29 (0, 0))) (hr : rowAt w2 g2 L2) (hl : g2 < w2.heap.size) (hp : 0 < L2.length) :
    Rk w ((w2.setCell ⟨B, 0, none⟩ (.int .i64 lim)).setCell ⟨B, 1, none⟩ (.slice (some ⟨g2, 0, none⟩) L2.length cap2)) lim g' cap' Lk v Y B g2 cap2 L2 := by
  have hk := h.keep hb
  have hs := lt_of_heap h.rb
  have hne : g2 ≠ B := row_ne hr hp ((cell_of_row w2 _ 1 _ _ _ hz).trans rfl)
  have hlt := h.lt
  refine ⟨⟨(set2_block _ _ _ _ _ (by omega)).trans hk.ab, (set2_block _ _ _ _ _ (by omega)).trans hk.rb, hk.row.keep (set2_block _ _ _ _ _ (by omega)), by rw [set2_size]; exact hk.lt, h.pos, ownsRow_same hk.own (fun k he => set2_block _ _ _ _ _ (by have := (h.own.lt k he).2; omega)), set2_below hk.bel (by omega) _ _, hk.ib.keep (fun k he => set2_block _ _ _ _ _ (by have := (h.own.lt k he).2; omega))⟩, set2_at hz _ _, ⟨by omega, fun e => by have := (h.own.lt B e).2; omega⟩, hr.keep (set2_block _ _ _ _ _ hne), by rw [set2_size]; exact hl⟩
/-- The result is set. -/
theorem Rg.ret {w wr : World} {lim g' cap' : Nat} {Lk : List Nd} {v : Value} {Y : List Int} (h : Rg w wr lim g' cap' Lk v Y) {sy : Option Addr} {cy i : Nat} {e : Int} {Z : List Int} (hi : IntsV wr sy Z) (hne : 0 < Z.length → ∀ p, sy = some p → w.heap.size + 2 ≤ p.block) (x y : Value) :
    RunF lim ⟨Lk, Z, i, e⟩ w (.returned (.tuple #[.agg #[.int .i64 lim, .slice (some ⟨g', 0, none⟩) Lk.length cap'], .slice sy Z.length cy, .int .i64 i, .int .i64 e])) ((wr.setCell ⟨w.heap.size + 1, 0, none⟩ x).setCell ⟨w.heap.size + 1, 1, none⟩ y) := by
  have hg : g' ≠ w.heap.size + 1 := row_ne h.row h.pos h.cells.2.1.2.1
  refine ⟨g', cap', sy, cy, rfl, h.row.keep (set2_block _ _ _ _ _ hg), by rw [set2_size]; exact h.lt, fun h0 => ?_, fun h0 p hp => by have := hne h0 p hp; omega, set2_below h.bel (by omega) _ _⟩
  obtain ⟨gl, ol, e1, h1, h2⟩ := hi h0
  exact ⟨gl, ol, e1, by rw [set2_size]; exact h1, h2.keep (set2_block _ _ _ _ _ (by have h9 : w.heap.size + 2 ≤ gl := hne h0 _ e1; omega))⟩
/-- What is next is the arena. -/
theorem Rk.next {w wx : World} {lim g' cap' : Nat} {Lk : List Nd} {v : Value} {Y : List Int} {B g2 cap2 : Nat} {L2 : List Nd} (h : Rk w wx lim g' cap' Lk v Y B g2 cap2 L2) (hp : 0 < L2.length) : Rg w ((wx.setCell ⟨w.heap.size, 0, none⟩ (.int .i64 lim)).setCell ⟨w.heap.size, 1, none⟩ (.slice (some ⟨g2, 0, none⟩) L2.length cap2)) lim g2 cap2 L2 v Y := by
  have hne : g2 ≠ w.heap.size := row_ne h.row hp h.rg.cells.1.2.1
  exact ⟨set2_at h.rg.ab _ _, (set2_block _ _ _ _ _ (by omega)).trans h.rg.rb, h.row.keep (set2_block _ _ _ _ _ hne), by rw [set2_size]; exact h.lt, hp, ownsRow_same h.rg.own (fun k he => set2_block _ _ _ _ _ (by have := (h.rg.own.lt k he).1; omega)), set2_below h.rg.bel (Nat.le_refl _) _ _, h.rg.ib.keep (fun k he => set2_block _ _ _ _ _ (by have := (h.rg.own.lt k he).1; omega))⟩
theorem Rg.app {w wr w4 : World} {lim g' cap' : Nat} {Lk : List Nd} {v v4 : Value} {Y : List Int} {r : Int} (h : Rg w wr lim g' cap' Lk v Y) (o : Obj) (hown : w4.ownsRow (w.heap.size + 2) 3 1 v4 (Y.length + 1) (Y.map (Value.int .i64) ++ [.int .i64 r])) (hgr : (wr.alloc o).grownBy w4 v.ownBlock) (hib : IntB w4 v4) : Rg w w4 lim g' cap' Lk v4 (Y ++ [r]) := by
  have hk := h.keep ((Below.refl _ _).alloc (Nat.le_refl _) o)
  have hv : ∀ k, k < (wr.alloc o).heap.size → v.ownBlock ≠ some k → w4.heap[k]? = (wr.alloc o).heap[k]? := fun k hk hn => hgr.block k hk (fun e => hn e.symm)
  have hb : ∀ k, k < w.heap.size + 2 → v.ownBlock ≠ some k := fun k hk1 e => by have := (h.own.lt k e).1; omega
  refine ⟨(hv _ (lt_of_heap hk.ab) (hb _ (by omega))).trans hk.ab, (hv _ (lt_of_heap hk.rb) (hb _ (by omega))).trans hk.rb, hk.row.keep (hv _ hk.lt (h.ib.far h.row h.pos)), Nat.lt_of_lt_of_le hk.lt hgr.size, h.pos, by rw [List.length_append, List.map_append]; exact hown, ?_, hib⟩
  exact hk.bel.grown hgr (by have := hk.bel.size; omega) (fun k e => by have := (h.own.lt k e).1; omega)
set_option maxRecDepth 100000 in
set_option maxHeartbeats 8000000 in
theorem runF_any (ONE : OneC) (lim g cap : Nat) (L : List Nd) (hw : WF L) (hlim : lim ≤ 65536) (hm : L.length ≤ lim) (sh ss : Option Addr) (ch cs : Nat) (H : List Int) (l : List Sp) (w : World) (hr : rowAt w g L) (hg : g < w.heap.size) (hH : IntsV w sh H) (hS : StepsV w ss l) (hhl : H.length ≤ 65536) (hll : l.length ≤ 30) (hin : ∀ x ∈ H, hasB L.length x = true) (hn : ∀ s ∈ l, 0 ≤ s.n ∧ s.n ≤ 18446744073709551615) :
    Calls Tryd.prog 26 #[.agg #[.int .i64 lim, .slice (some ⟨g, 0, none⟩) L.length cap], .slice sh H.length ch, .slice ss l.length cs] w (RunF lim (runY lim H l L [] 0) w) := by
  have HH := Lib.hid hH
  have HS := Lib.hid hS
  have HN := Lib.hid hn
  have HONE := Lib.hid ONE
  unfold OneC at HONE
  have HG0 : Hid (Rg w ((w.alloc (.cells #[.int .i64 lim, .slice (some ⟨g, 0, none⟩) L.length cap] 29)).alloc (.cells #[.int .i64 0, .slice none 0 0] 29)) lim g cap L (.slice none 0 0) []) := Lib.hid (by
    have hb : Below w.heap.size w ((w.alloc (.cells #[.int .i64 lim, .slice (some ⟨g, 0, none⟩) L.length cap] 29)).alloc (.cells #[.int .i64 0, .slice none 0 0] 29)) := ((Below.refl _ _).alloc (Nat.le_refl _) _).alloc (by simp) _
    refine ⟨?_, ?_, hr.keep (hb.block _ hg), Nat.lt_of_lt_of_le hg hb.size, hw.pos, World.ownsRow_nil _ _ _ _, hb, IntB.none⟩
    · rw [Below.heap_alloc _ _ _ (by simp)]; exact heap_alloc_new w _
    · have := heap_alloc_new (w.alloc (.cells #[.int .i64 lim, .slice (some ⟨g, 0, none⟩) L.length cap] 29)) (.cells #[.int .i64 0, .slice none 0 0] 29)
      rwa [World.size_alloc] at this)
  obtain ⟨i0, hi0, hz0, hz1, hz2⟩ := info_parts Tryd.infoI4
  clear hH hS hn hr hg ONE
  go_enter Tryd.func26, Tryd.ntmps26
  go_wp2_with fail
  go_loopg [10, 11, 12, 13, 14] l.length (fun q u10 u11 _ _ _ wr => ∃ k : Nat, k + q = l.length ∧ u11 = .int .i64 k ∧ ∃ g' cap' Lk Yk, Aside (Rg w wr lim g' cap' Lk u10 Yk ∧ runY lim H l L [] 0 = runY lim H (l.drop k) Lk Yk k ∧ Yk.length = k ∧ WF Lk ∧ Lk.length ≤ lim ∧ (∀ x ∈ H, hasB Lk.length x = true) ∧ (∀ x ∈ Yk, hasB Lk.length x = true)))
  case atStart => exact ⟨0, by omega, rfl, g, cap, L, [], ⟨HG0.out, rfl, rfl, hw, hm, hin, fun x hx => by cases hx⟩⟩
  case round =>
    obtain ⟨k, hkq, rfl, g', cap', Lk, Yk, hAs⟩ := hrel
    obtain ⟨hG, hrun, hlen, hwf, hLl, hinL, hinY⟩ := hAs.out
    clear hAs HG0
    obtain ⟨sy, cy, rfl, hiv, hsyo⟩ := own_sl hG.own
    by_cases hlt : k < l.length
    · obtain ⟨s, hs0⟩ : ∃ s, s = l.getD k zSp := ⟨_, rfl⟩
      rw [runY_drop hlt, ← hs0] at hrun
      have hsn : 0 ≤ s.n ∧ s.n ≤ 18446744073709551615 := HN.out s (by rw [hs0, List.getD_eq_getElem?_getD, List.getElem?_eq_getElem hlt]; exact List.getElem_mem _)
      obtain ⟨gs, os, rfl, hgs, hcs⟩ := HS.out.keep hG.bel (by omega)
      obtain ⟨x0, x1, x2, x3, x4⟩ := hcs k hlt
      rw [← hs0] at x0 x1 x2 x3 x4
      have HG := Lib.hid hG
      have HY30 : Hid (Yk.length ≤ 30) := Lib.hid (by omega)
      have HEX : Hid (∀ wx, Below wr.heap.size wr wx → Calls Tryd.prog 49 #[.agg #[.int .i64 lim, .slice (some ⟨g', 0, none⟩) Lk.length cap'], .slice sh H.length ch, .slice sy Yk.length cy, aggR s] wx (OneP lim (stepY lim H Lk Yk s) wx)) := Lib.hid (fun wx hb => by
        have h2 := HG.out.keep hb
        exact HONE.out lim g' cap' Lk hwf.toWFp (by omega) sh sy ch cy H Yk s wx h2.row h2.lt (HH.out.keep h2.bel) (hiv.keep hb) hhl (by omega) (fun i hi => hinY _ (by rw [List.getD_eq_getElem?_getD, List.getElem?_eq_getElem hi]; exact List.getElem_mem _)) hsn.1 hsn.2)
      have hltk : (k : Int) < l.length := by omega
      obtain ⟨y, hy⟩ : ∃ y, y = stepY lim H Lk Yk s := ⟨_, rfl⟩
      have HGR : Hid (y.e = 0 → WF y.L ∧ y.L.length ≤ lim ∧ (∀ x ∈ H, hasB y.L.length x = true) ∧ ∀ x ∈ Yk ++ [y.r], hasB y.L.length x = true) := Lib.hid (fun he => by
        rw [hy] at he ⊢
        have hle := stepY_len (lim := lim) (H := H) (Y := Yk) (s := s) hLl
        obtain ⟨⟨M, hM9⟩, hw9, h9, _⟩ := stepY_grow hwf (by omega) hinL hinY s he
        refine ⟨hw9, hle, fun x hx => ?_, fun x hx => ?_⟩
        · rw [hM9]; exact has_ext (hinL x hx)
        · rcases List.mem_append.1 hx with h | h
          · rw [hM9]; exact has_ext (hinY x h)
          · rw [List.mem_singleton.1 h]; exact h9)
      have HLR : Hid (y.e ≠ 0 → y.L = Lk) := Lib.hid (fun he => by rw [hy] at he ⊢; exact stepY_err he)
      have HP : Hid (0 < y.L.length) := Lib.hid (by
        by_cases he : y.e = 0
        · exact (HGR.out he).1.pos
        · rw [HLR.out he]; exact hwf.pos)
      rw [← hy] at HEX hrun
      have HRUN := Lib.hid hrun
      have HLEN := Lib.hid hlen
      obtain ⟨op, n, a, b, c⟩ := s
      simp only at x0 x1 x2 x3 x4
      unfold aggR at HEX
      simp only at HEX
      obtain ⟨⟨a0, a1, a2, a3⟩, ⟨r0, r1, r2', r3⟩, lr⟩ := hG.cells
      have HSC : Hid (∀ wx, Below wr.heap.size wr wx → wx.cell? ⟨w.heap.size, 0, none⟩ = some (.int .i64 lim) ∧ wx.cell? ⟨w.heap.size, 1, none⟩ = some (.slice (some ⟨g', 0, none⟩) Lk.length cap') ∧ wx.cell? ⟨gs, os + k * 5, none⟩ = some (.int .i64 op) ∧ wx.cell? ⟨gs, os + k * 5 + 1, none⟩ = some (.int .u64 n) ∧ wx.cell? ⟨gs, os + k * 5 + 2, none⟩ = some (.int .i64 a) ∧ wx.cell? ⟨gs, os + k * 5 + 3, none⟩ = some (.int .i64 b) ∧ wx.cell? ⟨gs, os + k * 5 + 4, none⟩ = some (.int .i64 c)) := Lib.hid (fun wx hb => ⟨(hb.cell (p := ⟨_, 0, none⟩) (lt_of_heap HG.out.ab)).trans a0, (hb.cell (p := ⟨_, 1, none⟩) (lt_of_heap HG.out.ab)).trans a1, (hb.cell (p := ⟨gs, _, none⟩) hgs).trans x0, (hb.cell (p := ⟨gs, _, none⟩) hgs).trans x1, (hb.cell (p := ⟨gs, _, none⟩) hgs).trans x2, (hb.cell (p := ⟨gs, _, none⟩) hgs).trans x3, (hb.cell (p := ⟨gs, _, none⟩) hgs).trans x4⟩)
      obtain ⟨L2, r2, e2⟩ := y
      simp only at HEX HRUN HGR HLR HP
      clear hrun hs0 hy hinL hinY hiv hG hcs hsyo hlen hsn
      have HSK : Hid (∀ {B g2 cap2 : Nat} wx, Rk w wx lim g' cap' Lk (.slice sy Yk.length cy) Yk B g2 cap2 L2 → (∃ W2, Below wr.heap.size wr W2 ∧ ∀ k, k < wr.heap.size → wx.heap[k]? = W2.heap[k]?) → wx.cell? ⟨w.heap.size, 0, none⟩ = some (.int .i64 lim) ∧ wx.cell? ⟨w.heap.size, 1, none⟩ = some (.slice (some ⟨g', 0, none⟩) Lk.length cap') ∧ wx.cell? ⟨gs, os + k * 5, none⟩ = some (.int .i64 op) ∧ wx.cell? ⟨gs, os + k * 5 + 1, none⟩ = some (.int .u64 n) ∧ wx.cell? ⟨gs, os + k * 5 + 2, none⟩ = some (.int .i64 a) ∧ wx.cell? ⟨gs, os + k * 5 + 3, none⟩ = some (.int .i64 b) ∧ wx.cell? ⟨gs, os + k * 5 + 4, none⟩ = some (.int .i64 c)) := Lib.hid (fun wx hk ⟨W2, hb, he⟩ => by
        have hq := HSC.out W2 hb
        have e : ∀ k o, k < wr.heap.size → wx.cell? ⟨k, o, none⟩ = W2.cell? ⟨k, o, none⟩ := fun k o hk => World.cell?_of_block (a := ⟨k, o, none⟩) (he k hk)
        rw [e _ _ (lt_of_heap HG.out.ab), e _ _ (lt_of_heap HG.out.ab), e _ _ hgs, e _ _ hgs, e _ _ hgs, e _ _ hgs, e _ _ hgs]
        exact hq)
      go_wp2_with fail
      go_cut [12, 13, 14] (fun u12 u13 u14 wx => ∃ B g2 cap2 : Nat, u12 = .pointer (some ⟨B, 0, none⟩) ∧ u13 = .int .i64 r2 ∧ u14 = .int .i64 e2 ∧ Aside (Rk w wx lim g' cap' Lk (.slice sy Yk.length cy) Yk B g2 cap2 L2))
      case first =>
        refine wp_region_noPanic ?_
        refine wp_region_held_drew (S := (fun w' => w'.cell? ⟨w.heap.size, 0, none⟩ = some (.int .i64 lim) ∧ w'.cell? ⟨w.heap.size, 1, none⟩ = some (.slice (some ⟨g', 0, none⟩) Lk.length cap') ∧ w'.cell? ⟨gs, os + k * 5, none⟩ = some (.int .i64 op) ∧ w'.cell? ⟨gs, os + k * 5 + 1, none⟩ = some (.int .u64 n) ∧ w'.cell? ⟨gs, os + k * 5 + 2, none⟩ = some (.int .i64 a) ∧ w'.cell? ⟨gs, os + k * 5 + 3, none⟩ = some (.int .i64 b) ∧ w'.cell? ⟨gs, os + k * 5 + 4, none⟩ = some (.int .i64 c))) (by kernel_rfl) ?_ (fun hHeld => ?_)
        · exact HSC.out _ (Below.refl _ _).drew
        have hbd : Below wr.heap.size wr wr.drew := (Below.refl _ _).drew
        have hsd : wr.heap.size ≤ wr.drew.heap.size := Nat.le_refl _
        generalize wr.drew = Wd at *
        refine wpAnyH_take (i := 0) (v := ?_) rfl (by kernel_rfl) (by kernel_rfl) (by kernel_rfl) (fun _ _ _ h => h) (Or.inl ⟨by rfl, ?_⟩) (by assumption) ?_
        rotate_left
        · (intro w hSw; (try dsimp only at hSw); go_simp; try with_reducible rfl)
        try simp only [List.getElem_toArray, List.getElem_cons_zero, Act.put, List.setIfInBounds_toArray, List.set_cons_zero, List.set_cons_succ]
        refine wpAnyH_take (i := 1) (v := ?_) rfl (by kernel_rfl) (by kernel_rfl) (by kernel_rfl) (fun _ _ _ h => h) (Or.inl ⟨by rfl, ?_⟩) (by assumption) ?_
        rotate_left
        · (intro w hSw; (try dsimp only at hSw); go_simp; try with_reducible rfl)
        try simp only [List.getElem_toArray, List.getElem_cons_succ, List.getElem_cons_zero, Act.put, List.setIfInBounds_toArray, List.set_cons_zero, List.set_cons_succ]
        refine wpAnyH_take (i := 2) (v := ?_) rfl (by kernel_rfl) (by kernel_rfl) (by kernel_rfl) (fun _ _ _ h => h) (Or.inl ⟨by rfl, ?_⟩) (by assumption) ?_
        rotate_left
        · (intro w hSw; (try dsimp only at hSw); go_simp; try with_reducible rfl)
        try simp only [List.getElem_toArray, List.getElem_cons_succ, List.getElem_cons_zero, Act.put, List.setIfInBounds_toArray, List.set_cons_zero, List.set_cons_succ]
        refine wpAnyH_take (i := 3) (v := ?_) rfl (by kernel_rfl) (by kernel_rfl) (by kernel_rfl) (fun _ _ _ h => h) (Or.inl ⟨by rfl, ?_⟩) (by assumption) ?_
        rotate_left
        · (intro w hSw; (try dsimp only at hSw); go_simp; try with_reducible rfl)
        try simp only [List.getElem_toArray, List.getElem_cons_succ, List.getElem_cons_zero, Act.put, List.setIfInBounds_toArray, List.set_cons_zero, List.set_cons_succ]
        refine wpAnyH_take (i := 4) (v := ?_) rfl (by kernel_rfl) (by kernel_rfl) (by kernel_rfl) (fun _ _ _ h => h) (Or.inl ⟨by rfl, ?_⟩) (by assumption) ?_
        rotate_left
        · (intro w hSw; (try dsimp only at hSw); go_simp; try with_reducible rfl)
        try simp only [List.getElem_toArray, List.getElem_cons_succ, List.getElem_cons_zero, Act.put, List.setIfInBounds_toArray, List.set_cons_zero, List.set_cons_succ]
        refine wpAnyH_take (i := 5) (v := ?_) rfl (by kernel_rfl) (by kernel_rfl) (by kernel_rfl) (fun _ _ _ h => h) (Or.inl ⟨by rfl, ?_⟩) (by assumption) ?_
        rotate_left
        · (intro w hSw; (try dsimp only at hSw); go_simp; try with_reducible rfl)
        try simp only [List.getElem_toArray, List.getElem_cons_succ, List.getElem_cons_zero, Act.put, List.setIfInBounds_toArray, List.set_cons_zero, List.set_cons_succ]
        refine wpAnyH_take (i := 6) (v := ?_) rfl (by kernel_rfl) (by kernel_rfl) (by kernel_rfl) (fun _ _ _ h => h) (Or.inl ⟨by rfl, ?_⟩) (by assumption) ?_
        rotate_left
        · (intro w hSw; (try dsimp only at hSw); go_simp; try with_reducible rfl)
        try simp only [List.getElem_toArray, List.getElem_cons_succ, List.getElem_cons_zero, Act.put, List.setIfInBounds_toArray, List.set_cons_zero, List.set_cons_succ]
        refine wpAnyH_ready (rs := [7, 12]) (by kernel_rfl) (by simp) ?_
        refine AllReadyH.cons rfl (fun K hK => ?_) (AllReadyH.cons rfl (fun K hK => ?_) AllReadyH.nil)
        · go_simp
          (refine (HEX.out _ hbd).mono ?_; rintro e w2 ⟨g2, cap2, rfl, hrow2, hlt2, hb2⟩)
          go_wp2_with fail
          refine hK.out _ _ ?_ (fun hHeld => ?_)
          · exact HSC.out _ (hbd.trans (hb2.mono hbd.size))
          clear hK K
          try simp only [List.getElem_toArray, List.getElem_cons_succ, List.getElem_cons_zero, Act.put, List.setIfInBounds_toArray, List.set_cons_zero, List.set_cons_succ]
          refine wpAnyH_take (i := 8) (v := ?_) rfl (by kernel_rfl) (by kernel_rfl) (by kernel_rfl) (fun _ _ _ h => h) (Or.inl ⟨by rfl, ?_⟩) (by assumption) ?_
          rotate_left
          · (intro w hSw; (try dsimp only at hSw); go_simp; try with_reducible rfl)
          try simp only [List.getElem_toArray, List.getElem_cons_succ, List.getElem_cons_zero, Act.put, List.setIfInBounds_toArray, List.set_cons_zero, List.set_cons_succ]
          refine wpAnyH_take (i := 9) (v := ?_) rfl (by kernel_rfl) (by kernel_rfl) (by kernel_rfl) (fun _ _ _ h => h) (Or.inl ⟨by rfl, ?_⟩) (by assumption) ?_
          rotate_left
          · (intro w hSw; (try dsimp only at hSw); go_simp; try with_reducible rfl)
          try simp only [List.getElem_toArray, List.getElem_cons_succ, List.getElem_cons_zero, Act.put, List.setIfInBounds_toArray, List.set_cons_zero, List.set_cons_succ]
          refine wpAnyH_take (i := 10) (v := ?_) rfl (by kernel_rfl) (by kernel_rfl) (by kernel_rfl) (fun _ _ _ h => h) (Or.inl ⟨by rfl, ?_⟩) (by assumption) ?_
          rotate_left
          · (intro w hSw; (try dsimp only at hSw); go_simp; try with_reducible rfl)
          try simp only [List.getElem_toArray, List.getElem_cons_succ, List.getElem_cons_zero, Act.put, List.setIfInBounds_toArray, List.set_cons_zero, List.set_cons_succ]
          refine wpAnyH_take (i := 11) (v := ?_) rfl (by kernel_rfl) (by kernel_rfl) (by kernel_rfl) (fun _ _ _ h => h) (Or.inl ⟨by rfl, ?_⟩) (by assumption) ?_
          rotate_left
          · (intro w hSw; (try dsimp only at hSw); go_simp; try with_reducible rfl)
          try simp only [List.getElem_toArray, List.getElem_cons_succ, List.getElem_cons_zero, Act.put, List.setIfInBounds_toArray, List.set_cons_zero, List.set_cons_succ]
          refine wpAnyH_ready (rs := [12]) (by kernel_rfl) (by simp) ?_
          refine AllReadyH.cons rfl (fun K hK => ?_) AllReadyH.nil
          go_simp
          refine hK.out _ _ ?_ (fun hHeld => ?_)
          · exact HSC.out _ ((hbd.trans (hb2.mono hbd.size)).alloc (Nat.le_trans hsd hb2.size) _)
          clear hK K
          try simp only [List.getElem_toArray, List.getElem_cons_succ, List.getElem_cons_zero, Act.put, List.setIfInBounds_toArray, List.set_cons_zero, List.set_cons_succ]
          have HZ := Lib.hid (heap_alloc_new w2 (.cells #[.int .i64 0, .slice none 0 0] 29))
          have HROW := Lib.hid (hrow2.keep (((Below.refl _ _).alloc (Nat.le_refl _) (.cells #[.int .i64 0, .slice none 0 0] 29)).block _ hlt2))
          have HLT : Hid (g2 < (w2.alloc (.cells #[.int .i64 0, .slice none 0 0] 29)).heap.size) := Lib.hid (by rw [World.size_alloc]; omega)
          have hb9 : Below wr.heap.size wr (w2.alloc (.cells #[.int .i64 0, .slice none 0 0] 29)) := ((hbd.trans (hb2.mono hbd.size)).alloc (Nat.le_trans hsd hb2.size) _)
          have hsz : wr.heap.size ≤ w2.heap.size := Nat.le_trans hsd hb2.size
          clear hrow2 hlt2 hb2
          obtain ⟨W2, hW⟩ : ∃ W, W = w2.alloc (.cells #[.int .i64 0, .slice none 0 0] 29) := ⟨_, rfl⟩
          rw [← hW] at HZ HROW HLT hb9 ⊢
          clear hW
          obtain ⟨z0, z1⟩ : (W2).cell? ⟨w2.heap.size, 0, none⟩ = some (.int .i64 0) ∧ (W2).cell? ⟨w2.heap.size, 1, none⟩ = some (.slice none 0 0) := ⟨(cell_of_row _ _ 0 _ _ _ HZ.out).trans rfl, (cell_of_row _ _ 1 _ _ _ HZ.out).trans rfl⟩
          have z2 : (W2).frozen? ⟨w2.heap.size, 0, none⟩ = false := frozen_of_row _ _ _ _ _ HZ.out
          have z3 : (W2).frozen? ⟨w2.heap.size, 1, none⟩ = false := frozen_of_row _ _ _ _ _ HZ.out
          have lz := lt_of_heap HZ.out
          have HK := Lib.hid (HG.out.put hb9 (B := w2.heap.size) (cap2 := cap2) hsz HZ.out HROW.out HLT.out HP.out)
          refine wpAnyH_ready (rs := [13]) (by kernel_rfl) (by simp) ?_
          refine AllReadyH.cons rfl (fun K hK => ?_) AllReadyH.nil
          go_simp
          refine hK.out _ _ ?_ (fun hHeld => ?_)
          · exact HSK.out _ HK.out ⟨_, hb9, fun k hk => set2_block _ _ _ _ _ (by omega)⟩
          clear hK K
          try simp only [List.getElem_toArray, List.getElem_cons_succ, List.getElem_cons_zero, Act.put, List.setIfInBounds_toArray, List.set_cons_zero, List.set_cons_succ]
          refine wpAnyH_take (i := 14) (v := ?_) rfl (by kernel_rfl) (by kernel_rfl) (by kernel_rfl) (fun _ _ _ h => h) (Or.inl ⟨by rfl, ?_⟩) (by assumption) ?_
          rotate_left
          · (intro w hSw; (try dsimp only at hSw); go_simp; try with_reducible rfl)
          try simp only [List.getElem_toArray, List.getElem_cons_succ, List.getElem_cons_zero, Act.put, List.setIfInBounds_toArray, List.set_cons_zero, List.set_cons_succ]
          refine wpAnyH_take (i := 15) (v := ?_) rfl (by kernel_rfl) (by kernel_rfl) (by kernel_rfl) (fun _ _ _ h => h) (Or.inl ⟨by rfl, ?_⟩) (by assumption) ?_
          rotate_left
          · (intro w hSw; (try dsimp only at hSw); go_simp; try with_reducible rfl)
          try simp only [List.getElem_toArray, List.getElem_cons_succ, List.getElem_cons_zero, Act.put, List.setIfInBounds_toArray, List.set_cons_zero, List.set_cons_succ]
          refine wpAnyH_done (by kernel_rfl) ?_ _
          refine NoPanic.normal ?_
          go_wp2_with fail
          go_meet
          exact ⟨_, g2, cap2, rfl, rfl, rfl, HK.out⟩
        · go_simp
          refine hK.out _ _ ?_ (fun hHeld => ?_)
          · exact HSC.out _ (hbd.alloc hsd _)
          clear hK K
          try simp only [List.getElem_toArray, List.getElem_cons_succ, List.getElem_cons_zero, Act.put, List.setIfInBounds_toArray, List.set_cons_zero, List.set_cons_succ]
          have hb8 : Below wr.heap.size wr (Wd.alloc (.cells #[.int .i64 0, .slice none 0 0] 29)) := hbd.alloc hsd _
          have hz8 := heap_alloc_new Wd (.cells #[.int .i64 0, .slice none 0 0] 29)
          obtain ⟨W1, hW⟩ : ∃ W, W = Wd.alloc (.cells #[.int .i64 0, .slice none 0 0] 29) := ⟨_, rfl⟩
          rw [← hW] at hb8 hz8 ⊢
          clear hW
          refine wpAnyH_ready (rs := [7]) (by kernel_rfl) (by simp) ?_
          refine AllReadyH.cons rfl (fun K hK => ?_) AllReadyH.nil
          go_simp
          (refine (HEX.out _ hb8).mono ?_; rintro e w2 ⟨g2, cap2, rfl, hrow2, hlt2, hb2⟩)
          go_wp2_with fail
          have hb9 : Below wr.heap.size wr w2 := hb8.trans (hb2.mono hb8.size)
          refine hK.out _ _ ?_ (fun hHeld => ?_)
          · exact HSC.out _ hb9
          clear hK K
          try simp only [List.getElem_toArray, List.getElem_cons_succ, List.getElem_cons_zero, Act.put, List.setIfInBounds_toArray, List.set_cons_zero, List.set_cons_succ]
          have HZ := Lib.hid ((hb2.block _ (lt_of_heap hz8)).trans hz8)
          have HROW := Lib.hid hrow2
          have HLT := Lib.hid hlt2
          have hsz : wr.heap.size ≤ Wd.heap.size := hsd
          clear hrow2 hlt2 hb2 hb8 hz8
          refine wpAnyH_take (i := 8) (v := ?_) rfl (by kernel_rfl) (by kernel_rfl) (by kernel_rfl) (fun _ _ _ h => h) (Or.inl ⟨by rfl, ?_⟩) (by assumption) ?_
          rotate_left
          · (intro w hSw; (try dsimp only at hSw); go_simp; try with_reducible rfl)
          try simp only [List.getElem_toArray, List.getElem_cons_succ, List.getElem_cons_zero, Act.put, List.setIfInBounds_toArray, List.set_cons_zero, List.set_cons_succ]
          refine wpAnyH_take (i := 9) (v := ?_) rfl (by kernel_rfl) (by kernel_rfl) (by kernel_rfl) (fun _ _ _ h => h) (Or.inl ⟨by rfl, ?_⟩) (by assumption) ?_
          rotate_left
          · (intro w hSw; (try dsimp only at hSw); go_simp; try with_reducible rfl)
          try simp only [List.getElem_toArray, List.getElem_cons_succ, List.getElem_cons_zero, Act.put, List.setIfInBounds_toArray, List.set_cons_zero, List.set_cons_succ]
          refine wpAnyH_take (i := 10) (v := ?_) rfl (by kernel_rfl) (by kernel_rfl) (by kernel_rfl) (fun _ _ _ h => h) (Or.inl ⟨by rfl, ?_⟩) (by assumption) ?_
          rotate_left
          · (intro w hSw; (try dsimp only at hSw); go_simp; try with_reducible rfl)
          try simp only [List.getElem_toArray, List.getElem_cons_succ, List.getElem_cons_zero, Act.put, List.setIfInBounds_toArray, List.set_cons_zero, List.set_cons_succ]
          refine wpAnyH_take (i := 11) (v := ?_) rfl (by kernel_rfl) (by kernel_rfl) (by kernel_rfl) (fun _ _ _ h => h) (Or.inl ⟨by rfl, ?_⟩) (by assumption) ?_
          rotate_left
          · (intro w hSw; (try dsimp only at hSw); go_simp; try with_reducible rfl)
          try simp only [List.getElem_toArray, List.getElem_cons_succ, List.getElem_cons_zero, Act.put, List.setIfInBounds_toArray, List.set_cons_zero, List.set_cons_succ]
          obtain ⟨z0, z1⟩ : (w2).cell? ⟨Wd.heap.size, 0, none⟩ = some (.int .i64 0) ∧ (w2).cell? ⟨Wd.heap.size, 1, none⟩ = some (.slice none 0 0) := ⟨(cell_of_row _ _ 0 _ _ _ HZ.out).trans rfl, (cell_of_row _ _ 1 _ _ _ HZ.out).trans rfl⟩
          have z2 : (w2).frozen? ⟨Wd.heap.size, 0, none⟩ = false := frozen_of_row _ _ _ _ _ HZ.out
          have z3 : (w2).frozen? ⟨Wd.heap.size, 1, none⟩ = false := frozen_of_row _ _ _ _ _ HZ.out
          have lz := lt_of_heap HZ.out
          have HK := Lib.hid (HG.out.put hb9 (B := Wd.heap.size) (cap2 := cap2) hsz HZ.out HROW.out HLT.out HP.out)
          refine wpAnyH_ready (rs := [13]) (by kernel_rfl) (by simp) ?_
          refine AllReadyH.cons rfl (fun K hK => ?_) AllReadyH.nil
          go_simp
          refine hK.out _ _ ?_ (fun hHeld => ?_)
          · exact HSK.out _ HK.out ⟨_, hb9, fun k hk => set2_block _ _ _ _ _ (by omega)⟩
          clear hK K
          try simp only [List.getElem_toArray, List.getElem_cons_succ, List.getElem_cons_zero, Act.put, List.setIfInBounds_toArray, List.set_cons_zero, List.set_cons_succ]
          refine wpAnyH_take (i := 14) (v := ?_) rfl (by kernel_rfl) (by kernel_rfl) (by kernel_rfl) (fun _ _ _ h => h) (Or.inl ⟨by rfl, ?_⟩) (by assumption) ?_
          rotate_left
          · (intro w hSw; (try dsimp only at hSw); go_simp; try with_reducible rfl)
          try simp only [List.getElem_toArray, List.getElem_cons_succ, List.getElem_cons_zero, Act.put, List.setIfInBounds_toArray, List.set_cons_zero, List.set_cons_succ]
          refine wpAnyH_take (i := 15) (v := ?_) rfl (by kernel_rfl) (by kernel_rfl) (by kernel_rfl) (fun _ _ _ h => h) (Or.inl ⟨by rfl, ?_⟩) (by assumption) ?_
          rotate_left
          · (intro w hSw; (try dsimp only at hSw); go_simp; try with_reducible rfl)
          try simp only [List.getElem_toArray, List.getElem_cons_succ, List.getElem_cons_zero, Act.put, List.setIfInBounds_toArray, List.set_cons_zero, List.set_cons_succ]
          refine wpAnyH_done (by kernel_rfl) ?_ _
          refine NoPanic.normal ?_
          go_wp2_with fail
          go_meet
          exact ⟨_, g2, cap2, rfl, rfl, rfl, HK.out⟩
      case rest =>
        obtain ⟨B, g2, cap2, rfl, rfl, rfl, hk⟩ := hcut
        have HK := Lib.hid hk.out
        clear hk HEX HSC x0 x1 x2 x3 x4 a0 a1 a2 a3 r0 r1 r2' r3 lr
        obtain ⟨⟨a0, a1, a2, a3⟩, ⟨r0, r1, r2', r3⟩, lr⟩ := HK.out.rg.cells
        obtain ⟨b0, b1⟩ : wc.cell? ⟨B, 0, none⟩ = some (.int .i64 lim) ∧ wc.cell? ⟨B, 1, none⟩ = some (.slice (some ⟨g2, 0, none⟩) L2.length cap2) := ⟨(cell_of_row _ _ 0 _ _ _ HK.out.bb).trans rfl, (cell_of_row _ _ 1 _ _ _ HK.out.bb).trans rfl⟩
        have lb := lt_of_heap HK.out.bb
        have la := lt_of_heap HK.out.rg.ab
        by_cases he : e2 = 0
        · subst he
          rw [if_pos rfl] at HRUN
          have HN := Lib.hid (HK.out.next HP.out)
          obtain ⟨g9, cap9, w7, hr9, hown9, hgr9, hib9⟩ := app_int (w := ((wc.setCell ⟨w.heap.size, 0, none⟩ (.int .i64 lim)).setCell ⟨w.heap.size, 1, none⟩ (.slice (some ⟨g2, 0, none⟩) L2.length cap2)).alloc (.cells #[.int .i64 r2] 3)) (r := r2) (HN.out.own.alloc _) (HN.out.ib.keep (fun q e => ((Below.refl _ _).alloc (Nat.le_refl _) _).block _ (HN.out.own.lt q e).2)) (by have := HN.out.cells.2.2; simp only [World.size_alloc]; omega) (by have := HY30.out; omega) ⟨wc.heap.size, 0, none⟩ (by
            have e : wc.heap.size = ((wc.setCell ⟨w.heap.size, 0, none⟩ (.int .i64 lim)).setCell ⟨w.heap.size, 1, none⟩ (.slice (some ⟨g2, 0, none⟩) L2.length cap2)).heap.size := (set2_size _ _ _ _).symm
            rw [e]
            exact (cell_of_row _ _ 0 _ _ _ (heap_alloc_new _ _)).trans rfl)
          have HRA := Lib.hid hr9
          have HAP := Lib.hid (HN.out.app _ hown9 hgr9 hib9)
          clear hr9 hown9 hgr9 hib9
          go_wp2_with (at_builtin; refine wpList_append_run rfl _ _ _ rfl _ _ _ _ rfl rfl HRA.out ?_)
          go_roundg (l.length - (k + 1))
          case rel =>
            have h1 := HGR.out trivial
            exact ⟨k + 1, by omega, by go_num, g2, cap2, L2, Yk ++ [r2], ⟨HAP.out, HRUN.out, by rw [List.length_append, HLEN.out]; rfl, h1.1, h1.2.1, h1.2.2.1, h1.2.2.2⟩⟩
          case measure => omega
        · rw [if_neg he] at HRUN
          have hne : (e2 != 0) = true := by simpa using he
          clear he
          go_wp2_with fail
          refine bodyPost_ret (v := .tuple #[.agg #[.int .i64 lim, .slice (some ⟨g', 0, none⟩) Lk.length cap'], .slice none 0 0, .int .i64 k, .int .i64 e2]) (by simp [results, Tryd.results26, go_sem, r0, r1]) rfl ?_
          rw [HRUN.out]
          exact HK.out.rg.ret (sy := none) (cy := 0) (Z := []) (fun h => absurd h (Nat.lt_irrefl 0)) (fun h => absurd h (Nat.lt_irrefl 0)) _ _
    · obtain rfl : k = l.length := by omega
      rw [List.drop_length, runY] at hrun
      have HRUN := Lib.hid hrun
      have HG := Lib.hid hG
      have HIV := Lib.hid hiv
      have HSO := Lib.hid hsyo
      obtain ⟨⟨a0, a1, a2, a3⟩, ⟨r0, r1, r2', r3⟩, lr⟩ := hG.cells
      have la := lt_of_heap HG.out.ab
      clear hrun hG hiv hsyo hinL hinY hwf hLl hlen
      go_wp2_with fail
      refine bodyPost_ret (v := .tuple #[.agg #[.int .i64 lim, .slice (some ⟨g', 0, none⟩) Lk.length cap'], .slice sy Yk.length cy, .int .i64 0, .int .i64 0]) (by simp [results, Tryd.results26, go_sem, r0, r1]) rfl ?_
      rw [HRUN.out]
      exact HG.out.ret (i := 0) (e := 0) HIV.out (fun _ p hp => by have := (HSO.out p hp).2; omega) _ _
end Go.Proofs.YtlckajnbmkkpeaaDoor
