/- Layer 10: an arena and a reference's row beside it, through seals, openings, and rekeys. -/
import Derived.Test.YtonpjogaamgceaaDoorJh
import Derived.Test.YtonpjogaamgceaaDoorQj
namespace Go.Proofs.YtonpjogaamgceaaDoor
open Go.RowKit

/-- An arena, and a row of the reference's apart from it; both made since w. -/
structure Pq (w wi : World) (b g bm cap lim : Nat) (L : List Nd) (gr : Nat) (R : List Nd) : Prop where
  st : St w wi b g bm cap lim L
  row : rowAt wi gr R
  lt : gr < wi.heap.size
  ge : w.heap.size ≤ gr
  nb : gr ≠ b
  ng : gr ≠ g
  nm : gr ≠ bm
theorem Pair.pq {w wi : World} {b g bm cap gr capr lim : Nat} {L : List Nd} (h : Pair w wi b g bm cap gr capr lim L) : Pq w wi b g bm cap lim L gr L := ⟨h.st, h.row, h.lt, h.ge, h.nb, h.ng, h.nm⟩
section
variable {w wi w' : World} {b g bm cap lim gr : Nat} {L R : List Nd}
theorem Pq.keep (h : Pq w wi b g bm cap lim L gr R) (hb : Below wi.heap.size wi w') : Pq w w' b g bm cap lim L gr R :=
  ⟨h.st.keep hb, h.row.keep (hb.block gr h.lt), Nat.lt_of_lt_of_le h.lt hb.size, h.ge, h.nb, h.ng, h.nm⟩
theorem Pq.step (h : Pq w wi b g bm cap lim L gr R) {g' cap' : Nat} {M : List Nd} (hA : Ar w' b g' bm cap' lim M) (hg : g' = g ∨ wi.heap.size ≤ g') (hk : Kept wi w' b g bm) : Pq w w' b g' bm cap' lim M gr R :=
  ⟨h.st.step hA hg hk, h.row.keep (hk.block gr h.lt h.nb h.ng h.nm), Nat.lt_of_lt_of_le h.lt hk.size, h.ge, h.nb, fun e => by
    rcases hg with q | q
    · exact h.ng (e.trans q)
    · have := h.lt; omega, h.nm⟩
theorem Pq.turn (h : Pq w wi b g bm cap lim L gr R) {gr' : Nat} {R' : List Nd} (hb : Below wi.heap.size wi w') (hr : rowAt w' gr' R') (hl : gr' < w'.heap.size) (hg : gr' = gr ∨ wi.heap.size ≤ gr') : Pq w w' b g bm cap lim L gr' R' := by
  have h1 := h.st.ar.blt
  have h2 := h.st.ar.glt
  have h3 := h.st.ar.mlt
  have h4 := h.st.bel.size
  refine ⟨h.st.keep hb, hr, hl, ?_, ?_, ?_, ?_⟩
  · rcases hg with e | e; · rw [e]; exact h.ge
    · omega
  · rcases hg with e | e; · rw [e]; exact h.nb
    · omega
  · rcases hg with e | e; · rw [e]; exact h.ng
    · omega
  · rcases hg with e | e; · rw [e]; exact h.nm
    · omega
theorem Pq.seal (h : Pq w wi b g bm cap lim L gr R) (hs : Shp w) (c : Cf) (ad p : Int) (hn : u64ok c.n) : Calls Tryd.prog 12 #[cfV c, .pointer (some ⟨b, 0, none⟩), .int .i64 ad, .int .i64 p] wi fun e w' => ∃ g' cap', e = .returned (.tuple #[cfV (slC lim L c ad p), .int .i64 (slR lim L c ad p), .int .i64 (slE lim L c ad p)]) ∧ Pq w w' b g' bm cap' lim (slL lim L c ad p) gr R ∧ Kept wi w' b g bm := by
  refine (seal_any b g bm cap lim L c ad p wi h.st.ar (h.st.shp hs) hn).mono ?_
  rintro e w' ⟨g', cap', rfl, hA, hg, hk⟩
  exact ⟨g', cap', rfl, h.step hA hg hk, hk⟩
theorem Pq.rekey (h : Pq w wi b g bm cap lim L gr R) (hs : Shp w) (c : Cf) (hn : c.ok) : Calls Tryd.prog 18 #[cfV c, .pointer (some ⟨b, 0, none⟩)] wi fun e w' => ∃ g' cap', e = .returned (.tuple #[cfV (rkC lim L c), .int .i64 (rkE lim L c)]) ∧ Pq w w' b g' bm cap' lim (rkL lim L c) gr R ∧ Kept wi w' b g bm := by
  refine (rekey_any b g bm cap lim L c wi h.st.ar (h.st.shp hs) hn).mono ?_
  rintro e w' ⟨g', cap', rfl, hA, hg, hk⟩
  exact ⟨g', cap', rfl, h.step hA hg hk, hk⟩
theorem Pq.opens (h : Pq w wi b g bm cap lim L gr R) (c : Cf) (ad x : Int) (hn : u64ok c.n) : Calls Tryd.prog 16 #[cfV c, .pointer (some ⟨b, 0, none⟩), .int .i64 ad, .int .i64 x] wi fun e w' => e = .returned (.tuple #[cfV (opC L c ad x), .int .i64 (opR L c ad x), .int .i64 (opE L c ad x)]) ∧ Pq w w' b g bm cap lim L gr R ∧ Below wi.heap.size wi w' := by
  refine (open_any b g bm cap lim L c ad x wi h.st.ar hn).mono ?_
  rintro e w' ⟨rfl, hb⟩
  exact ⟨rfl, h.keep hb, hb⟩
theorem Pq.same (h : Pq w wi b g bm cap lim L gr L) (capr : Nat) : Calls Tryd.prog 15 #[.pointer (some ⟨b, 0, none⟩), .agg #[.int .i64 lim, .slice (some ⟨gr, 0, none⟩) L.length capr]] wi fun e w' => e = .returned (.bool true) ∧ Below wi.heap.size wi w' :=
  same_any b g bm cap lim gr capr L wi h.st.ar h.row h.lt
/-- A box of another type stays, whatever is done with the arena. -/
theorem Pq.box (h : Pq w wi b g bm cap lim L gr R) (hk : Kept wi w' b g bm) {p : Nat} {vs : Array Value} {T : TypeId} (hp : wi.heap[p]? = some (.cells vs T (0, 0))) (h1 : T ≠ 77) (h2 : T ≠ 54) : w'.heap[p]? = some (.cells vs T (0, 0)) := h.st.ar.boxKept hk hp h1 h2
end
theorem below_box {w w' : World} {p : Nat} {o : Obj} (hb : Below w.heap.size w w') (hp : w.heap[p]? = some o) : w'.heap[p]? = some o := (hb.block _ (lt_of_heap hp)).trans hp

set_option maxRecDepth 100000 in
set_option maxHeartbeats 400000 in
theorem ofc_any (c : Cf) (w : World) : Calls Tryd.prog 14 #[cfV c] w fun e w' => e = .returned (cfV c) ∧ Below w.heap.size w w' := by
  obtain ⟨k, h, n⟩ := c
  unfold cfV
  go_enter Tryd.func14, Tryd.ntmps14
  go_wp2
  refine bodyPost_ret (v := .agg #[.int .i64 k, .bool h, .int .u64 n]) (by simp [results, Tryd.results14, go_sem]) rfl ?_
  exact ⟨rfl, ((Below.refl _ _).alloc (Nat.le_refl _) _).alloc (by simp) _⟩
end Go.Proofs.YtonpjogaamgceaaDoor
