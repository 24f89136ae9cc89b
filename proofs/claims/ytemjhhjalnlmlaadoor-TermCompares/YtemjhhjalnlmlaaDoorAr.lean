/- An arena in memory; the walk of New. -/
import Derived.Test.YtemjhhjalnlmlaaDoorMap
import Derived.Test.YtemjhhjalnlmlaaDoorWg
namespace Go.Proofs.YtemjhhjalnlmlaaDoor
open Go.RowKit Go.Maps

/-- An arena of the program: its box, its row of nodes, its map. -/
structure Ar (w : World) (b g bm cap lim : Nat) (L : List Nd) : Prop where
  box : w.heap[b]? = some (.cells #[.slice (some ⟨g, 0, none⟩) L.length cap, .map (some bm), .int .i64 lim] 64 (0, 0))
  own : w.ownsRow 0 33 5 (.slice (some ⟨g, 0, none⟩) L.length cap) L.length (cells L)
  reg : ∃ D : DataW Unit, w.ownsMap Tryd.prog 33 (plainElem Tryd.prog 3) bm L.length D ∧ Reg D L
  nbg : b ≠ g
  nbm : b ≠ bm
  ngm : g ≠ bm
  len : L.length ≤ lim
  max : lim ≤ 65536
  wf : WF L

theorem lt_of_heap {w : World} {b : Nat} {o : Obj} (h : w.heap[b]? = some o) : b < w.heap.size := by
  rcases Nat.lt_or_ge b w.heap.size with h1 | h1
  · exact h1
  · rw [Array.getElem?_eq_none h1] at h; cases h

section
variable {w : World} {b g bm cap lim : Nat} {L : List Nd}
theorem Ar.blt (h : Ar w b g bm cap lim L) : b < w.heap.size := lt_of_heap h.box
theorem Ar.glt (h : Ar w b g bm cap lim L) : g < w.heap.size := (h.own.lt g rfl).2
theorem Ar.mlt (h : Ar w b g bm cap lim L) : bm < w.heap.size := by obtain ⟨D, hD, _⟩ := h.reg; exact hD.lt
theorem Ar.c0 (h : Ar w b g bm cap lim L) : w.cell? ⟨b, 0, none⟩ = some (.slice (some ⟨g, 0, none⟩) L.length cap) := by rw [cell_of_row w b 0 _ _ _ h.box]; rfl
theorem Ar.c1 (h : Ar w b g bm cap lim L) : w.cell? ⟨b, 1, none⟩ = some (.map (some bm)) := by rw [cell_of_row w b 1 _ _ _ h.box]; rfl
theorem Ar.c2 (h : Ar w b g bm cap lim L) : w.cell? ⟨b, 2, none⟩ = some (.int .i64 lim) := by rw [cell_of_row w b 2 _ _ _ h.box]; rfl
theorem Ar.row (h : Ar w b g bm cap lim L) : rowAt w g L := ownsRow_row h.own
theorem Ar.small (h : Ar w b g bm cap lim L) : L.length ≤ 65536 := Nat.le_trans h.len h.max
theorem Ar.keep (h : Ar w b g bm cap lim L) {w' : World} (h1 : w'.heap[b]? = w.heap[b]?) (h2 : w'.heap[g]? = w.heap[g]?) (h3 : w'.heap[bm]? = w.heap[bm]?) : Ar w' b g bm cap lim L := by
  refine ⟨h1.trans h.box, ?_, ?_, h.nbg, h.nbm, h.ngm, h.len, h.max, h.wf⟩
  · obtain ⟨e, h'⟩ := h.own
    refine ⟨e, ?_⟩
    rcases h' with h' | ⟨g', cap', cur, hv, hb, hg, rest⟩
    · exact .inl h'
    · refine .inr ⟨g', cap', cur, hv, hb, ?_, rest⟩
      have : g' = g := by simpa using (congrArg (fun v => match v with | Value.slice (some a) _ _ => a.block | _ => 0) hv).symm
      rw [this] at hg ⊢; exact h2.trans hg
  · obtain ⟨D, ⟨es, clock, hb, rest⟩, hr⟩ := h.reg
    exact ⟨D, ⟨es, clock, h3.trans hb, rest⟩, hr⟩
theorem Ar.below (h : Ar w b g bm cap lim L) {w' : World} (hb : Below w.heap.size w w') : Ar w' b g bm cap lim L :=
  h.keep (hb.block b h.blt) (hb.block g h.glt) (hb.block bm h.mlt)
end

def limZ (x : Int) : Nat := (min (max x 1) 65536).toNat
theorem limZ_cast (x : Int) : ((limZ x : Nat) : Int) = min (max x 1) 65536 := by unfold limZ; omega
theorem limZ_bd (x : Int) : 1 ≤ limZ x ∧ limZ x ≤ 65536 := by unfold limZ; omega

def NewPost (x : Int) (w : World) (e : Ending) (w' : World) : Prop :=
  ∃ b g bm, e = .returned (.pointer (some ⟨b, 0, none⟩)) ∧ Ar w' b g bm 1 (limZ x) [zN] ∧ w.heap.size ≤ b ∧ w.heap.size ≤ g ∧ w.heap.size ≤ bm ∧ Below w.heap.size w w'

theorem zN_ok : zN.ok := by simp [zN, Nd.ok, i64ok, u64ok]

theorem new_close {x l : Int} {w w1 : World} {D : DataW Unit} (hl : ((limZ x : Nat) : Int) = l) (ho : w1.ownsMap Tryd.prog 33 (plainElem Tryd.prog 3) (w.heap.size + 1) 1 D) (hr : Reg D [zN])
    (hg : ((w.alloc (.cells #[.int .i64 0, .int .u64 0, .int .i64 0, .int .i64 0, .int .i64 0] 33)).alloc (.map #[] 0)).grownBy w1 (some (w.heap.size + 1))) (hsz : w1.heap.size = w.heap.size + 1 + 1) :
    NewPost x w (.returned (.pointer (some ⟨w.heap.size + 1 + 1, 0, none⟩))) (w1.alloc (.cells #[.slice (some ⟨w.heap.size, 0, none⟩) 1 1, .map (some (w.heap.size + 1)), .int .i64 l] 64)) := by
  subst hl
  have hbd := limZ_bd x
  have hb : Below w.heap.size w w1 := (((Below.refl _ _).alloc (Nat.le_refl _) _).alloc (by simp) _).grown hg (by simp; omega) (fun k hk => by simp at hk; omega)
  have hbox : (w1.alloc (.cells #[.slice (some ⟨w.heap.size, 0, none⟩) 1 1, .map (some (w.heap.size + 1)), .int .i64 (limZ x : Nat)] 64)).heap[w.heap.size + 1 + 1]? = some (.cells #[.slice (some ⟨w.heap.size, 0, none⟩) 1 1, .map (some (w.heap.size + 1)), .int .i64 (limZ x : Nat)] 64) := by
    rw [← hsz]; exact heap_alloc_new w1 _
  have hrow : w1.heap[w.heap.size]? = some (.cells #[.int .i64 0, .int .u64 0, .int .i64 0, .int .i64 0, .int .i64 0] 33) := by
    rw [hg.block _ (by simp; omega) (by simp)]
    rw [Below.heap_alloc _ _ _ (by simp)]
    exact heap_alloc_new w _
  refine ⟨w.heap.size + 1 + 1, w.heap.size, w.heap.size + 1, rfl, ⟨hbox, ?_, ⟨D, ho.alloc _, hr⟩, by omega, by omega, by omega, by simp; omega, hbd.2, WF.one⟩, by omega, Nat.le_refl _, by omega, hb.alloc hb.size _⟩
  refine ⟨by simp [cells, vals], .inr ⟨w.heap.size, 1, #[.int .i64 0, .int .u64 0, .int .i64 0, .int .i64 0, .int .i64 0], rfl, Nat.zero_le _, ?_, by simp, by simp [maxLen], by simp, by simp [cells, vals, zN]⟩⟩
  rw [Below.heap_alloc _ _ _ (by omega)]
  exact hrow

set_option maxHeartbeats 1000000 in
theorem new_any (x : Int) (w : World) : Calls Tryd.prog 26 #[.int .i64 x] w (NewPost x w) := by
  have hmm := @run_makeMap Tryd.prog
  obtain ⟨kl, hkl⟩ := key_ok zN_ok
  have hm0 := World.ownsMap_made (H := Unit) (w.alloc (.cells #[.int .i64 0, .int .u64 0, .int .i64 0, .int .i64 0, .int .i64 0] 33)) Tryd.prog 33 (plainElem Tryd.prog 3)
  obtain ⟨w1, hrun, hown, hturn⟩ := hm0.store law33 Tryd.underlying62 (by simp [maxLen]) hkl (plainElem_int (a := 0) Tryd.underlying3 (by decide))
  have hreg : Reg _ [zN] := Reg.empty.put hkl rfl
  have hgr := hturn.grown
  rw [World.size_alloc] at hrun hown hgr
  unfold agg zN at hrun
  simp only at hrun
  have HO := Lib.hid hown
  have HG := Lib.hid hgr
  have HREG := Lib.hid hreg
  have hsz : w1.heap.size = w.heap.size + 1 + 1 := by
    obtain ⟨es, c, es', c', _, rfl⟩ := hturn
    simp [ChangeMaps.setBlock]
  clear hm0 hturn hown hgr hreg hkl
  go_enter Tryd.func26, Tryd.ntmps26
  go_wp2
  all_goals
    go_ret
    exact new_close (by rw [limZ_cast]; omega) HO.out HREG.out HG.out hsz
end Go.Proofs.YtemjhhjalnlmlaaDoor
