/- The map from nodes to refs. An arena in memory; the walk of New. Walks: which nodes may be, as the program decides it. -/
import Derived.Test.YtgjhhipkfglpgaaDoorQc
import Derived.Maps.OwnSet
import Derived.DeepKeys4
namespace Go.Proofs.YtgjhhipkfglpgaaDoor
open Go.RowKit Go.Maps

theorem Tryd.laidOut : laidOutB Tryd.prog = true := by kernel_rfl
theorem Tryd.row33 : (53 : TypeId) < Tryd.prog.types.size := of_decide_eq_true (by kernel_rfl)
theorem Tryd.wide33 : (match Tryd.prog.underlying 53 with | some (.array _ _) | some (.struct _) => true | _ => false) = true := by rw [Tryd.underlying53]
set_option maxRecDepth 100000 in
theorem law33 : Keyed Tryd.prog 53 := Keyed.of_law (deep_law_laid Tryd.laidOut (m := 2) (by omega) Tryd.row33 (by kernel_rfl) Tryd.wide33)
theorem Tryd.key33 : Tryd.prog.keyType 53 = true := by kernel_rfl
theorem Tryd.cells53 : Tryd.prog.cellsOf 53 = 5 := by kernel_rfl
theorem Tryd.cells3 : Tryd.prog.cellsOf 3 = 1 := by kernel_rfl
theorem Tryd.cells31 : Tryd.prog.cellsOf 31 = 1 := by kernel_rfl
theorem zero3 (w : World) : (zeroValue 3).run Tryd.prog w = .ok (.int .i64 0) w := by kernel_rfl
theorem Tryd.tsz : ∃ s, Tryd.prog.types.size + 1 = s + 2 := ⟨Tryd.prog.types.size - 1, by have h : 53 < Tryd.prog.types.size := Tryd.row33; generalize Tryd.prog.types.size = n at *; omega⟩

theorem wf_i64 {x : Int} (h : i64ok x) : (Lit.int .i64 x).wf = true := by
  have e1 : IntKind.i64.min = -9223372036854775808 := rfl
  have e2 : IntKind.i64.max = 9223372036854775807 := rfl
  unfold i64ok at h
  simp only [Lit.wf, e1, e2, Bool.and_eq_true, decide_eq_true_eq]
  exact h
theorem wf_u64 {x : Int} (h : u64ok x) : (Lit.int .u64 x).wf = true := by
  have e1 : IntKind.u64.min = 0 := rfl
  have e2 : IntKind.u64.max = 18446744073709551615 := rfl
  unfold u64ok at h
  simp only [Lit.wf, e1, e2, Bool.and_eq_true, decide_eq_true_eq]
  exact h
theorem ok_i64 {x : Int} (h : (Lit.int .i64 x).wf = true) : i64ok x := by
  have e1 : IntKind.i64.min = -9223372036854775808 := rfl
  have e2 : IntKind.i64.max = 9223372036854775807 := rfl
  simp only [Lit.wf, e1, e2, Bool.and_eq_true, decide_eq_true_eq] at h
  exact h
theorem ok_u64 {x : Int} (h : (Lit.int .u64 x).wf = true) : u64ok x := by
  have e1 : IntKind.u64.min = 0 := rfl
  have e2 : IntKind.u64.max = 18446744073709551615 := rfl
  simp only [Lit.wf, e1, e2, Bool.and_eq_true, decide_eq_true_eq] at h
  exact h

/-- A node as a value. -/
def agg (d : Nd) : Value := .agg #[.int .i64 d.k, .int .u64 d.n, .int .i64 d.a, .int .i64 d.b, .int .i64 d.c]
theorem agg_inj {d e : Nd} (h : agg d = agg e) : d = e := by
  unfold agg at h
  simp only [Value.agg.injEq] at h
  have h := congrArg Array.toList h
  simp at h
  exact Nd.ext5 h.1 h.2.1 h.2.2.1 h.2.2.2.1 h.2.2.2.2

theorem key_ok {d : Nd} (h : d.ok) : ∃ kl, keyOf Tryd.prog 53 (agg d) = some kl := by
  obtain ⟨h1, h2, h3, h4, h5⟩ := h
  obtain ⟨s, hs⟩ := Tryd.tsz
  unfold keyOf agg
  rw [Tryd.underlying53]
  simp only [Tryd.key33, Value.formed, Tryd.underlying53, Tryd.cells53, hs]
  simp [Program.keyLits, Tryd.underlying53, Tryd.cells53, Tryd.underlying3, Tryd.underlying31, Tryd.cells3, Tryd.cells31, Value.cells, wf_i64 h1, wf_u64 h2, wf_i64 h3, wf_i64 h4, wf_i64 h5]

/-- The map's datum holds just the nodes of a list, each with its ref. -/
def Reg (D : DataW Unit) (L : List Nd) : Prop :=
  IsMap D ∧ ∀ (d : Nd) (kl : Lit), keyOf Tryd.prog 53 (agg d) = some kl → Maps.has D kl = (ix d L).isSome ∧ D.atKey kl (.lit (.int .i64 0)) = .lit (.int .i64 (((ix d L).getD 0 : Nat) : Int))

theorem ix_snoc_same {d : Nd} {L : List Nd} (h : ix d L = none) : ix d (L ++ [d]) = some L.length :=
  ix_of (by simp) (getD_snoc_new L d) (fun j hj => by rw [getD_snoc_old hj]; exact ix_none h j hj)
theorem ix_snoc_other {d e : Nd} {L : List Nd} (h : d ≠ e) : ix d (L ++ [e]) = ix d L := by
  cases hx : ix d L with
  | some i =>
    obtain ⟨h1, h2, h3⟩ := ix_some hx
    exact ix_of (by simp; omega) (by rw [getD_snoc_old h1]; exact h2) (fun j hj => by rw [getD_snoc_old (by omega)]; exact h3 j hj)
  | none =>
    refine ix_no fun j hj => ?_
    simp only [List.length_append, List.length_cons, List.length_nil] at hj
    by_cases hl : j < L.length
    · rw [getD_snoc_old hl]; exact ix_none hx j hl
    · obtain rfl : j = L.length := by omega
      rw [getD_snoc_new]; exact Ne.symm h

theorem Reg.empty : Reg (.map []) [] := ⟨isMap_empty, fun _ _ _ => ⟨rfl, rfl⟩⟩
theorem Reg.put {D : DataW Unit} {L : List Nd} (h : Reg D L) {e : Nd} {ke : Lit} (hke : keyOf Tryd.prog 53 (agg e) = some ke) (hn : ix e L = none) : Reg (D.put ke (.lit (.int .i64 (L.length : Int)))) (L ++ [e]) := by
  refine ⟨h.1.put _ _, fun d kl hd => ?_⟩
  by_cases hde : d = e
  · subst hde
    obtain rfl : kl = ke := by rw [hd] at hke; exact Option.some.inj hke
    rw [ix_snoc_same hn]
    exact ⟨has_put_same h.1 (law33.key hd) _, atKey_put_same h.1 (law33.key hd) _ _⟩
  · have hne : kl ≠ ke := fun e' => hde (agg_inj (law33.inj hd (e' ▸ hke)))
    rw [ix_snoc_other hde, has_put_other hne, atKey_put_other hne]
    exact h.2 d kl hd
end Go.Proofs.YtgjhhipkfglpgaaDoor

namespace Go.Proofs.YtgjhhipkfglpgaaDoor
open Go.RowKit Go.Maps

/-- An arena of the program: its box, its row of nodes, its map. -/
structure Ar (w : World) (b g bm cap lim : Nat) (L : List Nd) : Prop where
  box : w.heap[b]? = some (.cells #[.slice (some ⟨g, 0, none⟩) L.length cap, .map (some bm), .int .i64 lim] 72 (0, 0))
  own : w.ownsRow 0 53 5 (.slice (some ⟨g, 0, none⟩) L.length cap) L.length (cells L)
  reg : ∃ D : DataW Unit, w.ownsMap Tryd.prog 53 (plainElem Tryd.prog 3) bm L.length D ∧ Reg D L
  nbg : b ≠ g
  nbm : b ≠ bm
  ngm : g ≠ bm
  len : L.length ≤ lim
  max : lim ≤ 65536
  wf : WF L

theorem lt_of_heap {w : World} {b : Nat} {o : Obj} (h : w.heap[b]? = some o) : b < w.heap.size := by
  rcases Nat.lt_or_ge b w.heap.size with h1 | h1
  · exact h1
  · rw [Array.getElem?_eq_none h1] at h; cases h

section
variable {w : World} {b g bm cap lim : Nat} {L : List Nd}
theorem Ar.blt (h : Ar w b g bm cap lim L) : b < w.heap.size := lt_of_heap h.box
theorem Ar.glt (h : Ar w b g bm cap lim L) : g < w.heap.size := (h.own.lt g rfl).2
theorem Ar.mlt (h : Ar w b g bm cap lim L) : bm < w.heap.size := by obtain ⟨D, hD, _⟩ := h.reg; exact hD.lt
theorem Ar.c0 (h : Ar w b g bm cap lim L) : w.cell? ⟨b, 0, none⟩ = some (.slice (some ⟨g, 0, none⟩) L.length cap) := by rw [cell_of_row w b 0 _ _ _ h.box]; rfl
theorem Ar.c1 (h : Ar w b g bm cap lim L) : w.cell? ⟨b, 1, none⟩ = some (.map (some bm)) := by rw [cell_of_row w b 1 _ _ _ h.box]; rfl
theorem Ar.c2 (h : Ar w b g bm cap lim L) : w.cell? ⟨b, 2, none⟩ = some (.int .i64 lim) := by rw [cell_of_row w b 2 _ _ _ h.box]; rfl
theorem Ar.row (h : Ar w b g bm cap lim L) : rowAt w g L := ownsRow_row h.own
theorem Ar.small (h : Ar w b g bm cap lim L) : L.length ≤ 65536 := Nat.le_trans h.len h.max
theorem Ar.keep (h : Ar w b g bm cap lim L) {w' : World} (h1 : w'.heap[b]? = w.heap[b]?) (h2 : w'.heap[g]? = w.heap[g]?) (h3 : w'.heap[bm]? = w.heap[bm]?) : Ar w' b g bm cap lim L := by
  refine ⟨h1.trans h.box, ?_, ?_, h.nbg, h.nbm, h.ngm, h.len, h.max, h.wf⟩
  · obtain ⟨e, h'⟩ := h.own
    refine ⟨e, ?_⟩
    rcases h' with h' | ⟨g', cap', cur, hv, hb, hg, rest⟩
    · exact .inl h'
    · refine .inr ⟨g', cap', cur, hv, hb, ?_, rest⟩
      have : g' = g := by simpa using (congrArg (fun v => match v with | Value.slice (some a) _ _ => a.block | _ => 0) hv).symm
      rw [this] at hg ⊢; exact h2.trans hg
  · obtain ⟨D, ⟨es, clock, hb, rest⟩, hr⟩ := h.reg
    exact ⟨D, ⟨es, clock, h3.trans hb, rest⟩, hr⟩
theorem Ar.below (h : Ar w b g bm cap lim L) {w' : World} (hb : Below w.heap.size w w') : Ar w' b g bm cap lim L :=
  h.keep (hb.block b h.blt) (hb.block g h.glt) (hb.block bm h.mlt)
end

def limZ (x : Int) : Nat := (min (max x 1) 65536).toNat
theorem limZ_cast (x : Int) : ((limZ x : Nat) : Int) = min (max x 1) 65536 := by unfold limZ; omega
theorem limZ_bd (x : Int) : 1 ≤ limZ x ∧ limZ x ≤ 65536 := by unfold limZ; omega

def NewPost (x : Int) (w : World) (e : Ending) (w' : World) : Prop :=
  ∃ b g bm, e = .returned (.pointer (some ⟨b, 0, none⟩)) ∧ Ar w' b g bm 1 (limZ x) [zN] ∧ w.heap.size ≤ b ∧ w.heap.size ≤ g ∧ w.heap.size ≤ bm ∧ Below w.heap.size w w'

theorem zN_ok : zN.ok := by simp [zN, Nd.ok, i64ok, u64ok]

theorem new_close {x l : Int} {w w1 : World} {D : DataW Unit} (hl : ((limZ x : Nat) : Int) = l) (ho : w1.ownsMap Tryd.prog 53 (plainElem Tryd.prog 3) (w.heap.size + 1) 1 D) (hr : Reg D [zN])
    (hg : ((w.alloc (.cells #[.int .i64 0, .int .u64 0, .int .i64 0, .int .i64 0, .int .i64 0] 53)).alloc (.map #[] 0)).grownBy w1 (some (w.heap.size + 1))) (hsz : w1.heap.size = w.heap.size + 1 + 1) :
    NewPost x w (.returned (.pointer (some ⟨w.heap.size + 1 + 1, 0, none⟩))) (w1.alloc (.cells #[.slice (some ⟨w.heap.size, 0, none⟩) 1 1, .map (some (w.heap.size + 1)), .int .i64 l] 72)) := by
  subst hl
  have hbd := limZ_bd x
  have hb : Below w.heap.size w w1 := (((Below.refl _ _).alloc (Nat.le_refl _) _).alloc (by simp) _).grown hg (by simp; omega) (fun k hk => by simp at hk; omega)
  have hbox : (w1.alloc (.cells #[.slice (some ⟨w.heap.size, 0, none⟩) 1 1, .map (some (w.heap.size + 1)), .int .i64 (limZ x : Nat)] 72)).heap[w.heap.size + 1 + 1]? = some (.cells #[.slice (some ⟨w.heap.size, 0, none⟩) 1 1, .map (some (w.heap.size + 1)), .int .i64 (limZ x : Nat)] 72) := by
    rw [← hsz]; exact heap_alloc_new w1 _
  have hrow : w1.heap[w.heap.size]? = some (.cells #[.int .i64 0, .int .u64 0, .int .i64 0, .int .i64 0, .int .i64 0] 53) := by
    rw [hg.block _ (by simp; omega) (by simp)]
    rw [Below.heap_alloc _ _ _ (by simp)]
    exact heap_alloc_new w _
  refine ⟨w.heap.size + 1 + 1, w.heap.size, w.heap.size + 1, rfl, ⟨hbox, ?_, ⟨D, ho.alloc _, hr⟩, by omega, by omega, by omega, by simp; omega, hbd.2, WF.one⟩, by omega, Nat.le_refl _, by omega, hb.alloc hb.size _⟩
  refine ⟨by simp [cells, vals], .inr ⟨w.heap.size, 1, #[.int .i64 0, .int .u64 0, .int .i64 0, .int .i64 0, .int .i64 0], rfl, Nat.zero_le _, ?_, by simp, by simp [maxLen], by simp, by simp [cells, vals, zN]⟩⟩
  rw [Below.heap_alloc _ _ _ (by omega)]
  exact hrow

set_option maxHeartbeats 1000000 in
set_option maxRecDepth 100000 in
theorem new_any (x : Int) (w : World) : Calls Tryd.prog 17 #[.int .i64 x] w (NewPost x w) := by
  have hmm := @run_makeMap Tryd.prog
  obtain ⟨kl, hkl⟩ := key_ok zN_ok
  have hm0 := World.ownsMap_made (H := Unit) (w.alloc (.cells #[.int .i64 0, .int .u64 0, .int .i64 0, .int .i64 0, .int .i64 0] 53)) Tryd.prog 53 (plainElem Tryd.prog 3)
  obtain ⟨w1, hrun, hown, hturn⟩ := hm0.store law33 Tryd.underlying70 (by simp [maxLen]) hkl (plainElem_int (a := 0) Tryd.underlying3 (by decide))
  have hreg : Reg _ [zN] := Reg.empty.put hkl rfl
  have hgr := hturn.grown
  rw [World.size_alloc] at hrun hown hgr
  unfold agg zN at hrun
  simp only at hrun
  have HO := Lib.hid hown
  have HG := Lib.hid hgr
  have HREG := Lib.hid hreg
  have hsz : w1.heap.size = w.heap.size + 1 + 1 := by
    obtain ⟨es, c, es', c', _, rfl⟩ := hturn
    simp [ChangeMaps.setBlock]
  clear hm0 hturn hown hgr hreg hkl
  go_enter Tryd.func17, Tryd.ntmps17
  go_wp2
  all_goals
    go_ret
    exact new_close (by rw [limZ_cast]; omega) HO.out HREG.out HG.out hsz
end Go.Proofs.YtgjhhipkfglpgaaDoor

namespace Go.Proofs.YtgjhhipkfglpgaaDoor
open Go.RowKit Go.Maps

def onlyB (m a b c : Int) : Bool := (decide (0 < m) || decide (a = 0)) && ((decide (1 < m) || decide (b = 0)) && (decide (2 < m) || decide (c = 0)))

set_option maxRecDepth 100000 in
set_option maxHeartbeats 2000000 in
theorem only_any (k n a b c m : Int) (hm : m = 0 ∨ m = 1 ∨ m = 2 ∨ m = 3) (w : World) :
    Calls Tryd.prog 36 #[.agg #[.int .i64 k, .int .u64 n, .int .i64 a, .int .i64 b, .int .i64 c], .int .i64 m] w fun e w' => e = .returned (.bool (onlyB m a b c)) ∧ w.alloc (.cells #[.int .i64 k, .int .u64 n, .int .i64 a, .int .i64 b, .int .i64 c] 53) = w' := by
  have ha : (a == 0) = true ∨ (a == 0) = false := by cases a == 0 <;> simp
  have hb : (b == 0) = true ∨ (b == 0) = false := by cases b == 0 <;> simp
  have hc : (c == 0) = true ∨ (c == 0) = false := by cases c == 0 <;> simp
  have ea : decide (a = 0) = (a == 0) := by rw [Bool.eq_iff_iff]; simp
  have eb : decide (b = 0) = (b == 0) := by rw [Bool.eq_iff_iff]; simp
  have ec : decide (c = 0) = (c == 0) := by rw [Bool.eq_iff_iff]; simp
  unfold onlyB
  rw [ea, eb, ec]
  clear ea eb ec
  rcases hm with rfl | rfl | rfl | rfl
  · rcases ha with ha | ha
    · rcases hb with hb | hb
      · rcases hc with hc | hc
        all_goals
          rw [ha, hb, hc]
          go_enter Tryd.func36, Tryd.ntmps36
          go_wp2
          go_ret
          exact ⟨rfl, rfl⟩
      · rw [ha, hb]
        clear hc
        go_enter Tryd.func36, Tryd.ntmps36
        go_wp2
        go_ret
        exact ⟨rfl, rfl⟩
    · rw [ha]
      clear hb hc
      go_enter Tryd.func36, Tryd.ntmps36
      go_wp2
      go_ret
      exact ⟨rfl, rfl⟩
  · clear ha
    rcases hb with hb | hb
    · rcases hc with hc | hc
      all_goals
        rw [hb, hc]
        go_enter Tryd.func36, Tryd.ntmps36
        go_wp2
        go_ret
        exact ⟨rfl, rfl⟩
    · rw [hb]
      clear hc
      go_enter Tryd.func36, Tryd.ntmps36
      go_wp2
      go_ret
      exact ⟨rfl, rfl⟩
  · clear ha hb
    rcases hc with hc | hc
    all_goals
      rw [hc]
      go_enter Tryd.func36, Tryd.ntmps36
      go_wp2
      go_ret
      exact ⟨rfl, rfl⟩
  · clear ha hb hc
    go_enter Tryd.func36, Tryd.ntmps36
    go_wp2
    go_ret
    exact ⟨rfl, rfl⟩
end Go.Proofs.YtgjhhipkfglpgaaDoor
