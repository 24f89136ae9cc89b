/- The map from nodes to refs. -/
import Derived.Test.YtemjhhjalnlmlaaDoorMem
import Derived.Maps.OwnSet
import Derived.DeepKeys4
namespace Go.Proofs.YtemjhhjalnlmlaaDoor
open Go.RowKit Go.Maps

theorem Tryd.laidOut : laidOutB Tryd.prog = true := by kernel_rfl
theorem Tryd.row33 : (33 : TypeId) < Tryd.prog.types.size := of_decide_eq_true (by kernel_rfl)
theorem Tryd.wide33 : (match Tryd.prog.underlying 33 with | some (.array _ _) | some (.struct _) => true | _ => false) = true := by rw [Tryd.underlying33]
theorem law33 : Keyed Tryd.prog 33 := Keyed.of_law (deep_law_laid Tryd.laidOut (m := 2) (by omega) Tryd.row33 (by kernel_rfl) Tryd.wide33)
theorem Tryd.key33 : Tryd.prog.keyType 33 = true := by kernel_rfl
theorem Tryd.cells33 : Tryd.prog.cellsOf 33 = 5 := by kernel_rfl
theorem Tryd.cells3 : Tryd.prog.cellsOf 3 = 1 := by kernel_rfl
theorem Tryd.cells31 : Tryd.prog.cellsOf 31 = 1 := by kernel_rfl
theorem zero3 (w : World) : (zeroValue 3).run Tryd.prog w = .ok (.int .i64 0) w := by kernel_rfl
theorem Tryd.tsz : ∃ s, Tryd.prog.types.size + 1 = s + 2 := ⟨Tryd.prog.types.size - 1, by have h : 33 < Tryd.prog.types.size := Tryd.row33; generalize Tryd.prog.types.size = n at *; omega⟩

theorem wf_i64 {x : Int} (h : i64ok x) : (Lit.int .i64 x).wf = true := by
  have e1 : IntKind.i64.min = -9223372036854775808 := rfl
  have e2 : IntKind.i64.max = 9223372036854775807 := rfl
  unfold i64ok at h
  simp only [Lit.wf, e1, e2, Bool.and_eq_true, decide_eq_true_eq]
  exact h
theorem wf_u64 {x : Int} (h : u64ok x) : (Lit.int .u64 x).wf = true := by
  have e1 : IntKind.u64.min = 0 := rfl
  have e2 : IntKind.u64.max = 18446744073709551615 := rfl
  unfold u64ok at h
  simp only [Lit.wf, e1, e2, Bool.and_eq_true, decide_eq_true_eq]
  exact h
theorem ok_i64 {x : Int} (h : (Lit.int .i64 x).wf = true) : i64ok x := by
  have e1 : IntKind.i64.min = -9223372036854775808 := rfl
  have e2 : IntKind.i64.max = 9223372036854775807 := rfl
  simp only [Lit.wf, e1, e2, Bool.and_eq_true, decide_eq_true_eq] at h
  exact h
theorem ok_u64 {x : Int} (h : (Lit.int .u64 x).wf = true) : u64ok x := by
  have e1 : IntKind.u64.min = 0 := rfl
  have e2 : IntKind.u64.max = 18446744073709551615 := rfl
  simp only [Lit.wf, e1, e2, Bool.and_eq_true, decide_eq_true_eq] at h
  exact h

/-- A node as a value. -/
def agg (d : Nd) : Value := .agg #[.int .i64 d.k, .int .u64 d.n, .int .i64 d.a, .int .i64 d.b, .int .i64 d.c]
theorem agg_inj {d e : Nd} (h : agg d = agg e) : d = e := by
  unfold agg at h
  simp only [Value.agg.injEq] at h
  have h := congrArg Array.toList h
  simp at h
  exact Nd.ext5 h.1 h.2.1 h.2.2.1 h.2.2.2.1 h.2.2.2.2

theorem key_ok {d : Nd} (h : d.ok) : ∃ kl, keyOf Tryd.prog 33 (agg d) = some kl := by
  obtain ⟨h1, h2, h3, h4, h5⟩ := h
  obtain ⟨s, hs⟩ := Tryd.tsz
  unfold keyOf agg
  rw [Tryd.underlying33]
  simp only [Tryd.key33, Value.formed, Tryd.underlying33, Tryd.cells33, hs]
  simp [Program.keyLits, Tryd.underlying33, Tryd.cells33, Tryd.underlying3, Tryd.underlying31, Tryd.cells3, Tryd.cells31, Value.cells, wf_i64 h1, wf_u64 h2, wf_i64 h3, wf_i64 h4, wf_i64 h5]

/-- The map's datum holds just the nodes of a list, each with its ref. -/
def Reg (D : DataW Unit) (L : List Nd) : Prop :=
  IsMap D ∧ ∀ (d : Nd) (kl : Lit), keyOf Tryd.prog 33 (agg d) = some kl → Maps.has D kl = (ix d L).isSome ∧ D.atKey kl (.lit (.int .i64 0)) = .lit (.int .i64 (((ix d L).getD 0 : Nat) : Int))

theorem ix_snoc_same {d : Nd} {L : List Nd} (h : ix d L = none) : ix d (L ++ [d]) = some L.length :=
  ix_of (by simp) (getD_snoc_new L d) (fun j hj => by rw [getD_snoc_old hj]; exact ix_none h j hj)
theorem ix_snoc_other {d e : Nd} {L : List Nd} (h : d ≠ e) : ix d (L ++ [e]) = ix d L := by
  cases hx : ix d L with
  | some i =>
    obtain ⟨h1, h2, h3⟩ := ix_some hx
    exact ix_of (by simp; omega) (by rw [getD_snoc_old h1]; exact h2) (fun j hj => by rw [getD_snoc_old (by omega)]; exact h3 j hj)
  | none =>
    refine ix_no fun j hj => ?_
    simp only [List.length_append, List.length_cons, List.length_nil] at hj
    by_cases hl : j < L.length
    · rw [getD_snoc_old hl]; exact ix_none hx j hl
    · obtain rfl : j = L.length := by omega
      rw [getD_snoc_new]; exact Ne.symm h

theorem Reg.empty : Reg (.map []) [] := ⟨isMap_empty, fun d kl _ => ⟨rfl, rfl⟩⟩
theorem Reg.put {D : DataW Unit} {L : List Nd} (h : Reg D L) {e : Nd} {ke : Lit} (hke : keyOf Tryd.prog 33 (agg e) = some ke) (hn : ix e L = none) : Reg (D.put ke (.lit (.int .i64 (L.length : Int)))) (L ++ [e]) := by
  refine ⟨h.1.put _ _, fun d kl hd => ?_⟩
  by_cases hde : d = e
  · subst hde
    obtain rfl : kl = ke := by rw [hd] at hke; exact Option.some.inj hke
    rw [ix_snoc_same hn]
    exact ⟨has_put_same h.1 (law33.key hd) _, atKey_put_same h.1 (law33.key hd) _ _⟩
  · have hne : kl ≠ ke := fun e' => hde (agg_inj (law33.inj hd (e' ▸ hke)))
    rw [ix_snoc_other hde, has_put_other hne, atKey_put_other hne]
    exact h.2 d kl hd
end Go.Proofs.YtemjhhjalnlmlaaDoor
