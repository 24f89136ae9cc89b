/- From the listed tables of shapes (of terms, of recipes) to the cells that the walks read. -/
import Derived.Test.YtlckajnbmkkpeaaDoorLaid
import Derived.Test.YtlckajnbmkkpeaaDoorEd
namespace Go.Proofs.YtlckajnbmkkpeaaDoor
open Go.ChangeShapes Go.WideShapes Go.ChangeAt Go.RowKit Go.Deep

def laidL4 : List (String × DataW Unit) := [("undertone/term.shapes", Rows.laid_undertone_term_shapes), ("undertone/recipe.shapes", Rows.laid_undertone_recipe_shapes)]
theorem gRecs : Tryd.prog.globalNamed "undertone/recipe.shapes" = some 1 := by kernel_rfl
theorem tRecs : (Tryd.prog.globals[1]?).map (·.type) = some 141 := by kernel_rfl
theorem Tryd.cellsRs : Tryd.prog.cellsOf 140 = 3 := by kernel_rfl
theorem laid_tail {x : String × DataW Unit} {r : List (String × DataW Unit)} {W : World} (h : laidMet Tryd.prog (x :: r) W) : laidMet Tryd.prog r W := by
  obtain ⟨ps, ⟨g, t, cs, fuel, p, q, _, _, _, _, hr, rfl⟩, hn, ha⟩ := h
  exact ⟨q, hr, (List.nodup_append.1 hn).2.1, fun b off hm => ha b off (List.mem_append.2 (.inr hm))⟩
def recAt (i : Nat) : DataW Unit := if i = 4 then .agg [.lit (.int .u64 0), .lit (.int .u64 0), .lit (.int .i64 0)] else .agg [.lit (.int .u64 (loS i)), .lit (.int .u64 (hiS i)), .lit (.int .i64 (ixS i))]
theorem laid_recs : (Rows.laid_undertone_recipe_shapes : DataW Unit) = .agg ((List.range 14).map recAt) := by
  simp [Rows.laid_undertone_recipe_shapes, List.range_succ, recAt, loS, hiS, ixS]
theorem shp_of_laid4 {W : World} (h : laidMetH Tryd.prog laidL4 W) : Shp W := by
  rw [MakeChecks.laidMetH_plain _ _ _ (by kernel_rfl)] at h
  obtain ⟨ps, ⟨g0, t0, cs0, f0, p0, q0, hg0, ht0, hv0, hd0, _, _⟩, _, _⟩ := h
  obtain rfl := Option.some.inj (gShapes.symm.trans hg0)
  obtain rfl := Option.some.inj (tShapes.symm.trans ht0)
  obtain ⟨xs, m, rfl, hx, hlen, hn, hel⟩ := DataW.trod_array Tryd.underlying129 hd0
  rw [laid_shapes] at hx
  simp only [Prod.mk.injEq, DataW.agg.injEq] at hx
  intro i hi
  have h1 := hel i hi
  have hxi : xs[i]? = some (xs[i]'(by omega)) := List.getElem?_eq_getElem (by omega)
  rw [hxi, Tryd.cells128] at h1
  have hfst : (xs[i]'(by omega)).1 = shapeAt i := by
    have := congrArg (fun l : List (DataW Unit) => l[i]?) hx.1
    simp only [List.getElem?_map, hxi, List.getElem?_range hi, Option.map_some, Option.some.injEq] at this
    exact this.symm
  obtain ⟨y0, y1, y2, n, he, hl, k0, k1, k2⟩ := trod_struct3 Tryd.underlying128 h1
  have he1 := congrArg Prod.fst he
  rw [hfst] at he1
  unfold shapeAt at he1
  simp only [DataW.agg.injEq, List.cons.injEq, and_true] at he1
  obtain ⟨a0, c0, e0, _⟩ := DataW.trod_int Tryd.underlying43 k0
  obtain ⟨a1, c1, e1, _⟩ := DataW.trod_int Tryd.underlying43 k1
  obtain ⟨a2, c2, e2, _⟩ := DataW.trod_int Tryd.underlying3 k2
  rw [e0, e1, e2] at he1
  simp only [DataW.lit.injEq, Lit.int.injEq, true_and] at he1
  obtain ⟨rfl, rfl, rfl⟩ := he1
  have cell : ∀ j v, j < 3 → (((cs0.toList.drop (i * 3)).take 3).drop j).take 1 = [v] → W.cell? ⟨0, i * 3 + j, none⟩ = some v := by
    intro j v hj hv
    have h2 := take_drop_one hv
    rw [List.getElem?_take, if_pos hj, List.getElem?_drop] at h2
    rw [World.var?_cell hg0 hv0 (i * 3 + j)]
    simpa using h2
  refine ⟨?_, ?_, ?_⟩
  · simp only [Tryd.cells43] at c0; exact cell 0 _ (by omega) c0
  · simp only [Tryd.cells43] at c1; exact cell 1 _ (by omega) c1
  · simp only [Tryd.cells3] at c2; exact cell 2 _ (by omega) c2

theorem rsh_of_laid4 {W : World} (h : laidMetH Tryd.prog laidL4 W) : Rsh W := by
  rw [MakeChecks.laidMetH_plain _ _ _ (by kernel_rfl)] at h
  have h := laid_tail h
  obtain ⟨ps, ⟨g0, t0, cs0, f0, p0, q0, hg0, ht0, hv0, hd0, _, _⟩, _, _⟩ := h
  obtain rfl := Option.some.inj (gRecs.symm.trans hg0)
  obtain rfl := Option.some.inj (tRecs.symm.trans ht0)
  obtain ⟨xs, m, rfl, hx, hlen, hn, hel⟩ := DataW.trod_array Tryd.underlying141 hd0
  rw [laid_recs] at hx
  simp only [Prod.mk.injEq, DataW.agg.injEq] at hx
  intro i hi hi4
  have h1 := hel i hi
  have hxi : xs[i]? = some (xs[i]'(by omega)) := List.getElem?_eq_getElem (by omega)
  rw [hxi, Tryd.cellsRs] at h1
  have hfst : (xs[i]'(by omega)).1 = recAt i := by
    have := congrArg (fun l : List (DataW Unit) => l[i]?) hx.1
    simp only [List.getElem?_map, hxi, List.getElem?_range hi, Option.map_some, Option.some.injEq] at this
    exact this.symm
  obtain ⟨y0, y1, y2, n, he, hl, k0, k1, k2⟩ := trod_struct3 Tryd.underlying140 h1
  have he1 := congrArg Prod.fst he
  rw [hfst] at he1
  unfold recAt at he1
  rw [if_neg hi4] at he1
  simp only [DataW.agg.injEq, List.cons.injEq, and_true] at he1
  obtain ⟨a0, c0, e0, _⟩ := DataW.trod_int Tryd.underlying43 k0
  obtain ⟨a1, c1, e1, _⟩ := DataW.trod_int Tryd.underlying43 k1
  obtain ⟨a2, c2, e2, _⟩ := DataW.trod_int Tryd.underlying3 k2
  rw [e0, e1, e2] at he1
  simp only [DataW.lit.injEq, Lit.int.injEq, true_and] at he1
  obtain ⟨rfl, rfl, rfl⟩ := he1
  have cell : ∀ j v, j < 3 → (((cs0.toList.drop (i * 3)).take 3).drop j).take 1 = [v] → W.cell? ⟨1, i * 3 + j, none⟩ = some v := by
    intro j v hj hv
    have h2 := take_drop_one hv
    rw [List.getElem?_take, if_pos hj, List.getElem?_drop] at h2
    rw [World.var?_cell hg0 hv0 (i * 3 + j)]
    simpa using h2
  refine ⟨?_, ?_, ?_⟩
  · simp only [Tryd.cells43] at c0; exact cell 0 _ (by omega) c0
  · simp only [Tryd.cells43] at c1; exact cell 1 _ (by omega) c1
  · simp only [Tryd.cells3] at c2; exact cell 2 _ (by omega) c2

/-- The door's own heap meets the condition. -/
theorem door_met4 (os : Os) (args : Array Value) : laidMetH Tryd.prog laidL4 ((World.doorLaid Tryd.prog 400 os).forCall (fun _ _ => 0) ⟨#[], args, []⟩).memory :=
  laidMetH_of_parts3 (fuel := 8) (laidMet_of_run' 8 (by kernel_rfl) (by kernel_rfl)) (by kernel_rfl) (by kernel_rfl)
end Go.Proofs.YtlckajnbmkkpeaaDoor
