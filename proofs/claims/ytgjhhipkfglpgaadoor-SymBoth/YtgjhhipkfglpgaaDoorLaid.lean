/- From the listed table of shapes to the cells that the walks read. -/
import Derived.Test.YtgjhhipkfglpgaaDoorQe
import Derived.ProofKit
import Derived.LaidMore
import Derived.OpenShut
import Derived.Stop.Joined
import Derived.Deep.Strs
namespace Go.Proofs.YtgjhhipkfglpgaaDoor
open Go.ChangeShapes Go.WideShapes Go.ChangeAt Go.RowKit Go.Deep

def laidL : List (String × DataW Unit) := [("undertone/term.shapes", Rows.laid_undertone_term_shapes)]
theorem own : ownKnob Tryd.prog.godebug = none := by kernel_rfl
theorem gShapes : Tryd.prog.globalNamed "undertone/term.shapes" = some 0 := by kernel_rfl
theorem tShapes : (Tryd.prog.globals[0]?).map (·.type) = some 84 := by kernel_rfl
theorem Tryd.cells83 : Tryd.prog.cellsOf 83 = 3 := by kernel_rfl
theorem Tryd.cells84 : Tryd.prog.cellsOf 84 = 30 := by kernel_rfl

def shapeAt (i : Nat) : DataW Unit := .agg [.lit (.int .u64 (loT i)), .lit (.int .u64 (hiT i)), .lit (.int .i64 (ptT i))]
theorem laid_shapes : (Rows.laid_undertone_term_shapes : DataW Unit) = .agg ((List.range 10).map shapeAt) := by
  simp [Rows.laid_undertone_term_shapes, List.range_succ, shapeAt, loT, hiT, ptT, maxU]

theorem take_drop_one {l : List Value} {i : Nat} {v : Value} (h : (l.drop i).take 1 = [v]) : l[i]? = some v := by
  have h2 := congrArg (fun m : List Value => m[0]?) h
  simp only [List.getElem?_take, List.getElem?_drop] at h2
  simpa using h2

theorem shp_of_laid {W : World} (h : laidMetH Tryd.prog laidL W) : Shp W := by
  rw [MakeChecks.laidMetH_plain _ _ _ (by kernel_rfl)] at h
  obtain ⟨ps, ⟨g0, t0, cs0, f0, p0, q0, hg0, ht0, hv0, hd0, _, _⟩, _, _⟩ := h
  obtain rfl := Option.some.inj (gShapes.symm.trans hg0)
  obtain rfl := Option.some.inj (tShapes.symm.trans ht0)
  obtain ⟨xs, m, rfl, hx, hlen, hn, hel⟩ := DataW.trod_array Tryd.underlying84 hd0
  rw [laid_shapes] at hx
  simp only [Prod.mk.injEq, DataW.agg.injEq] at hx
  intro i hi
  have h1 := hel i hi
  have hxi : xs[i]? = some (xs[i]'(by omega)) := List.getElem?_eq_getElem (by omega)
  rw [hxi, Tryd.cells83] at h1
  have hfst : (xs[i]'(by omega)).1 = shapeAt i := by
    have := congrArg (fun l : List (DataW Unit) => l[i]?) hx.1
    simp only [List.getElem?_map, hxi, List.getElem?_range hi, Option.map_some, Option.some.injEq] at this
    exact this.symm
  obtain ⟨y0, y1, y2, n, he, hl, k0, k1, k2⟩ := trod_struct3 Tryd.underlying83 h1
  have he1 := congrArg Prod.fst he
  rw [hfst] at he1
  unfold shapeAt at he1
  simp only [DataW.agg.injEq, List.cons.injEq, and_true] at he1
  obtain ⟨a0, c0, e0, _⟩ := DataW.trod_int Tryd.underlying31 k0
  obtain ⟨a1, c1, e1, _⟩ := DataW.trod_int Tryd.underlying31 k1
  obtain ⟨a2, c2, e2, _⟩ := DataW.trod_int Tryd.underlying3 k2
  rw [e0, e1, e2] at he1
  simp only [DataW.lit.injEq, Lit.int.injEq, true_and] at he1
  obtain ⟨rfl, rfl, rfl⟩ := he1
  have cell : ∀ j v, j < 3 → (((cs0.toList.drop (i * 3)).take 3).drop j).take 1 = [v] → W.cell? ⟨0, i * 3 + j, none⟩ = some v := by
    intro j v hj hv
    have h2 := take_drop_one hv
    rw [List.getElem?_take, if_pos hj, List.getElem?_drop] at h2
    rw [World.var?_cell hg0 hv0 (i * 3 + j)]
    simpa using h2
  refine ⟨?_, ?_, ?_⟩
  · simp only [Tryd.cells31] at c0; exact cell 0 _ (by omega) c0
  · simp only [Tryd.cells31] at c1; exact cell 1 _ (by omega) c1
  · simp only [Tryd.cells3] at c2; exact cell 2 _ (by omega) c2

/-- The door's own heap meets the condition. -/
theorem door_met (os : Os) (args : Array Value) : laidMetH Tryd.prog laidL ((World.doorLaid Tryd.prog 400 os).forCall (fun _ _ => 0) ⟨#[], args, []⟩).memory :=
  laidMetH_of_parts3 (fuel := 8) (laidMet_of_run' 8 (by kernel_rfl) (by kernel_rfl)) (by kernel_rfl) (by kernel_rfl)
end Go.Proofs.YtgjhhipkfglpgaaDoor
