/- From the listed package variables to what the walks read of them. -/
import Derived.Test.YtmnmjekpndeemaaGreatDoorRb
import Derived.ProofKit
import Derived.LaidMore
import Derived.OpenShut
import Derived.Stop.Joined
import Derived.Stop.LaidErr
import Derived.Deep.Strs
import Derived.Lay
import Derived.Shelf.Vars
import Derived.Lib.LaidTab
namespace Go.Proofs.YtmnmjekpndeemaaGreatDoor
open Go.ChangeShapes Go.WideShapes Go.ChangeAt Go.RowKit Go.Deep

def laidL : List (String × DataW Unit) := [("math/bits.deBruijn32tab", Rows.laid_math_bits_deBruijn32tab), ("math/bits.deBruijn64tab", Rows.laid_math_bits_deBruijn64tab), ("internal/strconv.uint64pow10", Rows.laid_internal_strconv_uint64pow10), ("unicode/utf8.acceptRanges", Rows.laid_unicode_utf8_acceptRanges), ("strconv.ErrRange", Rows.laid_strconv_ErrRange), ("strconv.ErrSyntax", Rows.laid_strconv_ErrSyntax), ("undertone/term.shapes", Rows.laid_undertone_term_shapes), ("undertone/code.partCounts", Rows.laid_undertone_code_partCounts), ("unicode/utf8.first", Rows.laid_unicode_utf8_first)]
theorem own : ownKnob Tryz.prog.godebug = none := by kernel_rfl
theorem gShapes : Tryz.prog.globalNamed "undertone/term.shapes" = some 1 := by kernel_rfl
theorem tShapes : (Tryz.prog.globals[1]?).map (·.type) = some 96 := by kernel_rfl
theorem gCnt : Tryz.prog.globalNamed "undertone/code.partCounts" = some 0 := by kernel_rfl
theorem tCnt : (Tryz.prog.globals[0]?).map (·.type) = some 92 := by kernel_rfl
theorem gPow : Tryz.prog.globalNamed "internal/strconv.uint64pow10" = some 2 := by kernel_rfl
theorem tPow : (Tryz.prog.globals[2]?).map (·.type) = some 123 := by kernel_rfl
theorem gSyn : Tryz.prog.globalNamed "strconv.ErrSyntax" = some 4 := by kernel_rfl
theorem tSyn : (Tryz.prog.globals[4]?).map (·.type) = some 103 := by kernel_rfl
theorem gRng : Tryz.prog.globalNamed "strconv.ErrRange" = some 5 := by kernel_rfl
theorem tRng : (Tryz.prog.globals[5]?).map (·.type) = some 103 := by kernel_rfl
theorem star : "*" ++ "errors.errorString" = "*errors.errorString" := by decide
theorem rowES (u : TypeId) (h : Tryz.prog.typeName? 3 u = some "*errors.errorString") : u = 153 :=
  typeName_ptr_named (nm := "errors.errorString") (by rw [star]; kernel_rfl) (by kernel_rfl) (by decide) u (by rw [star]; exact h)
theorem Tryz.cells95 : Tryz.prog.cellsOf 95 = 3 := by kernel_rfl
theorem Tryz.cells96 : Tryz.prog.cellsOf 96 = 30 := by kernel_rfl

theorem laid_tail {P : Program} {x : String × DataW Unit} {r : List (String × DataW Unit)} {W : World} (h : laidMet P (x :: r) W) : laidMet P r W := by
  obtain ⟨ps, ⟨g, t, cs, fuel, p, q, _, _, _, _, hr, rfl⟩, hn, ha⟩ := h
  exact ⟨q, hr, (List.nodup_append.1 hn).2.1, fun b off hm => ha b off (List.mem_append.2 (.inr hm))⟩

def shapeAt (i : Nat) : DataW Unit := .agg [.lit (.int .u64 (loT i)), .lit (.int .u64 (hiT i)), .lit (.int .i64 (ptT i))]
theorem laid_shapes : (Rows.laid_undertone_term_shapes : DataW Unit) = .agg ((List.range 10).map shapeAt) := by
  simp [Rows.laid_undertone_term_shapes, List.range_succ, shapeAt, loT, hiT, ptT, maxU]
theorem laid_pow : (Rows.laid_internal_strconv_uint64pow10 : DataW Unit) = Lib.tabData .u64 Lib.pow10Tab := by
  simp [Rows.laid_internal_strconv_uint64pow10, Lib.tabData, Lib.pow10Tab, List.range_succ]
theorem laid_cnt : (Rows.laid_undertone_code_partCounts : DataW Unit) = Lib.tabData .i64 ((List.range 10).map fun i => many (i : Nat)) := by
  simp [Rows.laid_undertone_code_partCounts, Lib.tabData, List.range_succ, many]

theorem take_drop_one {l : List Value} {i : Nat} {v : Value} (h : (l.drop i).take 1 = [v]) : l[i]? = some v := by
  have h2 := congrArg (fun m : List Value => m[0]?) h
  simp only [List.getElem?_take, List.getElem?_drop] at h2
  simpa using h2

theorem shp_of_head {W : World} {r : List (String × DataW Unit)} (h : laidMet Tryz.prog (("undertone/term.shapes", Rows.laid_undertone_term_shapes) :: r) W) : Shp W := by
  obtain ⟨ps, ⟨g0, t0, cs0, f0, p0, q0, hg0, ht0, hv0, hd0, _, _⟩, _, _⟩ := h
  obtain rfl := Option.some.inj (gShapes.symm.trans hg0)
  obtain rfl := Option.some.inj (tShapes.symm.trans ht0)
  obtain ⟨xs, m, rfl, hx, hlen, hn, hel⟩ := DataW.trod_array Tryz.underlying96 hd0
  rw [laid_shapes] at hx
  simp only [Prod.mk.injEq, DataW.agg.injEq] at hx
  intro i hi
  have h1 := hel i hi
  have hxi : xs[i]? = some (xs[i]'(by omega)) := List.getElem?_eq_getElem (by omega)
  rw [hxi, Tryz.cells95] at h1
  have hfst : (xs[i]'(by omega)).1 = shapeAt i := by
    have := congrArg (fun l : List (DataW Unit) => l[i]?) hx.1
    simp only [List.getElem?_map, hxi, List.getElem?_range hi, Option.map_some, Option.some.injEq] at this
    exact this.symm
  obtain ⟨y0, y1, y2, n, he, hl, k0, k1, k2⟩ := trod_struct3 Tryz.underlying95 h1
  have he1 := congrArg Prod.fst he
  rw [hfst] at he1
  unfold shapeAt at he1
  simp only [DataW.agg.injEq, List.cons.injEq, and_true] at he1
  obtain ⟨a0, c0, e0, _⟩ := DataW.trod_int Tryz.underlying42 k0
  obtain ⟨a1, c1, e1, _⟩ := DataW.trod_int Tryz.underlying42 k1
  obtain ⟨a2, c2, e2, _⟩ := DataW.trod_int Tryz.underlying3 k2
  rw [e0, e1, e2] at he1
  simp only [DataW.lit.injEq, Lit.int.injEq, true_and] at he1
  obtain ⟨rfl, rfl, rfl⟩ := he1
  have cell : ∀ j v, j < 3 → (((cs0.toList.drop (i * 3)).take 3).drop j).take 1 = [v] → W.cell? ⟨1, i * 3 + j, none⟩ = some v := by
    intro j v hj hv
    have h2 := take_drop_one hv
    rw [List.getElem?_take, if_pos hj, List.getElem?_drop] at h2
    rw [World.var?_cell hg0 hv0 (i * 3 + j)]
    simpa using h2
  refine ⟨?_, ?_, ?_⟩
  · simp only [Tryz.cells42] at c0; exact cell 0 _ (by omega) c0
  · simp only [Tryz.cells42] at c1; exact cell 1 _ (by omega) c1
  · simp only [Tryz.cells3] at c2; exact cell 2 _ (by omega) c2

set_option maxRecDepth 100000 in
theorem env_of_laid {W : World} (h : laidMetH Tryz.prog laidL W) (hsh : W.ShapedOpen Tryz.prog) : Env W := by
  rw [MakeChecks.laidMetH_plain _ _ _ (by kernel_rfl)] at h
  have h2 := laid_tail (laid_tail h)
  have h4 := laid_tail (laid_tail h2)
  have h5 := laid_tail h4
  have h6 := laid_tail h5
  have h7 := laid_tail h6
  rw [laid_pow] at h2
  rw [laid_cnt] at h7
  have t := Lib.tabIs_of_head gCnt tCnt Tryz.underlying92 Tryz.underlying3 Tryz.cells3 (by kernel_rfl) h7
  obtain ⟨a1, s1, hv1, -, -, -⟩ := laid_sentinel h4 gRng tRng Tryz.underlying103 rowES Tryz.underlying153 Tryz.underlying155 rfl rfl Tryz.underlying9 (by kernel_rfl) (by kernel_rfl)
  obtain ⟨a2, s2, hv2, -, -, -⟩ := laid_sentinel h5 gSyn tSyn Tryz.underlying103 rowES Tryz.underlying153 Tryz.underlying155 rfl rfl Tryz.underlying9 (by kernel_rfl) (by kernel_rfl)
  refine ⟨shp_of_head h6, fun i hi => ?_, Lib.tabIs_of_head gPow tPow Tryz.underlying123 Tryz.underlying42 Tryz.cells42 (by kernel_rfl) h2, ?_, ?_, ?_⟩
  · have := t.cell gCnt i (by simpa using hi)
    rw [this]
    simp [List.getD, hi]
  · exact cell_of_shapedOpen_int (t := 3) (zero := #[.int .i64 0]) hsh (of_decide_eq_true (by kernel_rfl)) (by kernel_rfl) rfl (by kernel_rfl) (by kernel_rfl) Tryz.underlying3
  · exact ⟨_, by have h0 := World.var?_cell gSyn hv2 0; simpa using h0, .inr ⟨_, _, rfl⟩⟩
  · exact ⟨_, by have h0 := World.var?_cell gRng hv1 0; simpa using h0, .inr ⟨_, _, rfl⟩⟩

set_option maxRecDepth 100000 in
/-- A world that holds them. -/
theorem laid_met (os : Os) (args : Array Value) : laidMetH Tryz.prog laidL ((World.laidAll Tryz.prog os laidL).forCall (fun _ _ => 0) ⟨#[], args, []⟩).memory := by
  rw [MakeChecks.laidMetH_plain _ _ _ (by kernel_rfl)]
  exact laidMet_laidAll _ (by kernel_rfl) (by kernel_rfl)
end Go.Proofs.YtmnmjekpndeemaaGreatDoor
