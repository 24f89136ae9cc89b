/- From the listed package variables to what the walks read of them. -/
import Derived.Test.YtdihgfpnogiblaaDoorMb
import Derived.ProofKit
import Derived.LaidMore
import Derived.OpenShut
import Derived.Stop.Joined
import Derived.Stop.LaidErr
import Derived.Deep.Strs
import Derived.Lay
import Derived.Shelf.Vars
import Derived.Lib.LaidTab
namespace Go.Proofs.YtdihgfpnogiblaaDoor
open Go.ChangeShapes Go.WideShapes Go.ChangeAt Go.RowKit Go.Deep

def laidL : List (String × DataW Unit) := [("unicode/utf8.acceptRanges", Rows.laid_unicode_utf8_acceptRanges), ("undertone/token.arrows", Rows.laid_undertone_token_arrows), ("undertone/token.names", Rows.laid_undertone_token_names), ("unicode/utf8.first", Rows.laid_unicode_utf8_first)]
theorem own : ownKnob Tryd.prog.godebug = none := by kernel_rfl
theorem gArr : Tryd.prog.globalNamed "undertone/token.arrows" = some 1 := by kernel_rfl
theorem tArr : (Tryd.prog.globals[1]?).map (·.type) = some 58 := by kernel_rfl
theorem gNam : Tryd.prog.globalNamed "undertone/token.names" = some 0 := by kernel_rfl
theorem tNam : (Tryd.prog.globals[0]?).map (·.type) = some 57 := by kernel_rfl
theorem Tryd.cellsS : Tryd.prog.cellsOf 9 = 1 := by kernel_rfl
theorem laid_tail {P : Program} {x : String × DataW Unit} {r : List (String × DataW Unit)} {W : World} (h : laidMet P (x :: r) W) : laidMet P r W := by
  obtain ⟨ps, ⟨g, t, cs, fuel, p, q, _, _, _, _, hr, rfl⟩, hn, ha⟩ := h
  exact ⟨q, hr, (List.nodup_append.1 hn).2.1, fun b off hm => ha b off (List.mem_append.2 (.inr hm))⟩
theorem take_drop_one {l : List Value} {i : Nat} {v : Value} (h : (l.drop i).take 1 = [v]) : l[i]? = some v := by
  have h2 := congrArg (fun m : List Value => m[0]?) h
  simp only [List.getElem?_take, List.getElem?_drop] at h2
  simpa using h2
/-- An array of strings that is listed. -/
theorem strs_of_head {W : World} {nm : String} {g n : Nat} {T : TypeId} {r : List (String × DataW Unit)} {d : DataW Unit} {ls : List (List UInt8)} (hg : Tryd.prog.globalNamed nm = some g) (ht : (Tryd.prog.globals[g]?).map (·.type) = some T) (hu : Tryd.prog.underlying T = some (.array n 9))
    (hd : d = .agg (ls.map fun l => .lit (.string l))) (hn : ls.length = n) (h : laidMet Tryd.prog ((nm, d) :: r) W) : ∀ i, i < n → W.cell? ⟨g, i, none⟩ = some (.string ⟨(ls.getD i []).toArray⟩) := by
  obtain ⟨ps, ⟨g0, t0, cs0, f0, p0, q0, hg0, ht0, hv0, hd0, _, _⟩, _, _⟩ := h
  obtain rfl := Option.some.inj (hg.symm.trans hg0)
  obtain rfl := Option.some.inj (ht.symm.trans ht0)
  obtain ⟨xs, m, rfl, hx, hlen, hxn, hel⟩ := DataW.trod_array hu hd0
  rw [hd] at hx
  simp only [Prod.mk.injEq, DataW.agg.injEq] at hx
  intro i hi
  have h1 := hel i hi
  have hxi : xs[i]? = some (xs[i]'(by omega)) := List.getElem?_eq_getElem (by omega)
  rw [hxi, Tryd.cellsS] at h1
  have hfst : (xs[i]'(by omega)).1 = .lit (.string (ls.getD i [])) := by
    have := congrArg (fun l : List (DataW Unit) => l[i]?) hx.1
    simp only [List.getElem?_map, hxi, Option.map_some] at this
    rw [List.getElem?_eq_getElem (by omega : i < ls.length)] at this
    simp only [Option.map_some, Option.some.injEq] at this
    rw [List.getD_eq_getElem?_getD, List.getElem?_eq_getElem (by omega : i < ls.length)]
    exact this.symm
  obtain ⟨s, hc, he, _⟩ := DataW.trod_string Tryd.underlying9 h1
  have he1 := congrArg Prod.fst he
  rw [hfst] at he1
  simp only [DataW.lit.injEq, Lit.string.injEq] at he1
  have h2 := take_drop_one hc
  rw [World.var?_cell hg0 hv0 i, he1]
  simpa using h2
set_option maxRecDepth 100000 in
theorem en_of_laid {W : World} (h : laidMetH Tryd.prog laidL W) (hsh : W.ShapedOpen Tryd.prog) : En W := by
  rw [MakeChecks.laidMetH_plain _ _ _ (by kernel_rfl)] at h
  have h1 := laid_tail h
  have h2 := laid_tail h1
  have a := strs_of_head (ls := [[45, 62, 32], [60, 45, 32]]) gArr tArr Tryd.underlying58 rfl rfl h1
  have b := strs_of_head (ls := namesL) gNam tNam Tryd.underlying57 rfl rfl h2
  exact ⟨b, a 0 (by omega), a 1 (by omega), cell_of_shapedOpen_int (t := 3) (zero := #[.int .i64 0]) hsh (of_decide_eq_true (by kernel_rfl)) (by kernel_rfl) rfl (by kernel_rfl) (by kernel_rfl) Tryd.underlying3⟩
set_option maxRecDepth 100000 in
/-- A world that holds them. -/
theorem laid_met (os : Os) (args : Array Value) : laidMetH Tryd.prog laidL ((World.laidAll Tryd.prog os laidL).forCall (fun _ _ => 0) ⟨#[], args, []⟩).memory := by
  rw [MakeChecks.laidMetH_plain _ _ _ (by kernel_rfl)]
  exact laidMet_laidAll _ (by kernel_rfl) (by kernel_rfl)
end Go.Proofs.YtdihgfpnogiblaaDoor
