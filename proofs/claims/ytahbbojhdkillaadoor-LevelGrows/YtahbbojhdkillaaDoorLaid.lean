/- From the listed package variables to what the walks read of them. -/
import Derived.Test.YtahbbojhdkillaaDoorGg
import Derived.ProofKit
import Derived.LaidMore
import Derived.OpenShut
import Derived.Stop.Joined
import Derived.Stop.LaidErr
import Derived.Deep.Strs
import Derived.Lay
import Derived.Shelf.Vars
import Derived.Lib.LaidTab
namespace Go.Proofs.YtahbbojhdkillaaDoor
open Go.ChangeShapes Go.WideShapes Go.ChangeAt Go.RowKit Go.Deep

def laidL : List (String × DataW Unit) := [("unicode/utf8.acceptRanges", Rows.laid_unicode_utf8_acceptRanges), ("undertone/token.arrows", Rows.laid_undertone_token_arrows), ("undertone/token.names", Rows.laid_undertone_token_names), ("undertone/base.table", Rows.laid_undertone_base_table), ("undertone/valid.keys", Rows.laid_undertone_valid_keys), ("undertone/level.proofs", Rows.laid_undertone_level_proofs), ("unicode/utf8.first", Rows.laid_unicode_utf8_first)]
theorem own : ownKnob Tryd.prog.godebug = none := by kernel_rfl
theorem gArr : Tryd.prog.globalNamed "undertone/token.arrows" = some 2 := by kernel_rfl
theorem tArr : (Tryd.prog.globals[2]?).map (·.type) = some 101 := by kernel_rfl
theorem gNam : Tryd.prog.globalNamed "undertone/token.names" = some 3 := by kernel_rfl
theorem tNam : (Tryd.prog.globals[3]?).map (·.type) = some 112 := by kernel_rfl
theorem gTab : Tryd.prog.globalNamed "undertone/base.table" = some 0 := by kernel_rfl
theorem tTab : (Tryd.prog.globals[0]?).map (·.type) = some 65 := by kernel_rfl
theorem Tryd.cellsR : Tryd.prog.cellsOf 64 = 2 := by kernel_rfl
theorem Tryd.cellsS : Tryd.prog.cellsOf 9 = 1 := by kernel_rfl
theorem laid_tail {P : Program} {x : String × DataW Unit} {r : List (String × DataW Unit)} {W : World} (h : laidMet P (x :: r) W) : laidMet P r W := by
  obtain ⟨ps, ⟨g, t, cs, fuel, p, q, _, _, _, _, hr, rfl⟩, hn, ha⟩ := h
  exact ⟨q, hr, (List.nodup_append.1 hn).2.1, fun b off hm => ha b off (List.mem_append.2 (.inr hm))⟩
theorem take_drop_one {l : List Value} {i : Nat} {v : Value} (h : (l.drop i).take 1 = [v]) : l[i]? = some v := by
  have h2 := congrArg (fun m : List Value => m[0]?) h
  simp only [List.getElem?_take, List.getElem?_drop] at h2
  simpa using h2
/-- An array of strings that is listed. -/
theorem strs_of_head {W : World} {nm : String} {g n : Nat} {T : TypeId} {r : List (String × DataW Unit)} {d : DataW Unit} {ls : List (List UInt8)} (hg : Tryd.prog.globalNamed nm = some g) (ht : (Tryd.prog.globals[g]?).map (·.type) = some T) (hu : Tryd.prog.underlying T = some (.array n 9))
    (hd : d = .agg (ls.map fun l => .lit (.string l))) (hn : ls.length = n) (h : laidMet Tryd.prog ((nm, d) :: r) W) : ∀ i, i < n → W.cell? ⟨g, i, none⟩ = some (.string ⟨(ls.getD i []).toArray⟩) := by
  obtain ⟨ps, ⟨g0, t0, cs0, f0, p0, q0, hg0, ht0, hv0, hd0, _, _⟩, _, _⟩ := h
  obtain rfl := Option.some.inj (hg.symm.trans hg0)
  obtain rfl := Option.some.inj (ht.symm.trans ht0)
  obtain ⟨xs, m, rfl, hx, hlen, hxn, hel⟩ := DataW.trod_array hu hd0
  rw [hd] at hx
  simp only [Prod.mk.injEq, DataW.agg.injEq] at hx
  intro i hi
  have h1 := hel i hi
  have hxi : xs[i]? = some (xs[i]'(by omega)) := List.getElem?_eq_getElem (by omega)
  rw [hxi, Tryd.cellsS] at h1
  have hfst : (xs[i]'(by omega)).1 = .lit (.string (ls.getD i [])) := by
    have := congrArg (fun l : List (DataW Unit) => l[i]?) hx.1
    simp only [List.getElem?_map, hxi, Option.map_some] at this
    rw [List.getElem?_eq_getElem (by omega : i < ls.length)] at this
    simp only [Option.map_some, Option.some.injEq] at this
    rw [List.getD_eq_getElem?_getD, List.getElem?_eq_getElem (by omega : i < ls.length)]
    exact this.symm
  obtain ⟨s, hc, he, _⟩ := DataW.trod_string Tryd.underlying9 h1
  have he1 := congrArg Prod.fst he
  rw [hfst] at he1
  simp only [DataW.lit.injEq, Lit.string.injEq] at he1
  have h2 := take_drop_one hc
  rw [World.var?_cell hg0 hv0 i, he1]
  simpa using h2
/-- The table of rows, as it is listed. -/
theorem tbl_datum : (Rows.laid_undertone_base_table : DataW Unit) = .agg ((List.range 15).map fun i => .agg [.lit (.string (tblL.getD (2 * i) [])), .lit (.string (tblL.getD (2 * i + 1) []))]) := by rfl
set_option maxRecDepth 100000 in
theorem tbl_of_head {W : World} {r : List (String × DataW Unit)} (h : laidMet Tryd.prog (("undertone/base.table", Rows.laid_undertone_base_table) :: r) W) : ∀ i, i < 15 → W.cell? ⟨0, 2 * i, none⟩ = some (.string (tb (2 * i))) ∧ W.cell? ⟨0, 2 * i + 1, none⟩ = some (.string (tb (2 * i + 1))) := by
  obtain ⟨ps, ⟨g0, t0, cs0, f0, p0, q0, hg0, ht0, hv0, hd0, _, _⟩, _, _⟩ := h
  obtain rfl := Option.some.inj (gTab.symm.trans hg0)
  obtain rfl := Option.some.inj (tTab.symm.trans ht0)
  obtain ⟨xs, m, rfl, hx, hlen, hxn, hel⟩ := DataW.trod_array Tryd.underlying65 hd0
  rw [tbl_datum] at hx
  simp only [Prod.mk.injEq, DataW.agg.injEq] at hx
  intro i hi
  have h1 := hel i hi
  have hxi : xs[i]? = some (xs[i]'(by omega)) := List.getElem?_eq_getElem (by omega)
  rw [hxi, Tryd.cellsR] at h1
  have hfst : (xs[i]'(by omega)).1 = .agg [.lit (.string (tblL.getD (2 * i) [])), .lit (.string (tblL.getD (2 * i + 1) []))] := by
    have := congrArg (fun l : List (DataW Unit) => l[i]?) hx.1
    simp only [List.getElem?_map, hxi, Option.map_some, List.getElem?_range hi] at this
    exact (Option.some.inj this).symm
  obtain ⟨ys, n, _, hy, hylen, hyl, hf⟩ := DataW.trod_struct Tryd.underlying64 h1
  have hyl2 : ys.length = 2 := hyl
  have g0 := hf 0 _ rfl
  have g1 := hf 1 _ rfl
  have e0 : ys[0]? = some (ys[0]'(by omega)) := List.getElem?_eq_getElem (by omega)
  have e1 : ys[1]? = some (ys[1]'(by omega)) := List.getElem?_eq_getElem (by omega)
  rw [e0] at g0
  rw [e1] at g1
  have hyf := congrArg Prod.fst hy
  rw [hfst] at hyf
  simp only [DataW.agg.injEq] at hyf
  have y0 : (ys[0]'(by omega)).1 = .lit (.string (tblL.getD (2 * i) [])) := by
    have := congrArg (fun l : List (DataW Unit) => l[0]?) hyf
    simp only [List.getElem?_map, e0, Option.map_some] at this
    exact (Option.some.inj this).symm
  have y1 : (ys[1]'(by omega)).1 = .lit (.string (tblL.getD (2 * i + 1) [])) := by
    have := congrArg (fun l : List (DataW Unit) => l[1]?) hyf
    simp only [List.getElem?_map, e1, Option.map_some] at this
    exact (Option.some.inj this).symm
  obtain ⟨s0, c0, he0, _⟩ := DataW.trod_string Tryd.underlying9 g0
  obtain ⟨s1, c1, he1, _⟩ := DataW.trod_string Tryd.underlying9 g1
  have c0 : ((((cs0.toList.drop (i * 2)).take 2).drop 0).take (Tryd.prog.cellsOf 9)) = [.string s0] := c0
  have c1 : ((((cs0.toList.drop (i * 2)).take 2).drop 1).take (Tryd.prog.cellsOf 9)) = [.string s1] := c1
  rw [Tryd.cellsS] at c0 c1
  have z0 := take_drop_one c0
  have z1 := take_drop_one c1
  simp only [List.getElem?_take, List.getElem?_drop] at z0 z1
  have k0 := congrArg Prod.fst he0
  have k1 := congrArg Prod.fst he1
  rw [y0] at k0
  rw [y1] at k1
  simp only [DataW.lit.injEq, Lit.string.injEq] at k0 k1
  have b0 : tb (2 * i) = s0 := by unfold tb; rw [k0]
  have b1 : tb (2 * i + 1) = s1 := by unfold tb; rw [k1]
  refine ⟨?_, ?_⟩
  · rw [World.var?_cell hg0 hv0 (2 * i), b0]
    have : cs0.toList[2 * i]? = some (.string s0) := by simpa [Nat.mul_comm] using z0
    simpa using this
  · rw [World.var?_cell hg0 hv0 (2 * i + 1), b1]
    have : cs0.toList[2 * i + 1]? = some (.string s1) := by simpa [Nat.mul_comm] using z1
    simpa using this
theorem gKey : Tryd.prog.globalNamed "undertone/valid.keys" = some 4 := by kernel_rfl
theorem tKey : (Tryd.prog.globals[4]?).map (·.type) = some 125 := by kernel_rfl
theorem Tryd.cellsO : Tryd.prog.cellsOf 124 = 2 := by kernel_rfl
theorem Tryd.cellsN : Tryd.prog.cellsOf 3 = 1 := by kernel_rfl
theorem ky_datum : (Rows.laid_undertone_valid_keys : DataW Unit) = .agg ((List.range 8).map fun i => .agg [.lit (.int .i64 (kyL.getD (2 * i) 0)), .lit (.int .i64 (kyL.getD (2 * i + 1) 0))]) := by rfl
set_option maxRecDepth 100000 in
theorem ky_of_head {W : World} {r : List (String × DataW Unit)} (h : laidMet Tryd.prog (("undertone/valid.keys", Rows.laid_undertone_valid_keys) :: r) W) : ∀ i, i < 8 → W.cell? ⟨4, 2 * i, none⟩ = some (.int .i64 (kyL.getD (2 * i) 0)) ∧ W.cell? ⟨4, 2 * i + 1, none⟩ = some (.int .i64 (kyL.getD (2 * i + 1) 0)) := by
  obtain ⟨ps, ⟨g0, t0, cs0, f0, p0, q0, hg0, ht0, hv0, hd0, _, _⟩, _, _⟩ := h
  obtain rfl := Option.some.inj (gKey.symm.trans hg0)
  obtain rfl := Option.some.inj (tKey.symm.trans ht0)
  obtain ⟨xs, m, rfl, hx, hlen, hxn, hel⟩ := DataW.trod_array Tryd.underlying125 hd0
  rw [ky_datum] at hx
  simp only [Prod.mk.injEq, DataW.agg.injEq] at hx
  intro i hi
  have h1 := hel i hi
  have hxi : xs[i]? = some (xs[i]'(by omega)) := List.getElem?_eq_getElem (by omega)
  rw [hxi, Tryd.cellsO] at h1
  have hfst : (xs[i]'(by omega)).1 = .agg [.lit (.int .i64 (kyL.getD (2 * i) 0)), .lit (.int .i64 (kyL.getD (2 * i + 1) 0))] := by
    have := congrArg (fun l : List (DataW Unit) => l[i]?) hx.1
    simp only [List.getElem?_map, hxi, Option.map_some, List.getElem?_range hi] at this
    exact (Option.some.inj this).symm
  obtain ⟨ys, n, _, hy, hylen, hyl, hf⟩ := DataW.trod_array Tryd.underlying124 h1
  have g0 := hf 0 (by omega)
  have g1 := hf 1 (by omega)
  have e0 : ys[0]? = some (ys[0]'(by omega)) := List.getElem?_eq_getElem (by omega)
  have e1 : ys[1]? = some (ys[1]'(by omega)) := List.getElem?_eq_getElem (by omega)
  rw [e0, Tryd.cellsN] at g0
  rw [e1, Tryd.cellsN] at g1
  have hyf := congrArg Prod.fst hy
  rw [hfst] at hyf
  simp only [DataW.agg.injEq] at hyf
  have y0 : (ys[0]'(by omega)).1 = .lit (.int .i64 (kyL.getD (2 * i) 0)) := by
    have := congrArg (fun l : List (DataW Unit) => l[0]?) hyf
    simp only [List.getElem?_map, e0, Option.map_some] at this
    exact (Option.some.inj this).symm
  have y1 : (ys[1]'(by omega)).1 = .lit (.int .i64 (kyL.getD (2 * i + 1) 0)) := by
    have := congrArg (fun l : List (DataW Unit) => l[1]?) hyf
    simp only [List.getElem?_map, e1, Option.map_some] at this
    exact (Option.some.inj this).symm
  obtain ⟨s0, c0, he0, _⟩ := DataW.trod_int Tryd.underlying3 g0
  obtain ⟨s1, c1, he1, _⟩ := DataW.trod_int Tryd.underlying3 g1
  have z0 := take_drop_one c0
  have z1 := take_drop_one c1
  simp only [List.getElem?_take, List.getElem?_drop] at z0 z1
  have k0 := congrArg Prod.fst he0
  have k1 := congrArg Prod.fst he1
  rw [y0] at k0
  rw [y1] at k1
  simp only [DataW.lit.injEq, Lit.int.injEq] at k0 k1
  refine ⟨?_, ?_⟩
  · rw [World.var?_cell hg0 hv0 (2 * i), k0.2]
    have : cs0.toList[2 * i]? = some (.int .i64 s0) := by simpa [Nat.mul_comm] using z0
    simpa using this
  · rw [World.var?_cell hg0 hv0 (2 * i + 1), k1.2]
    have : cs0.toList[2 * i + 1]? = some (.int .i64 s1) := by simpa [Nat.mul_comm] using z1
    simpa using this
theorem gPrf : Tryd.prog.globalNamed "undertone/level.proofs" = some 1 := by kernel_rfl
theorem tPrf : (Tryd.prog.globals[1]?).map (·.type) = some 52 := by kernel_rfl
/-- An array of two ints that is listed. -/
theorem two_of_head {W : World} {nm : String} {g : Nat} {T : TypeId} {r : List (String × DataW Unit)} {a b : Int} (hg : Tryd.prog.globalNamed nm = some g) (ht : (Tryd.prog.globals[g]?).map (·.type) = some T) (hu : Tryd.prog.underlying T = some (.array 2 3))
    (h : laidMet Tryd.prog ((nm, .agg [.lit (.int .i64 a), .lit (.int .i64 b)]) :: r) W) : W.cell? ⟨g, 0, none⟩ = some (.int .i64 a) ∧ W.cell? ⟨g, 1, none⟩ = some (.int .i64 b) := by
  obtain ⟨ps, ⟨g0, t0, cs0, f0, p0, q0, hg0, ht0, hv0, hd0, _, _⟩, _, _⟩ := h
  obtain rfl := Option.some.inj (hg.symm.trans hg0)
  obtain rfl := Option.some.inj (ht.symm.trans ht0)
  obtain ⟨xs, m, rfl, hx, hlen, hxn, hel⟩ := DataW.trod_array hu hd0
  simp only [Prod.mk.injEq, DataW.agg.injEq] at hx
  have g0 := hel 0 (by omega)
  have g1 := hel 1 (by omega)
  have e0 : xs[0]? = some (xs[0]'(by omega)) := List.getElem?_eq_getElem (by omega)
  have e1 : xs[1]? = some (xs[1]'(by omega)) := List.getElem?_eq_getElem (by omega)
  rw [e0, Tryd.cellsN] at g0
  rw [e1, Tryd.cellsN] at g1
  have y0 : (xs[0]'(by omega)).1 = .lit (.int .i64 a) := by
    have := congrArg (fun l : List (DataW Unit) => l[0]?) hx.1
    simp only [List.getElem?_map, e0, Option.map_some] at this
    exact (Option.some.inj this).symm
  have y1 : (xs[1]'(by omega)).1 = .lit (.int .i64 b) := by
    have := congrArg (fun l : List (DataW Unit) => l[1]?) hx.1
    simp only [List.getElem?_map, e1, Option.map_some] at this
    exact (Option.some.inj this).symm
  obtain ⟨s0, c0, he0, _⟩ := DataW.trod_int Tryd.underlying3 g0
  obtain ⟨s1, c1, he1, _⟩ := DataW.trod_int Tryd.underlying3 g1
  have z0 := take_drop_one c0
  have z1 := take_drop_one c1
  have k0 := congrArg Prod.fst he0
  have k1 := congrArg Prod.fst he1
  rw [y0] at k0
  rw [y1] at k1
  simp only [DataW.lit.injEq, Lit.int.injEq] at k0 k1
  refine ⟨?_, ?_⟩
  · rw [World.var?_cell hg0 hv0 0, k0.2]
    simpa using z0
  · rw [World.var?_cell hg0 hv0 1, k1.2]
    simpa using z1
set_option maxRecDepth 100000 in
theorem en_of_laid {W : World} (h : laidMetH Tryd.prog laidL W) (hsh : W.ShapedOpen Tryd.prog) : Ew W := by
  rw [MakeChecks.laidMetH_plain _ _ _ (by kernel_rfl)] at h
  have h4 := laid_tail h
  have h5 := laid_tail h4
  have h6 := laid_tail h5
  have a := strs_of_head (ls := [[45, 62, 32], [60, 45, 32]]) gArr tArr Tryd.underlying101 rfl rfl h4
  have b := strs_of_head (ls := namesL) gNam tNam Tryd.underlying112 rfl rfl h5
  have t := tbl_of_head h6
  have y := ky_of_head (laid_tail h6)
  have z := two_of_head gPrf tPrf Tryd.underlying52 (laid_tail (laid_tail h6))
  refine ⟨⟨⟨⟨b, a 0 (by omega), a 1 (by omega), cell_of_shapedOpen_int (t := 3) (zero := #[.int .i64 0]) hsh (of_decide_eq_true (by kernel_rfl)) (by kernel_rfl) rfl (by kernel_rfl) (by kernel_rfl) Tryd.underlying3⟩, fun i hi => ?_⟩, fun i hi => ?_⟩, z.1, z.2⟩
  · obtain ⟨k, hk | hk⟩ : ∃ k, i = 2 * k ∨ i = 2 * k + 1 := ⟨i / 2, by omega⟩
    · rw [hk]; exact (t k (by omega)).1
    · rw [hk]; exact (t k (by omega)).2
  · obtain ⟨k, hk | hk⟩ : ∃ k, i = 2 * k ∨ i = 2 * k + 1 := ⟨i / 2, by omega⟩
    · rw [hk]; exact (y k (by omega)).1
    · rw [hk]; exact (y k (by omega)).2
set_option maxRecDepth 100000 in
/-- A world that holds them. -/
theorem laid_met (os : Os) (args : Array Value) : laidMetH Tryd.prog laidL ((World.laidAll Tryd.prog os laidL).forCall (fun _ _ => 0) ⟨#[], args, []⟩).memory := by
  rw [MakeChecks.laidMetH_plain _ _ _ (by kernel_rfl)]
  exact laidMet_laidAll _ (by kernel_rfl) (by kernel_rfl)
end Go.Proofs.YtahbbojhdkillaaDoor
