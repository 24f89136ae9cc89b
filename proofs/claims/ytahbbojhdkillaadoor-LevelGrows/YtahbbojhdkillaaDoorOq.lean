/- Levels and tracks that come in as arguments: opened. -/
import Derived.Test.YtahbbojhdkillaaDoorOp
import Derived.Test.YtahbbojhdkillaaDoorGb
namespace Go.Proofs.YtahbbojhdkillaaDoor
open Go.ChangeShapes Go.WideShapes Go.ChangeAt Go.RowKit Go.Deep

theorem Tryd.cellsBo : Tryd.prog.cellsOf 4 = 1 := by kernel_rfl
theorem Tryd.cellsLv : Tryd.prog.cellsOf 37 = 2 := by kernel_rfl
theorem Tryd.cellsTr : Tryd.prog.cellsOf 54 = 10 := by kernel_rfl
theorem Tryd.cells8 : Tryd.prog.cellsOf 51 = 8 := by kernel_rfl
theorem Tryd.cells2 : Tryd.prog.cellsOf 52 = 2 := by kernel_rfl
section
variable {H : Type} {enc : TypeId × Value → H} {W : World}
set_option maxRecDepth 100000 in
/-- A level that comes in by value. -/
theorem open_level {base : Nat} {v : Value} {d : DataW H} {p : List MemPlace} (hv : Value.okWide Tryd.prog W .any base 37 v) (h : DataW.Trod enc Tryd.prog W 0 (fun _ => true) true 37 v d p) : ∃ l : Int × Int, v = lvV l := by
  obtain ⟨cs, rfl, _⟩ := okWide_struct Tryd.underlying37 hv
  obtain ⟨fuel, hf⟩ := h
  have hf : DataW.trod enc Tryd.prog W 0 (fun _ => true) true fuel 37 cs.toList = some (d, p) := hf
  obtain ⟨ys, n, _, hx, hlen, hyl, hf⟩ := DataW.trod_struct Tryd.underlying37 hf
  rw [Tryd.cellsLv] at hlen
  have hyl2 : ys.length = 2 := hyl
  have y : ∀ j (hj : j < 2), ys[j]? = some (ys[j]'(by rw [hyl2]; exact hj)) := fun j hj => List.getElem?_eq_getElem (by rw [hyl2]; exact hj)
  have g0 := hf 0 _ rfl
  have g1 := hf 1 _ rfl
  rw [y 0 (by omega)] at g0
  rw [y 1 (by omega)] at g1
  obtain ⟨a0, c0, -⟩ := DataW.trod_int Tryd.underlying3 g0
  obtain ⟨a1, c1, -⟩ := DataW.trod_int Tryd.underlying3 g1
  have c0 : (cs.toList.drop 0).take (Tryd.prog.cellsOf 3) = [.int .i64 a0] := c0
  have c1 : (cs.toList.drop 1).take (Tryd.prog.cellsOf 3) = [.int .i64 a1] := c1
  rw [Tryd.cellsI] at c0 c1
  refine ⟨(a0, a1), ?_⟩
  have q0 := take_drop_one c0
  have q1 := take_drop_one c1
  obtain ⟨cl⟩ := cs
  match cl, hlen with
  | [b0, b1], _ =>
    simp at q0 q1
    simp [lvV, q0, q1]
set_option maxRecDepth 100000 in
/-- A track that comes in by value. -/
theorem open_track {base : Nat} {v : Value} {d : DataW H} {p : List MemPlace} (hv : Value.okWide Tryd.prog W .any base 54 v) (h : DataW.Trod enc Tryd.prog W 0 (fun _ => true) true 54 v d p) : ∃ t : Tr, v = trV t := by
  obtain ⟨cs, rfl, _⟩ := okWide_struct Tryd.underlying54 hv
  obtain ⟨fuel, hf⟩ := h
  have hf : DataW.trod enc Tryd.prog W 0 (fun _ => true) true fuel 54 cs.toList = some (d, p) := hf
  obtain ⟨ys, n, _, hx, hlen, hyl, hf⟩ := DataW.trod_struct Tryd.underlying54 hf
  rw [Tryd.cellsTr] at hlen
  have hyl2 : ys.length = 2 := hyl
  have y : ∀ j (hj : j < 2), ys[j]? = some (ys[j]'(by rw [hyl2]; exact hj)) := fun j hj => List.getElem?_eq_getElem (by rw [hyl2]; exact hj)
  have g0 := hf 0 _ rfl
  have g1 := hf 1 _ rfl
  rw [y 0 (by omega)] at g0
  rw [y 1 (by omega)] at g1
  have g0 : DataW.trod enc Tryd.prog W 0 (fun _ => true) true n 51 ((cs.toList.drop 0).take (Tryd.prog.cellsOf 51)) = _ := g0
  have g1 : DataW.trod enc Tryd.prog W 0 (fun _ => true) true n 52 ((cs.toList.drop 8).take (Tryd.prog.cellsOf 52)) = _ := g1
  rw [Tryd.cells8] at g0
  rw [Tryd.cells2] at g1
  obtain ⟨xs, m, _, _, hxl, hxn, hel⟩ := DataW.trod_array Tryd.underlying51 g0
  obtain ⟨zs, m2, _, _, hzl, hzn, hel2⟩ := DataW.trod_array Tryd.underlying52 g1
  have hb : ∀ i, i < 8 → ∃ a, cs.toList[i]? = some (.bool a) := by
    intro i hi
    have g := hel i hi
    rw [List.getElem?_eq_getElem (by omega), Tryd.cellsBo] at g
    obtain ⟨a, c, -⟩ := DataW.trod_bool Tryd.underlying4 g
    have z := take_drop_one c
    simp only [List.getElem?_take, List.getElem?_drop, Nat.zero_add, Nat.mul_one] at z
    rw [if_pos (by omega)] at z
    exact ⟨a, z⟩
  have hi2 : ∀ i, i < 2 → ∃ a, cs.toList[8 + i]? = some (.int .i64 a) := by
    intro i hi
    have g := hel2 i hi
    rw [List.getElem?_eq_getElem (by omega), Tryd.cellsN] at g
    obtain ⟨a, c, -⟩ := DataW.trod_int Tryd.underlying3 g
    have z := take_drop_one c
    simp only [List.getElem?_take, List.getElem?_drop, Nat.mul_one] at z
    rw [if_pos (by omega)] at z
    exact ⟨a, z⟩
  obtain ⟨a0, q0⟩ := hb 0 (by omega)
  obtain ⟨a1, q1⟩ := hb 1 (by omega)
  obtain ⟨a2, q2⟩ := hb 2 (by omega)
  obtain ⟨a3, q3⟩ := hb 3 (by omega)
  obtain ⟨a4, q4⟩ := hb 4 (by omega)
  obtain ⟨a5, q5⟩ := hb 5 (by omega)
  obtain ⟨a6, q6⟩ := hb 6 (by omega)
  obtain ⟨a7, q7⟩ := hb 7 (by omega)
  obtain ⟨a8, q8⟩ := hi2 0 (by omega)
  obtain ⟨a9, q9⟩ := hi2 1 (by omega)
  refine ⟨⟨fun k => [a0, a1, a2, a3, a4, a5, a6, a7].getD k false, a8, a9⟩, ?_⟩
  clear hb hi2 hel hel2 hf hv g0 g1
  obtain ⟨cl⟩ := cs
  match cl, hlen with
  | [b0, b1, b2, b3, b4, b5, b6, b7, b8, b9], _ =>
    simp at q0 q1 q2 q3 q4 q5 q6 q7 q8 q9
    subst q0 q1 q2 q3 q4 q5 q6 q7 q8 q9
    rfl
end
end Go.Proofs.YtahbbojhdkillaaDoor
