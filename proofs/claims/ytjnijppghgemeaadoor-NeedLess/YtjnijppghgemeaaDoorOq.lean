/- Keys that come in as an argument: opened. -/
import Derived.Test.YtjnijppghgemeaaDoorOp
import Derived.Test.YtjnijppghgemeaaDoorDb
namespace Go.Proofs.YtjnijppghgemeaaDoor
open Go.ChangeShapes Go.WideShapes Go.ChangeAt Go.RowKit Go.Deep

theorem Tryd.cellsBo : Tryd.prog.cellsOf 4 = 1 := by kernel_rfl
theorem Tryd.cellsKq : Tryd.prog.cellsOf 30 = 5 := by kernel_rfl
section
variable {H : Type} {enc : TypeId × Value → H} {W : World}
set_option maxRecDepth 100000 in
/-- Keys that come in by value. -/
theorem open_keys {base : Nat} {v : Value} {d : DataW H} {p : List MemPlace} (hv : Value.okWide Tryd.prog W .any base 30 v) (h : DataW.Trod enc Tryd.prog W 0 (fun _ => true) true 30 v d p) : ∃ k : Kq, v = kqV k := by
  obtain ⟨cs, rfl, _⟩ := okWide_struct Tryd.underlying30 hv
  obtain ⟨fuel, hf⟩ := h
  have hf : DataW.trod enc Tryd.prog W 0 (fun _ => true) true fuel 30 cs.toList = some (d, p) := hf
  obtain ⟨ys, n, _, hx, hlen, hyl, hf⟩ := DataW.trod_struct Tryd.underlying30 hf
  rw [Tryd.cellsKq] at hlen
  have hyl5 : ys.length = 5 := hyl
  have y : ∀ j (hj : j < 5), ys[j]? = some (ys[j]'(by rw [hyl5]; exact hj)) := fun j hj => List.getElem?_eq_getElem (by rw [hyl5]; exact hj)
  have g0 := hf 0 _ rfl
  have g1 := hf 1 _ rfl
  have g2 := hf 2 _ rfl
  have g3 := hf 3 _ rfl
  have g4 := hf 4 _ rfl
  rw [y 0 (by omega)] at g0
  rw [y 1 (by omega)] at g1
  rw [y 2 (by omega)] at g2
  rw [y 3 (by omega)] at g3
  rw [y 4 (by omega)] at g4
  obtain ⟨a0, c0, -⟩ := DataW.trod_bool Tryd.underlying4 g0
  obtain ⟨a1, c1, -⟩ := DataW.trod_bool Tryd.underlying4 g1
  obtain ⟨a2, c2, -⟩ := DataW.trod_bool Tryd.underlying4 g2
  obtain ⟨a3, c3, -⟩ := DataW.trod_bool Tryd.underlying4 g3
  obtain ⟨a4, c4, -⟩ := DataW.trod_int Tryd.underlying3 g4
  have c0 : (cs.toList.drop 0).take (Tryd.prog.cellsOf 4) = [.bool a0] := c0
  have c1 : (cs.toList.drop 1).take (Tryd.prog.cellsOf 4) = [.bool a1] := c1
  have c2 : (cs.toList.drop 2).take (Tryd.prog.cellsOf 4) = [.bool a2] := c2
  have c3 : (cs.toList.drop 3).take (Tryd.prog.cellsOf 4) = [.bool a3] := c3
  have c4 : (cs.toList.drop 4).take (Tryd.prog.cellsOf 3) = [.int .i64 a4] := c4
  rw [Tryd.cellsBo] at c0 c1 c2 c3
  rw [Tryd.cellsI] at c4
  refine ⟨⟨a0, a1, a2, a3, a4⟩, ?_⟩
  have q0 := take_drop_one c0
  have q1 := take_drop_one c1
  have q2 := take_drop_one c2
  have q3 := take_drop_one c3
  have q4 := take_drop_one c4
  obtain ⟨cl⟩ := cs
  match cl, hlen with
  | [b0, b1, b2, b3, b4], _ =>
    simp at q0 q1 q2 q3 q4
    simp [kqV, q0, q1, q2, q3, q4]
end
end Go.Proofs.YtjnijppghgemeaaDoor
