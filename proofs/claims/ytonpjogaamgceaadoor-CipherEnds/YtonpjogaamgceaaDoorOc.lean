/- A cipher that comes in as an argument: opened. -/
import Derived.Test.YtonpjogaamgceaaDoorQk
import Derived.Test.YtonpjogaamgceaaDoorJb
namespace Go.Proofs.YtonpjogaamgceaaDoor
open Go.ChangeShapes Go.WideShapes Go.ChangeAt Go.RowKit Go.Deep

theorem Tryd.cellsCb : Tryd.prog.cellsOf 4 = 1 := by kernel_rfl
theorem Tryd.cellsCf : Tryd.prog.cellsOf 25 = 3 := by kernel_rfl
set_option maxRecDepth 100000 in
/-- A cipher that comes in by value. -/
theorem open_cf {H : Type} {enc : TypeId × Value → H} {W : World} {base : Nat} {v : Value} {d : DataW H} {p : List MemPlace} (hv : Value.okWide Tryd.prog W .any base 25 v) (h : DataW.Trod enc Tryd.prog W 0 (fun _ => true) true 25 v d p) : ∃ c : Cf, c.ok ∧ v = cfV c := by
  obtain ⟨cs, rfl, _⟩ := okWide_struct Tryd.underlying25 hv
  obtain ⟨fuel, hf⟩ := h
  have hf : DataW.trod enc Tryd.prog W 0 (fun _ => true) true fuel 25 cs.toList = some (d, p) := hf
  obtain ⟨ys, n, _, hx, hlen, hyl, hf⟩ := DataW.trod_struct Tryd.underlying25 hf
  rw [Tryd.cellsCf] at hlen
  have hyl3 : ys.length = 3 := hyl
  have y : ∀ j (hj : j < 3), ys[j]? = some (ys[j]'(by rw [hyl3]; exact hj)) := fun j hj => List.getElem?_eq_getElem (by rw [hyl3]; exact hj)
  have g0 := hf 0 _ rfl
  have g1 := hf 1 _ rfl
  have g2 := hf 2 _ rfl
  rw [y 0 (by omega)] at g0
  rw [y 1 (by omega)] at g1
  rw [y 2 (by omega)] at g2
  obtain ⟨a0, c0, _, w0⟩ := DataW.trod_int Tryd.underlying3 g0
  obtain ⟨a1, c1, -⟩ := DataW.trod_bool Tryd.underlying4 g1
  obtain ⟨a2, c2, _, w2⟩ := DataW.trod_int Tryd.underlying23 g2
  have c0 : (cs.toList.drop 0).take (Tryd.prog.cellsOf 3) = [.int .i64 a0] := c0
  have c1 : (cs.toList.drop 1).take (Tryd.prog.cellsOf 4) = [.bool a1] := c1
  have c2 : (cs.toList.drop 2).take (Tryd.prog.cellsOf 23) = [.int .u64 a2] := c2
  rw [Tryd.cells3] at c0
  rw [Tryd.cellsCb] at c1
  rw [Tryd.cells23] at c2
  refine ⟨⟨a0, a1, a2⟩, ⟨ok_i64 w0, ok_u64 w2⟩, ?_⟩
  have q0 := take_of c0
  have q1 := take_of c1
  have q2 := take_of c2
  obtain ⟨cl⟩ := cs
  match cl, hlen with
  | [b0, b1, b2], _ =>
    simp at q0 q1 q2
    simp [cfV, q0, q1, q2]
end Go.Proofs.YtonpjogaamgceaaDoor
