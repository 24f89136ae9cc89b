/- A list of calls that came in. -/
import Derived.Test.YtgjhhipkfglpgaaDoorQk
import Derived.Test.YtgjhhipkfglpgaaDoorKl
namespace Go.Proofs.YtgjhhipkfglpgaaDoor
open Go.ChangeShapes Go.WideShapes Go.ChangeAt Go.RowKit Go.Deep

theorem Tryd.cellsOp : Tryd.prog.cellsOf 40 = 2 := by kernel_rfl
def valsO (d : Op2) : List Value := [.int .i64 d.k, .int .i64 d.x]
section
variable {H : Type} {enc : TypeId × Value → H} {w : World} {base : Nat} {spare : Nat → Bool} {held : Bool}
set_option maxRecDepth 100000 in
/-- What a call's two cells read as. -/
theorem open_op {fuel : Nat} {cs : List Value} {x : DataW H × List MemPlace} (h : DataW.trod enc Tryd.prog w base spare held fuel 40 cs = some x) : ∃ d : Op2, cs = valsO d := by
  obtain ⟨ys, n, _, hx, hlen, hyl, hf⟩ := DataW.trod_struct Tryd.underlying40 h
  rw [Tryd.cellsOp] at hlen
  have hyl2 : ys.length = 2 := hyl
  have y : ∀ j (hj : j < 2), ys[j]? = some (ys[j]'(by rw [hyl2]; exact hj)) := fun j hj => List.getElem?_eq_getElem (by rw [hyl2]; exact hj)
  have g0 := hf 0 _ rfl
  have g1 := hf 1 _ rfl
  rw [y 0 (by omega)] at g0
  rw [y 1 (by omega)] at g1
  obtain ⟨a0, c0, e0, w0⟩ := DataW.trod_int Tryd.underlying3 g0
  obtain ⟨a1, c1, e1, w1⟩ := DataW.trod_int Tryd.underlying3 g1
  have c0 : (cs.drop 0).take (Tryd.prog.cellsOf 3) = [.int .i64 a0] := c0
  have c1 : (cs.drop 1).take (Tryd.prog.cellsOf 3) = [.int .i64 a1] := c1
  rw [Tryd.cells3] at c0 c1
  refine ⟨⟨a0, a1⟩, ?_⟩
  have q0 := take_of c0
  have q1 := take_of c1
  match cs, hlen with
  | [b0, b1], _ =>
    simp at q0 q1
    simp [valsO, q0, q1]
end

set_option maxRecDepth 100000 in
theorem open_ops {H : Type} {enc : TypeId × Value → H} {W : World} {base : Nat} {v : Value} {d : DataW H} {p : List MemPlace} (hv : Value.okWide Tryd.prog W .any base 23 v) (h : DataW.Trod enc Tryd.prog W 0 (fun _ => true) true 23 v d p) :
    ∃ s c l, v = .slice s (List.length l) c ∧ OpsV W s l := by
  obtain ⟨a0, len, cap, rfl⟩ := okWide_slice Tryd.underlying23 hv
  obtain ⟨fuel, hf⟩ := h
  have hf : DataW.trod enc Tryd.prog W 0 (fun _ => true) true fuel 23 [.slice a0 len cap] = some (d, p) := hf
  rcases open_slice Tryd.underlying23 hf with ⟨h0, _⟩ | ⟨a, len', cap', m, n, D, Pl, hcs, _, hl, hm, hmm, _, hi⟩
  · simp only [List.cons.injEq, Value.slice.injEq, and_true] at h0
    obtain ⟨rfl, rfl, rfl⟩ := h0
    exact ⟨none, 0, [], rfl, fun h => by simp at h⟩
  · simp only [List.cons.injEq, Value.slice.injEq, and_true] at hcs
    obtain ⟨rfl, rfl, rfl⟩ := hcs
    simp only [if_true] at hmm
    subst hmm
    have el : ∀ i, i < len → ∃ d : Op2, ∀ j u, (valsO d)[j]? = some u → W.cell? ((a.add (i * 2)).add j) = some u := by
      intro i hil
      obtain ⟨cs', hc, ht⟩ := hi i (by omega)
      rw [Tryd.cellsOp] at hc
      obtain ⟨d, rfl⟩ := open_op ht
      obtain ⟨_, hcl, hat⟩ := World.cells?_some hc
      refine ⟨d, fun j u hu => ?_⟩
      have hj : j < 2 := by
        rcases Nat.lt_or_ge j 2 with h1 | h1
        · exact h1
        · rw [List.getElem?_eq_none (by simp [valsO]; omega)] at hu; cases hu
      rw [hat j hj, hu]
    have el' : ∀ i, ∃ d : Op2, i < len → ∀ j u, (valsO d)[j]? = some u → W.cell? ((a.add (i * 2)).add j) = some u := fun i => by
      by_cases hil : i < len
      · obtain ⟨d, hd⟩ := el i hil; exact ⟨d, fun _ => hd⟩
      · exact ⟨zOp, fun h => absurd h hil⟩
    let f : Nat → Op2 := fun i => Classical.choose (el' i)
    have hfs : ∀ i, i < len → ∀ j u, (valsO (f i))[j]? = some u → W.cell? ((a.add (i * 2)).add j) = some u := fun i hil => Classical.choose_spec (el' i) hil
    have hlen : ((List.range len).map f).length = len := by simp
    have hget : ∀ i, i < len → ((List.range len).map f).getD i zOp = f i := fun i hil => by
      rw [List.getD_eq_getElem?_getD, List.getElem?_map, List.getElem?_range hil]; rfl
    refine ⟨some a, m, (List.range len).map f, by rw [hlen], fun h0 => ?_⟩
    rw [hlen] at h0
    obtain ⟨sb, so, spot⟩ := a
    have hspot : spot = none := by
      have := hfs 0 h0 0 _ rfl
      simpa [Addr.add] using World.cell?_spot this
    subst hspot
    have key : ∀ i, i < len → ∀ j u, (valsO (f i))[j]? = some u → W.cell? ⟨sb, so + i * 2 + j, none⟩ = some u := fun i hil j u hu => by
      have := hfs i hil j u hu
      rw [add_plain5, add_plain5] at this; exact this
    refine ⟨sb, so, rfl, World.block_lt_of_cell? W _ (key 0 h0 0 _ rfl), fun i hil => ?_⟩
    rw [hlen] at hil
    rw [hget i hil]
    exact ⟨key i hil 0 _ rfl, key i hil 1 _ rfl⟩
end Go.Proofs.YtgjhhipkfglpgaaDoor
