/- A list of steps that came in. -/
import Derived.Test.YtlckajnbmkkpeaaDoorQn
import Derived.Test.YtlckajnbmkkpeaaDoorEk
namespace Go.Proofs.YtlckajnbmkkpeaaDoor
open Go.ChangeShapes Go.WideShapes Go.ChangeAt Go.RowKit Go.Deep

theorem Tryd.cellsSt : Tryd.prog.cellsOf 60 = 5 := by kernel_rfl
def valsS (d : Sp) : List Value := [.int .i64 d.op, .int .u64 d.n, .int .i64 d.a, .int .i64 d.b, .int .i64 d.c]
section
variable {H : Type} {enc : TypeId × Value → H} {w : World} {base : Nat} {spare : Nat → Bool} {held : Bool}
set_option maxRecDepth 100000 in
/-- What a step's five cells read as. -/
theorem open_step {fuel : Nat} {cs : List Value} {x : DataW H × List MemPlace} (h : DataW.trod enc Tryd.prog w base spare held fuel 60 cs = some x) : ∃ d : Sp, cs = valsS d ∧ x.2 = [] := by
  obtain ⟨ys, n, _, hx, hlen, hyl, hf⟩ := DataW.trod_struct Tryd.underlying60 h
  rw [Tryd.cellsSt] at hlen
  have hyl5 : ys.length = 5 := hyl
  have y : ∀ j (hj : j < 5), ys[j]? = some (ys[j]'(by rw [hyl5]; exact hj)) := fun j hj => List.getElem?_eq_getElem (by rw [hyl5]; exact hj)
  have g0 := hf 0 _ rfl
  have g1 := hf 1 _ rfl
  have g2 := hf 2 _ rfl
  have g3 := hf 3 _ rfl
  have g4 := hf 4 _ rfl
  rw [y 0 (by omega)] at g0
  rw [y 1 (by omega)] at g1
  rw [y 2 (by omega)] at g2
  rw [y 3 (by omega)] at g3
  rw [y 4 (by omega)] at g4
  obtain ⟨a0, c0, e0, w0⟩ := DataW.trod_int Tryd.underlying3 g0
  obtain ⟨a1, c1, e1, w1⟩ := DataW.trod_int Tryd.underlying43 g1
  obtain ⟨a2, c2, e2, w2⟩ := DataW.trod_int Tryd.underlying3 g2
  obtain ⟨a3, c3, e3, w3⟩ := DataW.trod_int Tryd.underlying3 g3
  obtain ⟨a4, c4, e4, w4⟩ := DataW.trod_int Tryd.underlying3 g4
  have c0 : (cs.drop 0).take (Tryd.prog.cellsOf 3) = [.int .i64 a0] := c0
  have c1 : (cs.drop 1).take (Tryd.prog.cellsOf 43) = [.int .u64 a1] := c1
  have c2 : (cs.drop 2).take (Tryd.prog.cellsOf 3) = [.int .i64 a2] := c2
  have c3 : (cs.drop 3).take (Tryd.prog.cellsOf 3) = [.int .i64 a3] := c3
  have c4 : (cs.drop 4).take (Tryd.prog.cellsOf 3) = [.int .i64 a4] := c4
  rw [Tryd.cells3] at c0 c2 c3 c4
  rw [Tryd.cells43] at c1
  refine ⟨⟨a0, a1, a2, a3, a4⟩, ?_, ?_⟩
  · have q0 := take_of c0
    have q1 := take_of c1
    have q2 := take_of c2
    have q3 := take_of c3
    have q4 := take_of c4
    match cs, hlen with
    | [b0, b1, b2, b3, b4], _ =>
      simp at q0 q1 q2 q3 q4
      simp [valsS, q0, q1, q2, q3, q4]
  · have hx2 := congrArg Prod.snd hx
    rw [hx2]
    clear hf hx2 hx c0 c1 c2 c3 c4 g0 g1 g2 g3 g4 y hyl
    match ys, hyl5, e0, e1, e2, e3, e4 with
    | [y0, y1, y2, y3, y4], _, e0, e1, e2, e3, e4 =>
      simp at e0 e1 e2 e3 e4
      simp [e0, e1, e2, e3, e4]
end

set_option maxRecDepth 100000 in
theorem open_steps {H : Type} {enc : TypeId × Value → H} {W : World} {base : Nat} {v : Value} {d : DataW H} {p : List MemPlace} (hv : Value.okWide Tryd.prog W .any base 47 v) (h : DataW.Trod enc Tryd.prog W 0 (fun _ => true) true 47 v d p) :
    ∃ s c l, v = .slice s (List.length l) c ∧ StepsV W s l := by
  obtain ⟨a0, len, cap, rfl⟩ := okWide_slice Tryd.underlying47 hv
  obtain ⟨fuel, hf⟩ := h
  have hf : DataW.trod enc Tryd.prog W 0 (fun _ => true) true fuel 47 [.slice a0 len cap] = some (d, p) := hf
  rcases open_slice Tryd.underlying47 hf with ⟨h0, _⟩ | ⟨a, len', cap', m, n, D, Pl, hcs, _, hl, hm, hmm, _, hi⟩
  · simp only [List.cons.injEq, Value.slice.injEq, and_true] at h0
    obtain ⟨rfl, rfl, rfl⟩ := h0
    exact ⟨none, 0, [], rfl, fun h => by simp at h⟩
  · simp only [List.cons.injEq, Value.slice.injEq, and_true] at hcs
    obtain ⟨rfl, rfl, rfl⟩ := hcs
    simp only [if_true] at hmm
    subst hmm
    have el : ∀ i, i < len → ∃ d : Sp, ∀ j u, (valsS d)[j]? = some u → W.cell? ((a.add (i * 5)).add j) = some u := by
      intro i hil
      obtain ⟨cs', hc, ht⟩ := hi i (by omega)
      rw [Tryd.cellsSt] at hc
      obtain ⟨d, rfl, _⟩ := open_step ht
      obtain ⟨_, hcl, hat⟩ := World.cells?_some hc
      refine ⟨d, fun j u hu => ?_⟩
      have hj : j < 5 := by
        rcases Nat.lt_or_ge j 5 with h1 | h1
        · exact h1
        · rw [List.getElem?_eq_none (by simp [valsS]; omega)] at hu; cases hu
      rw [hat j hj, hu]
    have el' : ∀ i, ∃ d : Sp, i < len → ∀ j u, (valsS d)[j]? = some u → W.cell? ((a.add (i * 5)).add j) = some u := fun i => by
      by_cases hil : i < len
      · obtain ⟨d, hd⟩ := el i hil; exact ⟨d, fun _ => hd⟩
      · exact ⟨zSp, fun h => absurd h hil⟩
    let f : Nat → Sp := fun i => Classical.choose (el' i)
    have hfs : ∀ i, i < len → ∀ j u, (valsS (f i))[j]? = some u → W.cell? ((a.add (i * 5)).add j) = some u := fun i hil => Classical.choose_spec (el' i) hil
    have hlen : ((List.range len).map f).length = len := by simp
    have hget : ∀ i, i < len → ((List.range len).map f).getD i zSp = f i := fun i hil => by
      rw [List.getD_eq_getElem?_getD, List.getElem?_map, List.getElem?_range hil]; rfl
    refine ⟨some a, m, (List.range len).map f, by rw [hlen], fun h0 => ?_⟩
    rw [hlen] at h0
    obtain ⟨sb, so, spot⟩ := a
    have hspot : spot = none := by
      have := hfs 0 h0 0 _ rfl
      simpa [Addr.add] using World.cell?_spot this
    subst hspot
    have key : ∀ i, i < len → ∀ j u, (valsS (f i))[j]? = some u → W.cell? ⟨sb, so + i * 5 + j, none⟩ = some u := fun i hil j u hu => by
      have := hfs i hil j u hu
      rw [add_plain5, add_plain5] at this; exact this
    refine ⟨sb, so, rfl, World.block_lt_of_cell? W _ (key 0 h0 0 _ rfl), fun i hil => ?_⟩
    rw [hlen] at hil
    rw [hget i hil]
    exact ⟨key i hil 0 _ rfl, key i hil 1 _ rfl, key i hil 2 _ rfl, key i hil 3 _ rfl, key i hil 4 _ rfl⟩
end Go.Proofs.YtlckajnbmkkpeaaDoor
