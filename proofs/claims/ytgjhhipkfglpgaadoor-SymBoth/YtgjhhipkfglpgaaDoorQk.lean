/- A list of nodes, and a node, that come in as arguments: opened. -/
import Derived.Test.YtgjhhipkfglpgaaDoorLaid
import Derived.Test.YtgjhhipkfglpgaaDoorQh
import Derived.Deep.Slices
namespace Go.Proofs.YtgjhhipkfglpgaaDoor
open Go.ChangeShapes Go.WideShapes Go.ChangeAt Go.RowKit Go.Deep

set_option maxRecDepth 100000 in
theorem take_of {cs : List Value} {v : Value} {o : Nat} (h : (cs.drop o).take 1 = [v]) : cs[o]? = some v := take_drop_one h

section
variable {H : Type} {enc : TypeId × Value → H} {w : World} {base : Nat} {spare : Nat → Bool} {held : Bool}
set_option maxRecDepth 100000 in
/-- What a node's five cells read as. -/
theorem open_node {fuel : Nat} {cs : List Value} {x : DataW H × List MemPlace} (h : DataW.trod enc Tryd.prog w base spare held fuel 53 cs = some x) : ∃ d : Nd, d.ok ∧ cs = vals d ∧ x.2 = [] := by
  obtain ⟨ys, n, _, hx, hlen, hyl, hf⟩ := DataW.trod_struct Tryd.underlying53 h
  rw [Tryd.cells53] at hlen
  have hyl5 : ys.length = 5 := hyl
  have y : ∀ j (hj : j < 5), ys[j]? = some (ys[j]'(by rw [hyl5]; exact hj)) := fun j hj => List.getElem?_eq_getElem (by rw [hyl5]; exact hj)
  have g0 := hf 0 _ rfl
  have g1 := hf 1 _ rfl
  have g2 := hf 2 _ rfl
  have g3 := hf 3 _ rfl
  have g4 := hf 4 _ rfl
  rw [y 0 (by omega)] at g0
  rw [y 1 (by omega)] at g1
  rw [y 2 (by omega)] at g2
  rw [y 3 (by omega)] at g3
  rw [y 4 (by omega)] at g4
  obtain ⟨a0, c0, e0, w0⟩ := DataW.trod_int Tryd.underlying3 g0
  obtain ⟨a1, c1, e1, w1⟩ := DataW.trod_int Tryd.underlying31 g1
  obtain ⟨a2, c2, e2, w2⟩ := DataW.trod_int Tryd.underlying3 g2
  obtain ⟨a3, c3, e3, w3⟩ := DataW.trod_int Tryd.underlying3 g3
  obtain ⟨a4, c4, e4, w4⟩ := DataW.trod_int Tryd.underlying3 g4
  have c0 : (cs.drop 0).take (Tryd.prog.cellsOf 3) = [.int .i64 a0] := c0
  have c1 : (cs.drop 1).take (Tryd.prog.cellsOf 31) = [.int .u64 a1] := c1
  have c2 : (cs.drop 2).take (Tryd.prog.cellsOf 3) = [.int .i64 a2] := c2
  have c3 : (cs.drop 3).take (Tryd.prog.cellsOf 3) = [.int .i64 a3] := c3
  have c4 : (cs.drop 4).take (Tryd.prog.cellsOf 3) = [.int .i64 a4] := c4
  rw [Tryd.cells3] at c0 c2 c3 c4
  rw [Tryd.cells31] at c1
  refine ⟨⟨a0, a1, a2, a3, a4⟩, ⟨ok_i64 w0, ok_u64 w1, ok_i64 w2, ok_i64 w3, ok_i64 w4⟩, ?_, ?_⟩
  · have q0 := take_of c0
    have q1 := take_of c1
    have q2 := take_of c2
    have q3 := take_of c3
    have q4 := take_of c4
    match cs, hlen with
    | [b0, b1, b2, b3, b4], _ =>
      simp at q0 q1 q2 q3 q4
      simp [vals, q0, q1, q2, q3, q4]
  · have hx2 := congrArg Prod.snd hx
    rw [hx2]
    clear hf hx2 hx c0 c1 c2 c3 c4 g0 g1 g2 g3 g4 y hyl
    match ys, hyl5, e0, e1, e2, e3, e4 with
    | [y0, y1, y2, y3, y4], _, e0, e1, e2, e3, e4 =>
      simp at e0 e1 e2 e3 e4
      simp [e0, e1, e2, e3, e4]
end

set_option maxRecDepth 100000 in
theorem agg_vals (d : Nd) : agg d = .agg (vals d).toArray := rfl
set_option maxRecDepth 100000 in
/-- A node that comes in by value. -/
theorem open_nodeV {H : Type} {enc : TypeId × Value → H} {W : World} {base : Nat} {v : Value} {d : DataW H} {p : List MemPlace} (hv : Value.okWide Tryd.prog W .any base 53 v) (h : DataW.Trod enc Tryd.prog W 0 (fun _ => true) true 53 v d p) : ∃ n : Nd, n.ok ∧ v = agg n := by
  obtain ⟨cs, rfl, _⟩ := okWide_struct Tryd.underlying53 hv
  obtain ⟨fuel, hf⟩ := h
  have hf : DataW.trod enc Tryd.prog W 0 (fun _ => true) true fuel 53 cs.toList = some (d, p) := hf
  obtain ⟨n, hn, hc, _⟩ := open_node hf
  exact ⟨n, hn, by rw [agg_vals, ← hc]⟩

set_option maxRecDepth 100000 in
theorem add_plain5 (sb so j : Nat) : (⟨sb, so, none⟩ : Addr).add j = ⟨sb, so + j, none⟩ := by unfold Addr.add; split <;> simp_all

set_option maxRecDepth 100000 in
/-- A list of nodes that came in: more than forty, or such that Built's contract serves. -/
theorem open_nodes {H : Type} {enc : TypeId × Value → H} {W : World} {base : Nat} {v : Value} {d : DataW H} {p : List MemPlace} (hv : Value.okWide Tryd.prog W .any base 22 v) (h : DataW.Trod enc Tryd.prog W 0 (fun _ => true) true 22 v d p) (hs : Shp W) :
    (∃ s n c, v = .slice s n c ∧ 40 < n ∧ n ≤ maxLen) ∨
    (∃ s c ns, v = .slice s ns.length c ∧ ns.length ≤ 40 ∧ BuiltAt W v ns ∧ (∀ i, i < ns.length → (ns.getD i zN).ok) ∧ (0 < ns.length → ∃ sb so, s = some ⟨sb, so, none⟩ ∧ sb < W.heap.size ∧ srcAt W sb so ns)) := by
  obtain ⟨a0, len, cap, rfl⟩ := okWide_slice Tryd.underlying22 hv
  obtain ⟨fuel, hf⟩ := h
  have hf : DataW.trod enc Tryd.prog W 0 (fun _ => true) true fuel 22 [.slice a0 len cap] = some (d, p) := hf
  have empty : ∀ (s : Option Addr) (c : Nat), BuiltAt W (.slice s 0 c) [] := fun s c x lim hl W' hb => built_empty x lim hl s c W' (hs.below hb)
  rcases open_slice Tryd.underlying22 hf with ⟨h0, _⟩ | ⟨a, len', cap', m, n, D, Pl, hcs, _, hl, hm, hmm, _, hi⟩
  · simp only [List.cons.injEq, Value.slice.injEq, and_true] at h0
    obtain ⟨rfl, rfl, rfl⟩ := h0
    exact .inr ⟨none, 0, [], rfl, by simp, empty _ _, fun i hi => by simp at hi, fun h => by simp at h⟩
  · simp only [List.cons.injEq, Value.slice.injEq, and_true] at hcs
    obtain ⟨rfl, rfl, rfl⟩ := hcs
    simp only [if_true] at hmm
    subst hmm
    by_cases h40 : 40 < len
    · exact .inl ⟨_, _, _, rfl, h40, by omega⟩
    · right
      have el : ∀ i, i < len → ∃ d : Nd, d.ok ∧ ∀ j u, (vals d)[j]? = some u → W.cell? ((a.add (i * 5)).add j) = some u := by
        intro i hil
        obtain ⟨cs', hc, ht⟩ := hi i (by omega)
        rw [Tryd.cells53] at hc
        obtain ⟨d, hd, rfl, _⟩ := open_node ht
        obtain ⟨_, hcl, hat⟩ := World.cells?_some hc
        refine ⟨d, hd, fun j u hu => ?_⟩
        have hj : j < 5 := by
          rcases Nat.lt_or_ge j 5 with h1 | h1
          · exact h1
          · rw [List.getElem?_eq_none (by simp [vals]; omega)] at hu; cases hu
        rw [hat j hj, hu]
      have el' : ∀ i, ∃ d : Nd, i < len → d.ok ∧ ∀ j u, (vals d)[j]? = some u → W.cell? ((a.add (i * 5)).add j) = some u := fun i => by
        by_cases hil : i < len
        · obtain ⟨d, hd⟩ := el i hil; exact ⟨d, fun _ => hd⟩
        · exact ⟨zN, fun h => absurd h hil⟩
      let f : Nat → Nd := fun i => Classical.choose (el' i)
      have hfs : ∀ i, i < len → (f i).ok ∧ ∀ j u, (vals (f i))[j]? = some u → W.cell? ((a.add (i * 5)).add j) = some u := fun i hil => Classical.choose_spec (el' i) hil
      have hlen : ((List.range len).map f).length = len := by simp
      have hget : ∀ i, i < len → ((List.range len).map f).getD i zN = f i := fun i hil => by
        rw [List.getD_eq_getElem?_getD, List.getElem?_map, List.getElem?_range hil]; rfl
      have hok : ∀ i, i < ((List.range len).map f).length → (((List.range len).map f).getD i zN).ok := fun i hil => by
        rw [hlen] at hil; rw [hget i hil]; exact (hfs i hil).1
      by_cases hpos : 0 < len
      · obtain ⟨sb, so, spot⟩ := a
        have hspot : spot = none := by
          have := (hfs 0 hpos).2 0 _ rfl
          simpa [Addr.add] using World.cell?_spot this
        subst hspot
        have src : srcAt W sb so ((List.range len).map f) := by
          intro i hil
          rw [hlen] at hil
          rw [hget i hil]
          have key : ∀ j u, (vals (f i))[j]? = some u → W.cell? ⟨sb, so + i * 5 + j, none⟩ = some u := fun j u hu => by
            have := (hfs i hil).2 j u hu
            rw [add_plain5, add_plain5] at this; exact this
          exact ⟨key 0 _ rfl, key 1 _ rfl, key 2 _ rfl, key 3 _ rfl, key 4 _ rfl⟩
        have hsb : sb < W.heap.size := World.block_lt_of_cell? W _ (src 0 (by rw [hlen]; exact hpos)).1
        obtain ⟨ns, hns⟩ : ∃ ns, ns = (List.range len).map f := ⟨_, rfl⟩
        rw [← hns] at hlen hok src
        clear hget hfs hi hns
        clear f
        clear el' el
        subst hlen
        refine ⟨_, m, ns, rfl, by omega, ?_, hok, fun _ => ⟨sb, so, rfl, hsb, src⟩⟩
        intro x lim hlm W' hb
        have e5 : ∀ o, W'.cell? ⟨sb, o, none⟩ = W.cell? ⟨sb, o, none⟩ := fun o => hb.cell (p := ⟨sb, o, none⟩) hsb
        have src' : srcAt W' sb so ns := fun i hil => by rw [e5, e5, e5, e5, e5]; exact src i hil
        exact built_some x lim hlm sb so m ns (by omega) hok W' (hs.below hb) (Nat.lt_of_lt_of_le hsb hb.size) src'
      · obtain rfl : len = 0 := by omega
        exact ⟨_, m, [], rfl, by simp, empty _ _, fun i hi => by simp at hi, fun h => by simp at h⟩
end Go.Proofs.YtgjhhipkfglpgaaDoor
