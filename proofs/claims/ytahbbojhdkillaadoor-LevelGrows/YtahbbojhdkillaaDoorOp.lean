/- A pattern that comes in as an argument: opened. -/
import Derived.Test.YtahbbojhdkillaaDoorLaid
import Derived.Deep.Slices
import Derived.ChangeMaps5
namespace Go.Proofs.YtahbbojhdkillaaDoor
open Go.ChangeShapes Go.WideShapes Go.ChangeAt Go.RowKit Go.Deep

theorem Tryd.cellsI : Tryd.prog.cellsOf 3 = 1 := by kernel_rfl
theorem Tryd.cellsL : Tryd.prog.cellsOf 24 = 1 := by kernel_rfl
theorem Tryd.cellsLM : Tryd.prog.cellsOf 27 = 1 := by kernel_rfl
theorem Tryd.cellsA : Tryd.prog.cellsOf 26 = 2 := by kernel_rfl
theorem Tryd.cellsM : Tryd.prog.cellsOf 68 = 2 := by kernel_rfl
theorem Tryd.cellsP : Tryd.prog.cellsOf 29 = 4 := by kernel_rfl
theorem add_plain (sb so j : Nat) : (⟨sb, so, none⟩ : Addr).add j = ⟨sb, so + j, none⟩ := by unfold Addr.add; split <;> simp_all

section
variable {H : Type} {enc : TypeId × Value → H} {W : World}
set_option maxRecDepth 100000 in
theorem open_l {fuel : Nat} {cs : List Value} {x : DataW H × List MemPlace} (hf : DataW.trod enc Tryd.prog W 0 (fun _ => true) true fuel 24 cs = some x) : ∃ s c l, cs = [.slice s (List.length l) c] ∧ IntsV W s l := by
  obtain ⟨d, p⟩ := x
  rcases open_ints Tryd.underlying24 Tryd.underlying3 Tryd.cellsI hf with ⟨h0, _⟩ | ⟨a, len, cap, zs, hcs, _, hl, hm, hz, _, hi, _⟩
  · exact ⟨none, 0, [], by rw [h0]; rfl, fun h => by simp at h⟩
  · simp only [if_true] at hz
    have hlen : (zs.take len).length = len := by rw [List.length_take]; omega
    refine ⟨some a, cap, zs.take len, by rw [hlen, hcs], fun h0 => ?_⟩
    rw [hlen] at h0
    obtain ⟨gl, ol, spot⟩ := a
    have hspot : spot = none := by
      have := hi 0 (by omega)
      simpa [Addr.add] using World.cell?_spot this
    subst hspot
    have key : ∀ i, i < zs.length → W.cell? ⟨gl, ol + i, none⟩ = some (.int .i64 (zs.getD i 0)) := fun i hil => by
      have := hi i hil
      rw [add_plain] at this; exact this
    refine ⟨gl, ol, rfl, fun i hil => ?_⟩
    rw [hlen] at hil
    rw [key i (by omega)]
    simp [List.getD_eq_getElem?_getD, hil]
set_option maxRecDepth 100000 in
theorem open_m {fuel : Nat} {cs : List Value} {x : DataW H × List MemPlace} (h : DataW.trod enc Tryd.prog W 0 (fun _ => true) true fuel 68 cs = some x) : ∃ (m : Ms) (s : Option Addr) (c : Nat), cs = [.int .i64 m.fr, .slice s m.t.length c] ∧ IntsV W s m.t := by
  obtain ⟨ys, n, _, hx, hlen, hyl, hf⟩ := DataW.trod_struct Tryd.underlying68 h
  rw [Tryd.cellsM] at hlen
  have hyl2 : ys.length = 2 := hyl
  have g0 := hf 0 _ rfl
  have g1 := hf 1 _ rfl
  rw [List.getElem?_eq_getElem (by omega : 0 < ys.length)] at g0
  rw [List.getElem?_eq_getElem (by omega : 1 < ys.length)] at g1
  obtain ⟨a0, c0, _, _⟩ := DataW.trod_int Tryd.underlying3 g0
  have c0 : (cs.drop 0).take (Tryd.prog.cellsOf 3) = [.int .i64 a0] := c0
  rw [Tryd.cellsI] at c0
  obtain ⟨s, c, l, c1, hi⟩ := open_l g1
  have c1 : (cs.drop 1).take (Tryd.prog.cellsOf 24) = [.slice s l.length c] := c1
  rw [Tryd.cellsL] at c1
  refine ⟨⟨a0, l⟩, s, c, ?_, hi⟩
  match cs, hlen with
  | [b0, b1], _ =>
    simp at c0 c1
    simp [c0, c1]
set_option maxRecDepth 100000 in
theorem open_ms {fuel : Nat} {cs : List Value} {x : DataW H × List MemPlace} (hf : DataW.trod enc Tryd.prog W 0 (fun _ => true) true fuel 27 cs = some x) : ∃ (s : Option Addr) (c : Nat) (ms : List Ms), cs = [.slice s ms.length c] ∧ MsgsV W s ms ∧ ms.length ≤ c := by
  rcases open_slice Tryd.underlying27 hf with ⟨h0, _⟩ | ⟨a, len, cap, m, n, D, Pl, hcs, _, hl, hm, hmm, _, hi⟩
  · exact ⟨none, 0, [], by rw [h0]; rfl, fun h => by simp at h, Nat.le_refl _⟩
  · simp only [if_true] at hmm
    subst hmm
    have el : ∀ i, i < len → ∃ (d : Ms) (s : Option Addr) (c : Nat), (∀ j u, [Value.int .i64 d.fr, .slice s d.t.length c][j]? = some u → W.cell? ((a.add (i * 2)).add j) = some u) ∧ IntsV W s d.t := by
      intro i hil
      obtain ⟨cs', hc, ht⟩ := hi i (by omega)
      rw [Tryd.cellsM] at hc
      obtain ⟨d, s, c, rfl, hd⟩ := open_m ht
      obtain ⟨_, hcl, hat⟩ := World.cells?_some hc
      refine ⟨d, s, c, fun j u hu => ?_, hd⟩
      have hj : j < 2 := by
        rcases Nat.lt_or_ge j 2 with h1 | h1
        · exact h1
        · rw [List.getElem?_eq_none (by simp; omega)] at hu; cases hu
      rw [hat j hj, hu]
    have el' : ∀ i, ∃ d : Ms, i < len → ∃ (s : Option Addr) (c : Nat), (∀ j u, [Value.int .i64 d.fr, .slice s d.t.length c][j]? = some u → W.cell? ((a.add (i * 2)).add j) = some u) ∧ IntsV W s d.t := fun i => by
      by_cases hil : i < len
      · obtain ⟨d, hd⟩ := el i hil; exact ⟨d, fun _ => hd⟩
      · exact ⟨default, fun h => absurd h hil⟩
    let f : Nat → Ms := fun i => Classical.choose (el' i)
    have hfs : ∀ i, i < len → ∃ (s : Option Addr) (c : Nat), (∀ j u, [Value.int .i64 (f i).fr, .slice s (f i).t.length c][j]? = some u → W.cell? ((a.add (i * 2)).add j) = some u) ∧ IntsV W s (f i).t := fun i hil => Classical.choose_spec (el' i) hil
    have hlen : ((List.range len).map f).length = len := by simp
    refine ⟨some a, _, (List.range len).map f, by rw [hlen, hcs], fun h0 => ?_, by rw [hlen]; exact hl⟩
    rw [hlen] at h0
    obtain ⟨sb, so, spot⟩ := a
    have hspot : spot = none := by
      obtain ⟨s, c, h1, _⟩ := hfs 0 h0
      have := h1 0 _ rfl
      simpa [Addr.add] using World.cell?_spot this
    subst hspot
    refine ⟨sb, so, rfl, fun i hil => ?_⟩
    rw [hlen] at hil
    have hget : ((List.range len).map f).getD i default = f i := by
      rw [List.getD_eq_getElem?_getD, List.getElem?_map, List.getElem?_range hil]; rfl
    rw [hget]
    obtain ⟨s, c, h1, h2⟩ := hfs i hil
    have a0 := h1 0 _ rfl
    have a1 := h1 1 _ rfl
    rw [add_plain, add_plain] at a0 a1
    exact ⟨a0, s, c, a1, h2⟩
set_option maxRecDepth 100000 in
theorem open_pat {base : Nat} {v : Value} {d : DataW H} {p : List MemPlace} (hv : Value.okWide Tryd.prog W .any base 29 v) (h : DataW.Trod enc Tryd.prog W 0 (fun _ => true) true 29 v d p) : ∃ (x : Sl) (q : Pt), v = patV x q ∧ PatA W x q := by
  obtain ⟨cs, rfl, _⟩ := okWide_struct Tryd.underlying29 hv
  obtain ⟨fuel, hf⟩ := h
  have hf : DataW.trod enc Tryd.prog W 0 (fun _ => true) true fuel 29 cs.toList = some (d, p) := hf
  obtain ⟨ys, n, _, hx, hlen, hyl, hf⟩ := DataW.trod_struct Tryd.underlying29 hf
  rw [Tryd.cellsP] at hlen
  have hyl3 : ys.length = 3 := hyl
  have g0 := hf 0 _ rfl
  have g1 := hf 1 _ rfl
  have g2 := hf 2 _ rfl
  rw [List.getElem?_eq_getElem (by omega : 0 < ys.length)] at g0
  rw [List.getElem?_eq_getElem (by omega : 1 < ys.length)] at g1
  rw [List.getElem?_eq_getElem (by omega : 2 < ys.length)] at g2
  obtain ⟨s, c0, _, _⟩ := DataW.trod_string Tryd.underlying9 g0
  have c0 : (cs.toList.drop 0).take (Tryd.prog.cellsOf 9) = [.string s] := c0
  rw [Tryd.cellsS] at c0
  obtain ⟨xs, m, _, _, _, hxn, hel⟩ := DataW.trod_array Tryd.underlying26 g1
  have e0 := hel 0 (by omega)
  have e1 := hel 1 (by omega)
  rw [List.getElem?_eq_getElem (by omega : 0 < xs.length)] at e0
  rw [List.getElem?_eq_getElem (by omega : 1 < xs.length)] at e1
  obtain ⟨s0, k0, l0, q0, i0⟩ := open_l e0
  obtain ⟨s1, k1, l1, q1, i1⟩ := open_l e1
  have q0 : ((((cs.toList.drop 1).take (Tryd.prog.cellsOf 26)).drop (0 * Tryd.prog.cellsOf 24)).take (Tryd.prog.cellsOf 24)) = [.slice s0 l0.length k0] := q0
  have q1 : ((((cs.toList.drop 1).take (Tryd.prog.cellsOf 26)).drop (1 * Tryd.prog.cellsOf 24)).take (Tryd.prog.cellsOf 24)) = [.slice s1 l1.length k1] := q1
  rw [Tryd.cellsA, Tryd.cellsL] at q0 q1
  obtain ⟨s2, k2, ms, q2, i2, i3⟩ := open_ms g2
  have q2 : (cs.toList.drop 3).take (Tryd.prog.cellsOf 27) = [.slice s2 ms.length k2] := q2
  rw [Tryd.cellsLM] at q2
  refine ⟨⟨s0, k0, s1, k1, s2, k2⟩, ⟨s.data.toList, l0, l1, ms⟩, ?_, ⟨i0, i1, i2, i3⟩⟩
  obtain ⟨cl⟩ := cs
  simp only at hlen c0 q0 q1 q2
  match cl, hlen with
  | [b0, b1, b2, b3], _ =>
    simp at c0 q0 q1 q2
    simp [patV, c0, q0, q1, q2]
end
end Go.Proofs.YtahbbojhdkillaaDoor
