/- A list of whole numbers that came in. -/
import Derived.Test.YtlckajnbmkkpeaaDoorQk
import Derived.Test.YtlckajnbmkkpeaaDoorZd
namespace Go.Proofs.YtlckajnbmkkpeaaDoor
open Go.ChangeShapes Go.WideShapes Go.RowKit

set_option maxRecDepth 100000 in
theorem open_refs {H : Type} {enc : TypeId × Value → H} {W : World} {base : Nat} {v : Value} {d : DataW H} {p : List MemPlace} (hv : Value.okWide Tryd.prog W .any base 23 v) (h : DataW.Trod enc Tryd.prog W 0 (fun _ => true) true 23 v d p) :
    ∃ s c refs, v = .slice s refs.length c ∧ IntsV W s refs := by
  obtain ⟨a0, len0, cap0, rfl⟩ := okWide_slice Tryd.underlying23 hv
  obtain ⟨fuel, hf⟩ := h
  have hf : DataW.trod enc Tryd.prog W 0 (fun _ => true) true fuel 23 [.slice a0 len0 cap0] = some (d, p) := hf
  rcases open_ints Tryd.underlying23 Tryd.underlying3 (by kernel_rfl) hf with ⟨h0, _⟩ | ⟨a, len, cap, zs, hcs, _, hl, hm, hz, _, hi, _⟩
  · simp only [List.cons.injEq, Value.slice.injEq, and_true] at h0
    obtain ⟨rfl, rfl, rfl⟩ := h0
    exact ⟨none, 0, [], rfl, fun h => by simp at h⟩
  · simp only [List.cons.injEq, Value.slice.injEq, and_true] at hcs
    obtain ⟨rfl, rfl, rfl⟩ := hcs
    simp only [if_true] at hz
    have hlen : (zs.take len0).length = len0 := by rw [List.length_take]; omega
    refine ⟨some a, cap0, zs.take len0, by rw [hlen], fun h0 => ?_⟩
    rw [hlen] at h0
    obtain ⟨gl, ol, spot⟩ := a
    have hspot : spot = none := by
      have := hi 0 (by omega)
      simpa [Addr.add] using World.cell?_spot this
    subst hspot
    have key : ∀ i, i < zs.length → W.cell? ⟨gl, ol + i, none⟩ = some (.int .i64 (zs.getD i 0)) := fun i hil => by
      have := hi i hil
      rw [add_plain5] at this; exact this
    refine ⟨gl, ol, rfl, World.block_lt_of_cell? W _ (key 0 (by omega)), fun i hil => ?_⟩
    rw [hlen] at hil
    rw [key i (by omega)]
    simp [List.getD_eq_getElem?_getD, hil]
end Go.Proofs.YtlckajnbmkkpeaaDoor
