/- A list of whole numbers that came in. -/
import Derived.Test.YtahbbojhdkillaaDoorOp
namespace Go.Proofs.YtahbbojhdkillaaDoor
open Go.ChangeShapes Go.WideShapes Go.ChangeAt Go.RowKit Go.Deep

set_option maxRecDepth 100000 in
theorem open_refs {H : Type} {enc : TypeId × Value → H} {W : World} {base : Nat} {v : Value} {d : DataW H} {p : List MemPlace} (hv : Value.okWide Tryd.prog W .any base 24 v) (h : DataW.Trod enc Tryd.prog W 0 (fun _ => true) true 24 v d p) :
    ∃ s c refs, v = .slice s (List.length refs) c ∧ IntsV W s refs := by
  obtain ⟨a0, len0, cap0, rfl⟩ := okWide_slice Tryd.underlying24 hv
  obtain ⟨fuel, hf⟩ := h
  have hf : DataW.trod enc Tryd.prog W 0 (fun _ => true) true fuel 24 [.slice a0 len0 cap0] = some (d, p) := hf
  obtain ⟨s, c, l, e, hi⟩ := open_l hf
  simp only [List.cons.injEq, and_true] at e
  exact ⟨s, c, l, e, hi⟩
end Go.Proofs.YtahbbojhdkillaaDoor
