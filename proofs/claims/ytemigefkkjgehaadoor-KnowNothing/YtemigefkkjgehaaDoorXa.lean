/- Layer 3: the two maps of a search in memory: what is known, and what was asked. -/
import Derived.Test.YtemigefkkjgehaaDoorQe
import Derived.Test.YtemigefkkjgehaaDoorVz
import Derived.Maps.OwnSet
namespace Go.Proofs.YtemigefkkjgehaaDoor
open Go.RowKit Go.Maps

theorem lawI : Keyed Tryd.prog 3 := int_keyed Tryd.underlying3
theorem keyI {x : Int} (h : i64ok x) : keyOf Tryd.prog 3 (.int .i64 x) = some (.int .i64 x) := by
  have := wf_i64 h
  simp [keyOf, mapKey, Tryd.underlying3, this]
theorem zeroU (w : World) : (zeroValue 74).run Tryd.prog w = .ok (.agg #[]) w := by kernel_rfl
theorem zeroP (w : World) : (zeroValue 87).run Tryd.prog w = .ok (.pointer none) w := by kernel_rfl

/-! ### A set of ints. -/
def RegU (D : DataW Unit) (K : Int → Bool) : Prop := IsMap D ∧ ∀ x : Int, i64ok x → Maps.has D (.int .i64 x) = K x
theorem RegU.empty : RegU (.map []) (fun _ => false) := ⟨isMap_empty, fun _ _ => rfl⟩
theorem RegU.put {D : DataW Unit} {K : Int → Bool} (h : RegU D K) {y : Int} (hy : i64ok y) (v : DataW Unit) : RegU (D.put (.int .i64 y) v) (fun x => if x = y then true else K x) := by
  refine ⟨h.1.put _ _, fun x hx => ?_⟩
  by_cases hxy : x = y
  · subst hxy
    simp only [if_true]
    exact has_put_same h.1 (lawI.key (keyI hx)) _
  · have hne : (Lit.int .i64 x) ≠ Lit.int .i64 y := fun e => hxy (by injection e)
    simp only [if_neg hxy]
    rw [has_put_other hne]
    exact h.2 x hx
def MapU (w : World) (m n : Nat) (K : Int → Bool) : Prop := ∃ D : DataW Unit, w.ownsMap Tryd.prog 3 (unitElem (H := Unit)) m n D ∧ RegU D K
theorem MapU.lt {w : World} {m n : Nat} {K : Int → Bool} (h : MapU w m n K) : m < w.heap.size := by obtain ⟨D, hD, _⟩ := h; exact hD.lt
theorem MapU.obj {w : World} {m n : Nat} {K : Int → Bool} (h : MapU w m n K) : ∃ es c, w.heap[m]? = some (.map es c) := by obtain ⟨D, ⟨es, c, hb, _⟩, _⟩ := h; exact ⟨es, c, hb⟩
theorem MapU.keep {w w' : World} {m n : Nat} {K : Int → Bool} (h : MapU w m n K) (hk : w'.heap[m]? = w.heap[m]?) : MapU w' m n K := by
  obtain ⟨D, ⟨es, c, hb, rest⟩, hr⟩ := h
  exact ⟨D, ⟨es, c, hk.trans hb, rest⟩, hr⟩
theorem MapU.look {w : World} {m n : Nat} {K : Int → Bool} (h : MapU w m n K) {x : Int} (hx : i64ok x) :
    (Instr.lookup 73 (.map (some m)) (.int .i64 x) true).run Tryd.prog w = .ok (.tuple #[.agg #[], .bool (K x)]) w := by
  obtain ⟨D, hD, hR⟩ := h
  obtain ⟨v, ps, hrun, hv⟩ := hD.look_ok lawI Tryd.underlying73 (zeroU w) unitElem_mk (keyI hx)
  obtain ⟨rfl, _⟩ := unitElem_inv hv
  rw [hR.2 x hx] at hrun
  exact hrun
theorem MapU.store {w : World} {m n : Nat} {K : Int → Bool} (h : MapU w m n K) (hn : n < maxLen) {x : Int} (hx : i64ok x) :
    ∃ w', (Instr.mapUpdate 73 (.map (some m)) (.int .i64 x) (.agg #[])).run Tryd.prog w = .ok () w' ∧ MapU w' m (n + 1) (fun y => if y = x then true else K y) ∧ w.mapTurned w' m := by
  obtain ⟨D, hD, hR⟩ := h
  obtain ⟨w', h1, h2, h3⟩ := hD.store lawI Tryd.underlying73 hn (keyI hx) (unitElem_mk (H := Unit))
  exact ⟨w', h1, ⟨_, h2, hR.put hx _⟩, h3⟩
theorem MapU.made (w : World) : MapU (w.alloc (.map #[] 0)) w.heap.size 0 (fun _ => false) := ⟨_, World.ownsMap_made w Tryd.prog 3 (unitElem (H := Unit)), RegU.empty⟩

/-! ### A map from ints to pointers. -/
def pv (o : Option Nat) : Value := .pointer (o.map fun a => ⟨a, 0, none⟩)
def pzo (o : Option Nat) : Int := match o with
  | some a => a
  | none => -1
theorem pzo_inj {o p : Option Nat} (h : pzo o = pzo p) : o = p := by
  cases o <;> cases p <;> simp only [pzo] at h
  · rfl
  · omega
  · omega
  · obtain rfl : _ = _ := Int.ofNat.inj h; rfl
def ptrElem : Value → Option (DataW Unit × List MemPlace)
  | .pointer none => some (.lit (.int .i64 (-1)), [])
  | .pointer (some ⟨a, 0, none⟩) => some (.lit (.int .i64 a), [])
  | _ => none
theorem ptrElem_mk (o : Option Nat) : ptrElem (pv o) = some (.lit (.int .i64 (pzo o)), []) := by cases o <;> rfl
theorem ptrElem_inv {v : Value} {z : DataW Unit × List MemPlace} (h : ptrElem v = some z) : ∃ o, v = pv o ∧ z = (.lit (.int .i64 (pzo o)), []) := by
  unfold ptrElem at h
  split at h
  · exact ⟨none, rfl, (Option.some.inj h).symm⟩
  · exact ⟨some _, rfl, (Option.some.inj h).symm⟩
  · cases h
def RegP (D : DataW Unit) (f : Int → Option Nat) : Prop := IsMap D ∧ ∀ x : Int, i64ok x → D.atKey (.int .i64 x) (.lit (.int .i64 (-1))) = .lit (.int .i64 (pzo (f x)))
theorem RegP.empty : RegP (.map []) (fun _ => none) := ⟨isMap_empty, fun _ _ => rfl⟩
theorem RegP.put {D : DataW Unit} {f : Int → Option Nat} (h : RegP D f) {y : Int} (hy : i64ok y) (a : Nat) : RegP (D.put (.int .i64 y) (.lit (.int .i64 (pzo (some a))))) (fun x => if x = y then some a else f x) := by
  refine ⟨h.1.put _ _, fun x hx => ?_⟩
  by_cases hxy : x = y
  · subst hxy
    simp only [if_true]
    exact atKey_put_same h.1 (lawI.key (keyI hx)) _ _
  · have hne : (Lit.int .i64 x) ≠ Lit.int .i64 y := fun e => hxy (by injection e)
    simp only [if_neg hxy]
    rw [atKey_put_other hne]
    exact h.2 x hx
def MapP (w : World) (m n : Nat) (f : Int → Option Nat) : Prop := ∃ D : DataW Unit, w.ownsMap Tryd.prog 3 ptrElem m n D ∧ RegP D f
theorem MapP.lt {w : World} {m n : Nat} {f : Int → Option Nat} (h : MapP w m n f) : m < w.heap.size := by obtain ⟨D, hD, _⟩ := h; exact hD.lt
theorem MapP.obj {w : World} {m n : Nat} {f : Int → Option Nat} (h : MapP w m n f) : ∃ es c, w.heap[m]? = some (.map es c) := by obtain ⟨D, ⟨es, c, hb, _⟩, _⟩ := h; exact ⟨es, c, hb⟩
theorem MapP.keep {w w' : World} {m n : Nat} {f : Int → Option Nat} (h : MapP w m n f) (hk : w'.heap[m]? = w.heap[m]?) : MapP w' m n f := by
  obtain ⟨D, ⟨es, c, hb, rest⟩, hr⟩ := h
  exact ⟨D, ⟨es, c, hk.trans hb, rest⟩, hr⟩
theorem MapP.look {w : World} {m n : Nat} {f : Int → Option Nat} (h : MapP w m n f) {x : Int} (hx : i64ok x) :
    (Instr.lookup 112 (.map (some m)) (.int .i64 x) false).run Tryd.prog w = .ok (pv (f x)) w := by
  obtain ⟨D, hD, hR⟩ := h
  obtain ⟨v, ps, hrun, hv⟩ := hD.lookup lawI Tryd.underlying112 (zeroP w) (ptrElem_mk none) (keyI hx)
  obtain ⟨o, rfl, ho⟩ := ptrElem_inv hv
  have hat := hR.2 x hx
  have e := congrArg Prod.fst ho
  simp only at e
  rw [show pzo none = -1 from rfl, hat] at e
  simp only [DataW.lit.injEq, Lit.int.injEq, true_and] at e
  rw [pzo_inj e]
  exact hrun
theorem MapP.store {w : World} {m n : Nat} {f : Int → Option Nat} (h : MapP w m n f) (hn : n < maxLen) {x : Int} (hx : i64ok x) (a : Nat) :
    ∃ w', (Instr.mapUpdate 112 (.map (some m)) (.int .i64 x) (.pointer (some ⟨a, 0, none⟩))).run Tryd.prog w = .ok () w' ∧ MapP w' m (n + 1) (fun y => if y = x then some a else f y) ∧ w.mapTurned w' m := by
  obtain ⟨D, hD, hR⟩ := h
  obtain ⟨w', h1, h2, h3⟩ := hD.store lawI Tryd.underlying112 hn (keyI hx) (ptrElem_mk (some a))
  exact ⟨w', h1, ⟨_, h2, hR.put hx a⟩, h3⟩
theorem MapP.made (w : World) : MapP (w.alloc (.map #[] 0)) w.heap.size 0 (fun _ => none) := ⟨_, World.ownsMap_made w Tryd.prog 3 ptrElem, RegP.empty⟩
end Go.Proofs.YtemigefkkjgehaaDoor
