/- Layer 4: what is known stands where the arena beside it grows. -/
import Derived.Test.YtlckajnbmkkpeaaDoorEm
namespace Go.Proofs.YtlckajnbmkkpeaaDoor
open Go.RowKit Go.Maps

theorem cnt_more {K : Int → Bool} {n m : Nat} (h : ∀ i : Nat, n ≤ i → K i = false) (hm : n ≤ m) : cnt m K = cnt n K := by
  induction m with
  | zero => rw [show n = 0 by omega]
  | succ m ih =>
    rcases Nat.lt_or_ge m n with e | e
    · rw [show n = m + 1 by omega]
    · rw [← ih e]
      unfold cnt
      rw [List.range_succ, List.map_append, List.sum_append]
      simp [h m e]
/-- A Know's blocks are none of its arena's. -/
structure Off (bk b g bm mk : Nat) (hv : Value) : Prop where
  k : bk ≠ b ∧ bk ≠ g ∧ bk ≠ bm
  m : mk ≠ b ∧ mk ≠ g ∧ mk ≠ bm
  v : ∀ q, hv.ownBlock = some q → q ≠ b ∧ q ≠ g ∧ q ≠ bm
theorem Kno.off {w : World} {bk b g bm cap lim : Nat} {L : List Nd} {mk : Nat} {hv : Value} {hs : List Int} {K : Int → Bool} (h : Kno w bk b g bm cap lim L mk hv hs K) : Off bk b g bm mk hv := by
  have kd := Lib.ownsRow_kind h.own
  obtain ⟨es, cc, hob⟩ := h.kn.obj
  obtain ⟨Dm, hDm, _⟩ := h.ar.reg
  obtain ⟨es2, cc2, hob2, _⟩ := hDm
  have hrow : ∃ cur, w.heap[g]? = some (.cells cur 67 (0, 0)) := by
    rcases h.ar.own.2 with ⟨e, _⟩ | ⟨g', cap', cur', e, _, hg', _⟩
    · cases e
    · injection e with e _ _
      injection e with e
      injection e with e
      subst e
      exact ⟨_, hg'⟩
  obtain ⟨cur, hrow⟩ := hrow
  have ne : ∀ {i j : Nat} {o o' : Obj}, w.heap[i]? = some o → w.heap[j]? = some o' → o ≠ o' → i ≠ j := fun h1 h2 hn e => by
    subst e
    rw [h1] at h2
    exact hn (Option.some.inj h2)
  have hb := h.ar.box
  have hk := h.box
  refine ⟨⟨ne hk hb (by simp), ne hk hrow (by simp), ne hk hob2 (by simp)⟩, ⟨ne hob hb (by simp), ne hob hrow (by simp), h.ne⟩, fun q hq => ?_⟩
  obtain ⟨c', fz, hc⟩ := kd q hq
  exact ⟨ne hc hb (by simp), ne hc hrow (by simp), ne hc hob2 (by simp)⟩
theorem Kno.grow {w w' : World} {bk b g bm cap lim : Nat} {L M : List Nd} {mk : Nat} {hv : Value} {hs : List Int} {K : Int → Bool} (h : Kno w bk b g bm cap lim L mk hv hs K) {g' cap' : Nat} (hA : Ar w' b g' bm cap' lim (L ++ M)) (hk : Kept w w' b g bm) : Kno w' bk b g' bm cap' lim (L ++ M) mk hv hs K := by
  obtain ⟨⟨k1, k2, k3⟩, ⟨m1, m2, m3⟩, hv3⟩ := h.off
  have hh : ∀ i : Nat, L.length ≤ i → K i = false := fun i hi => by
    cases e : K i with
    | false => rfl
    | true => have := (hasB_iff.1 (h.kh _ e)).2; omega
  have hc : cnt (L ++ M).length K = cnt L.length K := cnt_more hh (by simp)
  refine ⟨hA, (hk.block _ (lt_of_heap h.box) k1 k2 k3).trans h.box, ?_, ownsRow_same h.own (fun q hq => hk.block q (h.own.lt q hq).2 (hv3 q hq).1 (hv3 q hq).2.1 (hv3 q hq).2.2), h.ne, fun r hr => has_ext (h.kh r hr), shut_ext h.ar.wf (fun x hx => h.kh x hx) h.sh⟩
  rw [hc]
  exact h.kn.keep (hk.block _ h.kn.lt m1 m2 m3)
theorem Kx.grow {w0 w w' : World} {bk b g bm cap lim : Nat} {L M : List Nd} {mk : Nat} {hv : Value} {hs : List Int} {K : Int → Bool} (h : Kx w0 w bk b g bm cap lim L mk hv hs K) {g' cap' : Nat} (hS : St w0 w' b g' bm cap' lim (L ++ M)) (hk : Kept w w' b g bm) : Kx w0 w' bk b g' bm cap' lim (L ++ M) mk hv hs K :=
  ⟨hS, h.kn.grow hS.ar hk, h.h1, h.h2, h.h3⟩
end Go.Proofs.YtlckajnbmkkpeaaDoor
