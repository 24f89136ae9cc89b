/- Layer 3: who knows nothing: what the loop of KnowNothing keeps. -/
import Derived.Test.YtemigefkkjgehaaDoorLf
import Derived.Test.YtemigefkkjgehaaDoorEm
import Derived.Test.YtemigefkkjgehaaDoorZb1
namespace Go.Proofs.YtemigefkkjgehaaDoor
open Go.RowKit Go.Maps

/-- What the next term comes to where nothing is known. -/
def nst (out : List Bool) (d : Nd) : Bool :=
  if d.k = 0 ∨ d.k = 9 then true
  else if d.k = 1 then decide (4294967296 ≤ d.n)
  else if d.k = 2 then out.getD d.a.toNat false
  else if d.k = 7 then out.getD d.a.toNat false && out.getD d.b.toNat false && out.getD d.c.toNat false
  else out.getD d.a.toNat false && out.getD d.b.toNat false
theorem rpub_nil {L : List Nd} {k out : List Bool} (hk : ∀ j, k.getD j false = false) (x : Int) : rpub L k out x = out.getD x.toNat false := by
  unfold rpub
  simp only [hk, Bool.false_and]
  simp
theorem rstep_nil {L : List Nd} {k out : List Bool} (hk : ∀ j, k.getD j false = false) (i : Nat) : rstep L k out i = nst out (L.getD i zN) := by
  unfold rstep nst
  simp only [rpub_nil hk, hk, Bool.false_or]
  generalize out.getD (L.getD i zN).a.toNat false = x
  generalize out.getD (L.getD i zN).b.toNat false = y
  generalize out.getD (L.getD i zN).c.toNat false = z
  by_cases h0 : (L.getD i zN).k = 0 ∨ (L.getD i zN).k = 9
  · rw [if_pos h0, if_pos h0]
  · rw [if_neg h0, if_neg h0]
    by_cases h1 : (L.getD i zN).k = 1
    · rw [if_pos h1, if_pos h1]
    · rw [if_neg h1, if_neg h1]
      by_cases h2 : (L.getD i zN).k = 2
      · rw [if_pos h2, if_pos h2]
      · rw [if_neg h2, if_neg h2]
        by_cases h3 : (L.getD i zN).k = 3
        · rw [if_pos h3, if_neg (by omega : ¬ (L.getD i zN).k = 7)]
          cases x <;> cases y <;> rfl
        · rw [if_neg h3]
/-- What the row says of a term is whether it can be made. -/
theorem nst_can {L : List Nd} (hL : WF L) {k : List Bool} (hk : ∀ j, k.getD j false = false) {K : Int → Bool} (hK : ∀ y, K y = false) {i : Nat} (hi : i < L.length) : nst (rfull L k i) (L.getD i zN) = true ↔ Can L (fun y => K y = true) i := by
  have h := rcan_iff hL k (i + 1) (by omega) i (by omega)
  have e : knB k = fun y => K y = true := funext fun y => propext (by
    unfold knB
    rw [hk, hK]
    simp)
  rw [e] at h
  rw [← h, ← rstep_nil hk, rcan, List.getD_eq_getElem?_getD, List.getElem?_append_right (by rw [rcan_len]; exact Nat.le_refl _), rcan_len, Nat.sub_self]
  unfold rfull
  rw [rstep_rep]
  rfl

/-- The loop of KnowNothing, under way. -/
structure Nl (w wq : World) (S pb gr capr go bk b g bm cap : Nat) (L : List Nd) (mk : Nat) (hv : Value) (K : Int → Bool) (row : List Bool) : Prop where
  kx : Kx w wq bk b g bm cap 100 L mk hv [] K
  br : BR wq go row
  row : rowAt wq gr L
  box : wq.heap[pb]? = some (.cells #[.int .i64 100, .slice (some ⟨gr, 0, none⟩) L.length capr] 29 (0, 0))
  ag : Apart wq bk mk hv gr
  ap : Apart wq bk mk hv pb
  ao : Apart wq bk mk hv go
  lt : bk < S ∧ b < S ∧ g < S ∧ bm < S ∧ mk < S ∧ gr < S ∧ pb < S ∧ ∀ k, hv.ownBlock = some k → k < S
  lo : S ≤ go ∧ w.heap.size ≤ S
section
variable {w wq w' : World} {S pb gr capr go bk b g bm cap : Nat} {L : List Nd} {mk : Nat} {hv : Value} {K : Int → Bool} {row : List Bool}
theorem Nl.keep (h : Nl w wq S pb gr capr go bk b g bm cap L mk hv K row) (hb : Below wq.heap.size wq w') : Nl w w' S pb gr capr go bk b g bm cap L mk hv K row :=
  ⟨h.kx.keep hb, h.br.keep (h.ao.keep hb).2, h.row.keep (h.ag.keep hb).2, (h.ap.keep hb).2.trans h.box, (h.ag.keep hb).1, (h.ap.keep hb).1, (h.ao.keep hb).1, h.lt, h.lo⟩
theorem Nl.can (h : Nl w wq S pb gr capr go bk b g bm cap L mk hv K row) (hk : Kno w' bk b g bm cap 100 L mk hv [] K) (hp : Kp wq w' mk) : Nl w w' S pb gr capr go bk b g bm cap L mk hv K row :=
  ⟨h.kx.can hk hp, h.br.keep (h.ao.can hp).2, h.row.keep (h.ag.can hp).2, (h.ap.can hp).2.trans h.box, (h.ag.can hp).1, (h.ap.can hp).1, (h.ao.can hp).1, h.lt, h.lo⟩
theorem Nl.set (h : Nl w wq S pb gr capr go bk b g bm cap L mk hv K row) (i : Nat) (v : Bool) : Nl w (wq.setCell ⟨go, i, none⟩ (.bool v)) S pb gr capr go bk b g bm cap L mk hv K (row.set i v) := by
  obtain ⟨l1, l2, l3, l4, l5, l6, l7, l8⟩ := h.lt
  obtain ⟨o1, o2⟩ := h.lo
  have oth : ∀ {j : Nat}, j < S → (wq.setCell ⟨go, i, none⟩ (.bool v)).heap[j]? = wq.heap[j]? := fun hj => heap_setCell_other _ _ _ _ (by simp; omega)
  have hsz : (wq.setCell ⟨go, i, none⟩ (.bool v)).heap.size = wq.heap.size := World.size_setCell _ _ _
  have k := h.kx
  have har := k.st.ar.keep (oth l2) (oth l3) (oth l4)
  refine ⟨⟨⟨har, k.st.bel.setCell (by show w.heap.size ≤ go; omega) _, k.st.hb, k.st.hg, k.st.hm⟩, ⟨har, (oth l1).trans k.kn.box, k.kn.kn.keep (oth l5), ownsRow_same k.kn.own (fun j e => oth (l8 j e)), k.kn.ne, k.kn.kh, k.kn.sh⟩, k.h1, k.h2, k.h3⟩, h.br.set v, h.row.keep (oth l6), (oth l7).trans h.box, ⟨by rw [hsz]; exact h.ag.lt, h.ag.n1, h.ag.n2, h.ag.n3⟩, ⟨by rw [hsz]; exact h.ap.lt, h.ap.n1, h.ap.n2, h.ap.n3⟩, ⟨by rw [hsz]; exact h.ao.lt, h.ao.n1, h.ao.n2, h.ao.n3⟩, h.lt, h.lo⟩
end

end Go.Proofs.YtemigefkkjgehaaDoor
