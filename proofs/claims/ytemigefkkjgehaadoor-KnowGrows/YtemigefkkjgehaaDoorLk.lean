/- Layer 3: two Know's side by side. -/
import Derived.Test.YtemigefkkjgehaaDoorLf
import Derived.Test.YtemigefkkjgehaaDoorYh
import Derived.Test.YtemigefkkjgehaaDoorVi
import Derived.Test.YtemigefkkjgehaaDoorEm
namespace Go.Proofs.YtemigefkkjgehaaDoor
open Go.RowKit Go.Maps

theorem BuiltAt.later {w w' : World} {v : Value} {ns : List Nd} (h : BuiltAt w v ns) (hb : Below w.heap.size w w') : BuiltAt w' v ns := fun x lim hl W hW => h x lim hl W (hb.trans (hW.mono hb.size))
/-- A Know stands as it was where only another one's map has changed. -/
theorem Kno.other {w w' : World} {bk b g bm cap lim : Nat} {L : List Nd} {mk m : Nat} {hv : Value} {hs : List Int} {K : Int → Bool} (h : Kno w bk b g bm cap lim L mk hv hs K) (hp : Kp w w' m) (n1 : bk ≠ m) (n2 : b ≠ m) (n3 : g ≠ m) (n4 : bm ≠ m) (n5 : mk ≠ m) (n6 : hv.ownBlock ≠ some m) : Kno w' bk b g bm cap lim L mk hv hs K :=
  ⟨h.ar.keep (hp.kept _ h.ar.blt n2) (hp.kept _ h.ar.glt n3) (hp.kept _ h.ar.mlt n4), (hp.kept _ (lt_of_heap h.box) n1).trans h.box, h.kn.keep (hp.kept _ h.kn.lt n5), ownsRow_same h.own (fun k hk => hp.kept k (h.own.lt k hk).2 (fun e => n6 (by rw [hk, e]))), h.ne, h.kh, h.sh⟩
/-- Two of them side by side, the second one newer. -/
structure Kd (w wv : World) (S : Nat) (bk b g bm cap : Nat) (mk : Nat) (hv : Value) (hs : List Int) (K : Int → Bool) (bk' b' g' bm' cap' : Nat) (mk' : Nat) (hv' : Value) (hs' : List Int) (K' : Int → Bool) (L : List Nd) : Prop where
  k1 : Kx w wv bk b g bm cap 100 L mk hv hs K
  k2 : Kno wv bk' b' g' bm' cap' 100 L mk' hv' hs' K'
  le : w.heap.size ≤ S
  o1 : bk < S ∧ b < S ∧ g < S ∧ bm < S ∧ mk < S ∧ ∀ k, hv.ownBlock = some k → k < S
  o2 : S ≤ bk' ∧ S ≤ b' ∧ S ≤ g' ∧ S ≤ bm' ∧ S ≤ mk' ∧ ∀ k, hv'.ownBlock = some k → S ≤ k
section
variable {w wv w' : World} {S bk b g bm cap mk : Nat} {hv : Value} {hs : List Int} {K : Int → Bool} {bk' b' g' bm' cap' mk' : Nat} {hv' : Value} {hs' : List Int} {K' : Int → Bool} {L : List Nd}
theorem Kd.keep (h : Kd w wv S bk b g bm cap mk hv hs K bk' b' g' bm' cap' mk' hv' hs' K' L) (hb : Below wv.heap.size wv w') : Kd w w' S bk b g bm cap mk hv hs K bk' b' g' bm' cap' mk' hv' hs' K' L := ⟨h.k1.keep hb, h.k2.keep hb, h.le, h.o1, h.o2⟩
theorem Kd.can1 (h : Kd w wv S bk b g bm cap mk hv hs K bk' b' g' bm' cap' mk' hv' hs' K' L) (hk : Kno w' bk b g bm cap 100 L mk hv hs K) (hp : Kp wv w' mk) : Kd w w' S bk b g bm cap mk hv hs K bk' b' g' bm' cap' mk' hv' hs' K' L := by
  obtain ⟨a1, a2, a3, a4, a5, a6⟩ := h.o1
  obtain ⟨c1, c2, c3, c4, c5, c6⟩ := h.o2
  exact ⟨h.k1.can hk hp, h.k2.other hp (by omega) (by omega) (by omega) (by omega) (by omega) (fun e => by have := c6 _ e; omega), h.le, h.o1, h.o2⟩
theorem Kd.can2 (h : Kd w wv S bk b g bm cap mk hv hs K bk' b' g' bm' cap' mk' hv' hs' K' L) (hk : Kno w' bk' b' g' bm' cap' 100 L mk' hv' hs' K') (hp : Kp wv w' mk') : Kd w w' S bk b g bm cap mk hv hs K bk' b' g' bm' cap' mk' hv' hs' K' L := by
  obtain ⟨a1, a2, a3, a4, a5, a6⟩ := h.o1
  obtain ⟨c1, c2, c3, c4, c5, c6⟩ := h.o2
  have hl := h.le
  have hn := h.k1.kn.other hp (by omega) (by omega) (by omega) (by omega) (by omega) (fun e => by have := a6 _ e; omega)
  exact ⟨⟨⟨hn.ar, hp.bel h.k1.st.bel h.k1.st.bel.size (by omega), h.k1.st.hb, h.k1.st.hg, h.k1.st.hm⟩, hn, h.k1.h1, h.k1.h2, h.k1.h3⟩, hk, h.le, h.o1, h.o2⟩
end
theorem Kx.low {w wv w' : World} {S bk b g bm cap lim mk : Nat} {hv : Value} {hs : List Int} {K : Int → Bool} {L : List Nd} (h : Kx w wv bk b g bm cap lim L mk hv hs K) (o : bk < S ∧ b < S ∧ g < S ∧ bm < S ∧ mk < S ∧ ∀ k, hv.ownBlock = some k → k < S) (hS : w.heap.size ≤ S) (hb : Below S wv w') : Kx w w' bk b g bm cap lim L mk hv hs K := by
  obtain ⟨o1, o2, o3, o4, o5, o6⟩ := o
  have hA := h.kn.ar.keep (hb.block b o2) (hb.block g o3) (hb.block bm o4)
  exact ⟨⟨hA, h.st.bel.trans (hb.mono hS), h.st.hb, h.st.hg, h.st.hm⟩, ⟨hA, (hb.block bk o1).trans h.kn.box, h.kn.kn.keep (hb.block mk o5), ownsRow_same h.kn.own (fun k hk => hb.block k (o6 k hk)), h.kn.ne, h.kn.kh, h.kn.sh⟩, h.h1, h.h2, h.h3⟩
theorem Kd.learn2 {w wv w' : World} {S bk b g bm cap mk : Nat} {hv : Value} {hs : List Int} {K : Int → Bool} {bk' b' g' bm' cap' mk' : Nat} {hv' : Value} {hs' : List Int} {K' : Int → Bool} {L : List Nd} {hv2 : Value} {hs2 : List Int} {K2 : Int → Bool}
    (h : Kd w wv S bk b g bm cap mk hv hs K bk' b' g' bm' cap' mk' hv' hs' K' L) (hk : Kno w' bk' b' g' bm' cap' 100 L mk' hv2 hs2 K2) (hl : Kl wv w' bk' mk' hv' hv2) (hS : S ≤ wv.heap.size) : Kd w w' S bk b g bm cap mk hv hs K bk' b' g' bm' cap' mk' hv2 hs2 K2 L := by
  obtain ⟨c1, c2, c3, c4, c5, c6⟩ := h.o2
  obtain ⟨e1, e2⟩ := hl.bel (Below.refl S wv) hS c5 c1 c6
  exact ⟨h.k1.low h.o1 h.le e1, hk, h.le, h.o1, ⟨c1, c2, c3, c4, c5, e2⟩⟩
end Go.Proofs.YtemigefkkjgehaaDoor
