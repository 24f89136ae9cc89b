/- Layer 3: what is known, beside the reference's arena, as the laws' loops meet it. -/
import Derived.Test.YtemigefkkjgehaaDoorYf
namespace Go.Proofs.YtemigefkkjgehaaDoor
open Go.RowKit Go.Maps

structure Ky (w wi : World) (pb gr capr bk b g bm cap lim : Nat) (L : List Nd) (mk : Nat) (hv : Value) (hs : List Int) (K : Int → Bool) : Prop where
  kx : Kx w wi bk b g bm cap lim L mk hv hs K
  ap : Apart wi bk mk hv pb
  ag : Apart wi bk mk hv gr
  box : wi.heap[pb]? = some (.cells #[.int .i64 lim, .slice (some ⟨gr, 0, none⟩) L.length capr] 29 (0, 0))
  row : rowAt wi gr L
section
variable {w wi w' : World} {pb gr capr bk b g bm cap lim : Nat} {L : List Nd} {mk : Nat} {hv hv' : Value} {hs : List Int} {K : Int → Bool}
theorem Ky.keep (h : Ky w wi pb gr capr bk b g bm cap lim L mk hv hs K) (hb : Below wi.heap.size wi w') : Ky w w' pb gr capr bk b g bm cap lim L mk hv hs K :=
  ⟨h.kx.keep hb, (h.ap.keep hb).1, (h.ag.keep hb).1, (h.ap.keep hb).2.trans h.box, h.row.keep (h.ag.keep hb).2⟩
theorem Ky.can (h : Ky w wi pb gr capr bk b g bm cap lim L mk hv hs K) (hk : Kno w' bk b g bm cap lim L mk hv hs K) (hp : Kp wi w' mk) : Ky w w' pb gr capr bk b g bm cap lim L mk hv hs K :=
  ⟨h.kx.can hk hp, (h.ap.can hp).1, (h.ag.can hp).1, (h.ap.can hp).2.trans h.box, h.row.keep (h.ag.can hp).2⟩
theorem Ky.learn (h : Ky w wi pb gr capr bk b g bm cap lim L mk hv hs K) {hs' : List Int} {K' : Int → Bool} (hk : Kno w' bk b g bm cap lim L mk hv' hs' K') (hl : Kl wi w' bk mk hv hv') : Ky w w' pb gr capr bk b g bm cap lim L mk hv' hs' K' :=
  ⟨h.kx.learn hk hl, (h.ap.learn hl).1, (h.ag.learn hl).1, (h.ap.learn hl).2.trans h.box, h.row.keep (h.ag.learn hl).2⟩
theorem Ky.z0 (h : Ky w wi pb gr capr bk b g bm cap lim L mk hv hs K) : wi.cell? ⟨pb, 0, none⟩ = some (.int .i64 lim) := by rw [cell_of_row wi _ 0 _ _ _ h.box]; rfl
theorem Ky.z1 (h : Ky w wi pb gr capr bk b g bm cap lim L mk hv hs K) : wi.cell? ⟨pb, 1, none⟩ = some (.slice (some ⟨gr, 0, none⟩) L.length capr) := by rw [cell_of_row wi _ 1 _ _ _ h.box]; rfl
theorem Ky.wf (h : Ky w wi pb gr capr bk b g bm cap lim L mk hv hs K) : WF L := h.kx.kn.ar.wf
theorem Ky.len (h : Ky w wi pb gr capr bk b g bm cap lim L mk hv hs K) : L.length ≤ lim := h.kx.kn.ar.len
end
theorem ky_new {w w1 : World} {b g bm cap gr capr lim : Nat} {L : List Nd} (hP : Pair w w1 b g bm cap gr capr lim L) :
    Calls Tryd.prog 30 #[.pointer (some ⟨b, 0, none⟩)] (w1.alloc (.cells #[.int .i64 lim, .slice (some ⟨gr, 0, none⟩) L.length capr] 29)) fun e w2 => ∃ bk mk, e = .returned (.pointer (some ⟨bk, 0, none⟩)) ∧ Ky w w2 w1.heap.size gr capr bk b g bm cap lim L mk (.slice none 0 0) [] (fun _ => false) := by
  have hb : Below w1.heap.size w1 (w1.alloc (.cells #[.int .i64 lim, .slice (some ⟨gr, 0, none⟩) L.length capr] 29)) := (Below.refl _ _).alloc (Nat.le_refl _) _
  refine (knew_any (hP.below hb).st).mono ?_
  rintro e w2 ⟨rfl, hK, hb2⟩
  have hs2 := hb2.size
  have hlt := hP.lt
  rw [World.size_alloc] at hs2
  refine ⟨_, _, rfl, hK, ⟨by omega, ?_, ?_, fun e => by cases e⟩, ⟨by omega, ?_, ?_, fun e => by cases e⟩, (hb2.block _ (by simp)).trans (heap_alloc_new _ _), (hP.below hb).row.keep (hb2.block _ (by simp; omega))⟩ <;> rw [World.size_alloc] <;> omega
end Go.Proofs.YtemigefkkjgehaaDoor
