/- Layer 3: walks: New, Heard; what is known, as the laws meet it. -/
import Derived.Shelf.SlicesE.Clone
import Derived.Ground.SlgnProg
import Derived.Test.YtemigefkkjgehaaDoorYd
import Derived.Test.YtemigefkkjgehaaDoorQh
namespace Go.Proofs
open Go.Shelf
def Tryd.cloneI_ren : Go.Shelf.Ren := ⟨fun | 41 => 36 | n => n, fun | 22 => 23 | 23 => 3 | 4 => 4 | n => n, fun | n => n⟩
theorem Tryd.cloneI : Go.Proofs.SlLaysE0.n41 Tryd.prog Tryd.cloneI_ren := {
  mixed := by kernel_rfl
  f41 := ⟨Tryd.f36.name, by decide, Tryd.func36.trans (congrArg some (by kernel_rfl))⟩
  t4 := Tryd.underlying4
  a4 := Tryd.isAgg4
  z4 := Tryd.sizeOf4
  v4 := Tryd.zeroValue4
  t22 := Tryd.underlying23
  a22 := Tryd.isAgg23
  z22 := Tryd.sizeOf23
  v22 := Tryd.zeroValue23 }
end Go.Proofs
namespace Go.Proofs.YtemigefkkjgehaaDoor
open Go.RowKit Go.Maps Go.Shelf

noncomputable def intI : TypeInfo := (Tryd.prog.info? 3).get (by kernel_rfl)
theorem cloneI_some (g c : Nat) (xs : List Int) (w : World) (hm : xs.length ≤ 1000001) (hr : ∀ i, i < xs.length → w.cell? ⟨g, i, none⟩ = some (.int .i64 (xs.getD i 0))) :
    Calls Tryd.prog 36 #[.slice (some ⟨g, 0, none⟩) xs.length c] w fun e w' => ∃ v', e = .returned v' ∧ w'.ownsRow w.heap.size 3 1 v' xs.length (xs.map (Value.int .i64)) ∧ v' ≠ .slice none 0 0 ∧ Below w.heap.size w w' := by
  have h := AnyE.slices_Clone Tryd.cloneI intI (.int .i64 0) 1 8 (by kernel_rfl) (by kernel_rfl) (by kernel_rfl) (by kernel_rfl) rfl (by decide) Tryd.sizeOf3 g 0 xs.length c (xs.map (Value.int .i64)) w
    (by simp) (by unfold maxLen; omega) (by omega) (fun j u hu => by
      have hj : j < xs.length := by
        rcases Nat.lt_or_ge j xs.length with e | e
        · exact e
        · rw [List.getElem?_eq_none (by simpa using e)] at hu; cases hu
      rw [Nat.zero_add, hr j hj]
      rw [List.getElem?_map, List.getElem?_eq_getElem hj] at hu
      rw [List.getD_eq_getElem?_getD, List.getElem?_eq_getElem hj]
      exact hu) (fun u hu => by obtain ⟨x, _, rfl⟩ := List.mem_map.1 hu; rfl)
  exact h

/-- What is known since the world w, as a law meets it; with the reference's arena. -/
structure Kx (w wi : World) (bk b g bm cap lim : Nat) (L : List Nd) (mk : Nat) (hv : Value) (hs : List Int) (K : Int → Bool) : Prop where
  st : St w wi b g bm cap lim L
  kn : Kno wi bk b g bm cap lim L mk hv hs K
  h1 : w.heap.size ≤ bk
  h2 : w.heap.size ≤ mk
  h3 : ∀ k, hv.ownBlock = some k → w.heap.size ≤ k
/-- A row of the law's own that is none of these. -/
structure Apart (wi : World) (bk mk : Nat) (hv : Value) (g : Nat) : Prop where
  lt : g < wi.heap.size
  n1 : g ≠ bk
  n2 : g ≠ mk
  n3 : hv.ownBlock ≠ some g
section
variable {w wi w' : World} {bk b g bm cap lim : Nat} {L : List Nd} {mk : Nat} {hv hv' : Value} {hs : List Int} {K : Int → Bool}
theorem Kx.keep (h : Kx w wi bk b g bm cap lim L mk hv hs K) (hb : Below wi.heap.size wi w') : Kx w w' bk b g bm cap lim L mk hv hs K := ⟨h.st.keep hb, h.kn.keep hb, h.h1, h.h2, h.h3⟩
theorem Kx.can (h : Kx w wi bk b g bm cap lim L mk hv hs K) (hk : Kno w' bk b g bm cap lim L mk hv hs K) (hp : Kp wi w' mk) : Kx w w' bk b g bm cap lim L mk hv hs K :=
  ⟨⟨hk.ar, hp.bel h.st.bel h.st.bel.size h.h2, h.st.hb, h.st.hg, h.st.hm⟩, hk, h.h1, h.h2, h.h3⟩
theorem Kx.learn (h : Kx w wi bk b g bm cap lim L mk hv hs K) {hs' : List Int} {K' : Int → Bool} (hk : Kno w' bk b g bm cap lim L mk hv' hs' K') (hl : Kl wi w' bk mk hv hv') : Kx w w' bk b g bm cap lim L mk hv' hs' K' := by
  obtain ⟨e1, e2⟩ := hl.bel h.st.bel h.st.bel.size h.h2 h.h1 h.h3
  exact ⟨⟨hk.ar, e1, h.st.hb, h.st.hg, h.st.hm⟩, hk, h.h1, h.h2, e2⟩
theorem Apart.keep {g' : Nat} (h : Apart wi bk mk hv g') (hb : Below wi.heap.size wi w') : Apart w' bk mk hv g' ∧ w'.heap[g']? = wi.heap[g']? := ⟨⟨Nat.lt_of_lt_of_le h.lt hb.size, h.n1, h.n2, h.n3⟩, hb.block _ h.lt⟩
theorem Apart.can {g' : Nat} (h : Apart wi bk mk hv g') (hp : Kp wi w' mk) : Apart w' bk mk hv g' ∧ w'.heap[g']? = wi.heap[g']? := ⟨⟨Nat.lt_of_lt_of_le h.lt hp.size, h.n1, h.n2, h.n3⟩, hp.kept _ h.lt h.n2⟩
theorem Apart.learn {g' : Nat} (h : Apart wi bk mk hv g') (hl : Kl wi w' bk mk hv hv') : Apart w' bk mk hv' g' ∧ w'.heap[g']? = wi.heap[g']? := ⟨⟨Nat.lt_of_lt_of_le h.lt hl.size, h.n1, h.n2, fun e => by
  rcases hl.at_ _ e with e' | e'
  · exact h.n3 e'
  · have := h.lt; omega⟩, hl.kept _ h.lt h.n2 h.n1 h.n3⟩
end

set_option maxRecDepth 100000 in
set_option maxHeartbeats 1000000 in
theorem knew_any {w0 w : World} {b g bm cap lim : Nat} {L : List Nd} (h : St w0 w b g bm cap lim L) : Calls Tryd.prog 30 #[.pointer (some ⟨b, 0, none⟩)] w fun e w' => e = .returned (.pointer (some ⟨w.heap.size + 1, 0, none⟩)) ∧ Kx w0 w' (w.heap.size + 1) b g bm cap lim L w.heap.size (.slice none 0 0) [] (fun _ => false) ∧ Below w.heap.size w w' := by
  have hmm := @run_makeMap Tryd.prog
  have HH := Lib.hid h
  clear h
  go_enter Tryd.func30, Tryd.ntmps30
  go_wp2_with fail
  go_ret
  have hb : Below w.heap.size w ((w.alloc (.map #[] 0)).alloc (.cells #[.pointer (some ⟨b, 0, none⟩), .slice none 0 0, .map (some w.heap.size)] 76)) := ((Below.refl _ _).alloc (Nat.le_refl _) _).alloc (by simp) _
  have hs := HH.out.bel.size
  refine ⟨rfl, ⟨HH.out.keep hb, ⟨HH.out.ar.below hb, ?_, ?_, World.ownsRow_nil _ _ _ _, ?_, fun r hr => (by cases hr), fun r _ hr => (by cases hr)⟩, by omega, by omega, fun k hk => (by cases hk)⟩, hb⟩
  · have := heap_alloc_new (w.alloc (.map #[] 0)) (.cells #[.pointer (some ⟨b, 0, none⟩), .slice none 0 0, .map (some w.heap.size)] 76)
    rw [World.size_alloc] at this; exact this
  · rw [cnt_none]; exact (MapU.made w).keep (Below.heap_alloc _ _ _ (by simp))
  · have := HH.out.ar.mlt; omega

set_option maxRecDepth 100000 in
set_option maxHeartbeats 1000000 in
/-- What was heard, if anything was. -/
theorem heard_some {w : World} {bk b g bm cap lim : Nat} {L : List Nd} {mk : Nat} {hv : Value} {hs : List Int} {K : Int → Bool} (h : Kno w bk b g bm cap lim L mk hv hs K) (h0 : 0 < hs.length) (hm : hs.length ≤ 1000001) :
    Calls Tryd.prog 17 #[.pointer (some ⟨bk, 0, none⟩)] w fun e w' => ∃ g' c', e = .returned (.slice (some ⟨g', 0, none⟩) hs.length c') ∧ w'.ownsRow w.heap.size 3 1 (.slice (some ⟨g', 0, none⟩) hs.length c') hs.length (hs.map (Value.int .i64)) ∧ Below w.heap.size w w' := by
  have c1 := h.kw.c1
  obtain ⟨gh, ch, rfl⟩ : ∃ gh ch, hv = .slice (some ⟨gh, 0, none⟩) hs.length ch := by
    rcases h.own.2 with ⟨e, e0⟩ | ⟨g', cap', cur', e, _⟩
    · omega
    · exact ⟨_, _, e⟩
  have HC := Lib.hid (cloneI_some gh ch hs w hm (fun i hi => by
    rw [h.own.cellAt i (by omega), List.getElem?_map, List.getElem?_eq_getElem hi, List.getD_eq_getElem?_getD, List.getElem?_eq_getElem hi]; rfl))
  clear h
  go_enter Tryd.func17, Tryd.ntmps17
  go_wp2_with (go_at_call 36; refine HC.out.mono ?_; rintro e w1 ⟨v', rfl, hown, hne, hb1⟩)
  go_ret
  rcases hown.2 with ⟨e, _⟩ | ⟨g', cap', cur', rfl, _⟩
  · exact absurd e hne
  · exact ⟨g', cap', rfl, hown, hb1⟩
end Go.Proofs.YtemigefkkjgehaaDoor
