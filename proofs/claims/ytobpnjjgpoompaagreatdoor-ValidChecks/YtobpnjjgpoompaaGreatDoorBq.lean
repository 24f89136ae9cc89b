/- Layer 6: the walk of Named. -/
import Derived.Test.YtobpnjjgpoompaaGreatDoorBp
import Derived.Shelf.Strings.SlTrimAscii
namespace Go.Proofs.YtobpnjjgpoompaaGreatDoor
open Go.RowKit Go.Shelf

theorem Tryz.info116 : (Tryz.prog.info? (Tryz.lays161_ren.t 116)).map (fun i => (i.zero, i.size)) = some (some (.agg (Array.replicate 256 (.bool false))), 256) := by kernel_rfl
def upB : ByteArray := ⟨upperL.toArray⟩
theorem trimLeft_any (s : ByteArray) (w : World) : Calls Tryz.prog 37 #[.string s, .string upB] w fun e w' => e = .returned (.string ⟨(nmR s.data.toList).toArray⟩) ∧ Below w.heap.size w w' :=
  Any.strings_TrimLeft_laid Tryz.lays161 Tryz.info116 s upB w (by decide) (ascii_of_all (by decide))
theorem trimSuf_any (s p : ByteArray) (hs : s.size ≤ 65536) (w : World) : Calls Tryz.prog 38 #[.string s, .string p] w fun e w' => e = .returned (.string ⟨(Lib.trimSuffix s.data.toList p.data.toList).toArray⟩) ∧ w' = w :=
  Any.strings_TrimSuffix Tryz.lays102 s p w (by omega)

/-- While a name's modifiers are applied. -/
structure Nm (w : World) (rb pb : Nat) (r : ByteArray) (y : Sl) (p : Pt) (wr : World) : Prop where
  res : wr.heap[w.heap.size]? = some (.cells #[.string ⟨#[]⟩, .slice none 0 0, .slice none 0 0, .slice none 0 0] 26 (0, 0))
  rc : wr.heap[rb]? = some (restO r)
  px : wr.heap[pb]? = some (.cells #[.string ⟨p.nm.toArray⟩, .slice y.s0 p.p0.length y.c0, .slice y.s1 p.p1.length y.c1, .slice y.s2 p.ms.length y.c2] 26 (0, 0))
  pat : PatA wr y p
  bel : Below w.heap.size w wr
  l1 : w.heap.size < rb
  l2 : rb < pb
theorem Nm.set {w : World} {rb pb : Nat} {r : ByteArray} {y : Sl} {p : Pt} {wr : World} (h : Nm w rb pb r y p wr) (s : ByteArray) : Nm w rb pb s y p (wr.setCell ⟨rb, 0, none⟩ (.string s)) := by
  have h1 := h.l1
  have h2 := h.l2
  exact ⟨(Below.heap_setCell _ _ _ _ (by simp; omega)).trans h.res, rest_set h.rc, (Below.heap_setCell _ _ _ _ (by simp; omega)).trans h.px, h.pat.other (rest_noInt h.rc) (fun j hj => Below.heap_setCell _ _ _ _ (by simpa using hj)), h.bel.setCell (Nat.le_of_lt h1) _, h1, h2⟩
theorem set4_same {w : World} {b : Nat} {v0 v1 v2 v3 u0 u1 u2 u3 : Value} {t : TypeId} (h : w.heap[b]? = some (.cells #[v0, v1, v2, v3] t (0, 0))) : ((((w.setCell ⟨b, 0, none⟩ u0).setCell ⟨b, 1, none⟩ u1).setCell ⟨b, 2, none⟩ u2).setCell ⟨b, 3, none⟩ u3).heap[b]? = some (.cells #[u0, u1, u2, u3] t (0, 0)) := by
  have h0 : (w.setCell ⟨b, 0, none⟩ u0).heap[b]? = some (.cells #[u0, v1, v2, v3] t (0, 0)) := by
    simp only [World.setCell, Array.getElem?_modify, if_true, h]; rfl
  exact setCell_box43 (setCell_box42 (setCell_box41 h0))
theorem Nm.mod {w : World} {rb pb : Nat} {r : ByteArray} {y z : Sl} {p q : Pt} {wr w' : World} {t : ByteArray} (h : Nm w rb pb r y p wr) (hz : PatA w' z q) (hr : w'.heap[rb]? = some (restO t)) (hg : wr.grownBy w' (some rb)) :
    (w'.heap[pb]? = some (.cells #[.string ⟨p.nm.toArray⟩, .slice y.s0 p.p0.length y.c0, .slice y.s1 p.p1.length y.c1, .slice y.s2 p.ms.length y.c2] 26 (0, 0))) ∧ w'.heap[w.heap.size]? = some (.cells #[.string ⟨#[]⟩, .slice none 0 0, .slice none 0 0, .slice none 0 0] 26 (0, 0)) ∧ Below w.heap.size w w' ∧
    Nm w rb pb t z q ((((w'.setCell ⟨pb, 0, none⟩ (.string ⟨q.nm.toArray⟩)).setCell ⟨pb, 1, none⟩ (.slice z.s0 q.p0.length z.c0)).setCell ⟨pb, 2, none⟩ (.slice z.s1 q.p1.length z.c1)).setCell ⟨pb, 3, none⟩ (.slice z.s2 q.ms.length z.c2)) := by
  have h1 := h.l1
  have h2 := h.l2
  have hp := (hg.block pb (lt_of_heap h.px) (fun e => by cases e; omega)).trans h.px
  have hs := (hg.block w.heap.size (lt_of_heap h.res) (fun e => by cases e; omega)).trans h.res
  have ho := set4_only w' pb (.string ⟨q.nm.toArray⟩) (.slice z.s0 q.p0.length z.c0) (.slice z.s1 q.p1.length z.c1) (.slice z.s2 q.ms.length z.c2)
  have hb : Below w.heap.size w w' := ⟨hg.os.trans h.bel.os, hg.tape.trans h.bel.tape, hg.output.trans h.bel.output, Nat.le_trans h.bel.size hg.size, fun k hk => (hg.block k (Nat.lt_of_lt_of_le hk h.bel.size) (fun e => by cases e; omega)).trans (h.bel.block k hk)⟩
  exact ⟨hp, hs, hb, (ho _ (by omega)).trans hs, (ho _ (by omega)).trans hr, set4_same hp, hz.other (noInt_res hp) ho, set4_below hb (by omega) _ _ _ _, h1, h2⟩
theorem nm_new {w w1 w2 : World} {R : ByteArray} {y : Sl} {p : Pt} (h1 : Below (w.alloc (.cells #[.string ⟨#[]⟩, .slice none 0 0, .slice none 0 0, .slice none 0 0] 26)).heap.size (w.alloc (.cells #[.string ⟨#[]⟩, .slice none 0 0, .slice none 0 0, .slice none 0 0] 26)) w1)
    (h2 : Below (w1.alloc (.cells #[.string R] 9)).heap.size (w1.alloc (.cells #[.string R] 9)) w2) (hp : PatA w2 y p) :
    Nm w w1.heap.size w2.heap.size R y p (w2.alloc (.cells #[.string ⟨p.nm.toArray⟩, .slice y.s0 p.p0.length y.c0, .slice y.s1 p.p1.length y.c1, .slice y.s2 p.ms.length y.c2] 26)) := by
  have hb1 : Below w.heap.size w w1 := ((Below.refl _ _).alloc (Nat.le_refl _) _).trans (h1.mono (by simp))
  have hb2 : Below w1.heap.size w1 w2 := ((Below.refl _ _).alloc (Nat.le_refl _) _).trans (h2.mono (by simp))
  have s1 := h1.size
  have s2 := h2.size
  simp only [World.size_alloc] at s1 s2
  have r1 : w1.heap[w.heap.size]? = _ := (h1.block _ (by simp)).trans (heap_alloc_new w _)
  have hb3 : Below w2.heap.size w2 (w2.alloc (.cells #[.string ⟨p.nm.toArray⟩, .slice y.s0 p.p0.length y.c0, .slice y.s1 p.p1.length y.c1, .slice y.s2 p.ms.length y.c2] 26)) := (Below.refl _ _).alloc (Nat.le_refl _) _
  have hbb := hb1.trans (hb2.mono hb1.size)
  refine ⟨(hb3.block _ (by omega)).trans ((hb2.block _ (by omega)).trans r1), (hb3.block _ (by omega)).trans ((h2.block _ (by simp)).trans (heap_alloc_new w1 _)), heap_alloc_new w2 _, hp.keep hb3, hbb.trans (hb3.mono hbb.size), by omega, by omega⟩
theorem nm_res {w w1 w2 : World} {R : ByteArray} (h1 : Below (w.alloc (.cells #[.string ⟨#[]⟩, .slice none 0 0, .slice none 0 0, .slice none 0 0] 26)).heap.size (w.alloc (.cells #[.string ⟨#[]⟩, .slice none 0 0, .slice none 0 0, .slice none 0 0] 26)) w1)
    (h2 : Below (w1.alloc (.cells #[.string R] 9)).heap.size (w1.alloc (.cells #[.string R] 9)) w2) : w2.heap[w.heap.size]? = some (.cells #[.string ⟨#[]⟩, .slice none 0 0, .slice none 0 0, .slice none 0 0] 26 (0, 0)) := by
  have hb2 : Below w1.heap.size w1 w2 := ((Below.refl _ _).alloc (Nat.le_refl _) _).trans (h2.mono (by simp))
  have s1 := h1.size
  simp only [World.size_alloc] at s1
  have r1 : w1.heap[w.heap.size]? = _ := (h1.block _ (by simp)).trans (heap_alloc_new w _)
  exact (hb2.block _ (by omega)).trans r1
theorem nm_bel {w w1 w2 : World} {R : ByteArray} (h1 : Below (w.alloc (.cells #[.string ⟨#[]⟩, .slice none 0 0, .slice none 0 0, .slice none 0 0] 26)).heap.size (w.alloc (.cells #[.string ⟨#[]⟩, .slice none 0 0, .slice none 0 0, .slice none 0 0] 26)) w1)
    (h2 : Below (w1.alloc (.cells #[.string R] 9)).heap.size (w1.alloc (.cells #[.string R] 9)) w2) : Below w.heap.size w w2 := by
  have hb1 : Below w.heap.size w w1 := ((Below.refl _ _).alloc (Nat.le_refl _) _).trans (h1.mono (by simp))
  have hb2 : Below w1.heap.size w1 w2 := ((Below.refl _ _).alloc (Nat.le_refl _) _).trans (h2.mono (by simp))
  exact hb1.trans (hb2.mono hb1.size)
theorem nm_fin {w : World} {rb pb : Nat} {r : ByteArray} {y : Sl} {p : Pt} {wr : World} (h : Nm w rb pb r y p wr) (s : ByteArray) (u0 u1 u2 u3 : Value) :
    PatA (((((wr.setCell ⟨pb, 0, none⟩ (.string s)).setCell ⟨w.heap.size, 0, none⟩ u0).setCell ⟨w.heap.size, 1, none⟩ u1).setCell ⟨w.heap.size, 2, none⟩ u2).setCell ⟨w.heap.size, 3, none⟩ u3) y ⟨s.data.toList, p.p0, p.p1, p.ms⟩ ∧
    Below w.heap.size w (((((wr.setCell ⟨pb, 0, none⟩ (.string s)).setCell ⟨w.heap.size, 0, none⟩ u0).setCell ⟨w.heap.size, 1, none⟩ u1).setCell ⟨w.heap.size, 2, none⟩ u2).setCell ⟨w.heap.size, 3, none⟩ u3) := by
  have h1 := h.l1
  have h2 := h.l2
  have hA := h.pat.other (noInt_res h.px) (fun j hj => Below.heap_setCell wr ⟨pb, 0, none⟩ (.string s) j (by simpa using hj))
  have hr : (wr.setCell ⟨pb, 0, none⟩ (.string s)).heap[w.heap.size]? = _ := (Below.heap_setCell _ _ _ _ (by simp; omega)).trans h.res
  have hB := hA.other (noInt_res hr) (set4_only _ w.heap.size u0 u1 u2 u3)
  exact ⟨⟨hB.i0, hB.i1, hB.im, hB.cp⟩, set4_below (h.bel.setCell (show w.heap.size ≤ pb by omega) _) (Nat.le_refl _) _ _ _ _⟩
end Go.Proofs.YtobpnjjgpoompaaGreatDoor
