/- Walks: an arena and the reference's, behind nodes that are made one by one (Built). The walk of TermGrows: each term is made of terms ahead of it; Empty is the first one. -/
import Derived.Test.YtgjhhipkfglpgaaDoorQg
namespace Go.Proofs.YtgjhhipkfglpgaaDoor
open Go.RowKit Go.Maps

/-- The nodes of a list, laid in memory from an offset on. -/
def srcAt (w : World) (sb so : Nat) (ns : List Nd) : Prop := ∀ i, i < ns.length →
  w.cell? ⟨sb, so + i * 5, none⟩ = some (.int .i64 (ns.getD i zN).k) ∧ w.cell? ⟨sb, so + i * 5 + 1, none⟩ = some (.int .u64 (ns.getD i zN).n) ∧ w.cell? ⟨sb, so + i * 5 + 2, none⟩ = some (.int .i64 (ns.getD i zN).a) ∧ w.cell? ⟨sb, so + i * 5 + 3, none⟩ = some (.int .i64 (ns.getD i zN).b) ∧ w.cell? ⟨sb, so + i * 5 + 4, none⟩ = some (.int .i64 (ns.getD i zN).c)

/-- The terms behind a list of nodes. -/
def bld (lim : Nat) (ns : List Nd) : List Nd := ns.foldl (mkL lim) [zN]
theorem bld_nil (lim : Nat) : bld lim [] = [zN] := rfl
theorem bld_succ {lim : Nat} {ns : List Nd} {k : Nat} (h : k < ns.length) : bld lim (ns.take (k + 1)) = mkL lim (bld lim (ns.take k)) (ns.getD k zN) := by
  unfold bld
  rw [List.take_succ_eq_append_getElem h, List.foldl_append]
  simp [List.getElem?_eq_getElem h]

structure Pair (w wr : World) (b g bm cap gr capr lim : Nat) (L : List Nd) : Prop where
  st : St w wr b g bm cap lim L
  row : rowAt wr gr L
  lt : gr < wr.heap.size
  ge : w.heap.size ≤ gr
  nb : gr ≠ b
  ng : gr ≠ g
  nm : gr ≠ bm

def BuiltPost (lim : Nat) (ns : List Nd) (w : World) (e : Ending) (w' : World) : Prop :=
  ∃ b g bm cap gr capr, e = .returned (.tuple #[.pointer (some ⟨b, 0, none⟩), .agg #[.int .i64 lim, .slice (some ⟨gr, 0, none⟩) (bld lim ns).length capr], .bool true]) ∧ Pair w w' b g bm cap gr capr lim (bld lim ns)

def Lp (p5 p8 b bm lim : Nat) (L : List Nd) (w wr : World) : Prop :=
  ∃ g cap gr capr, Pair w wr b g bm cap gr capr lim L ∧ wr.heap[p8]? = some (.cells #[.int .i64 lim, .slice (some ⟨gr, 0, none⟩) L.length capr] 28 (0, 0)) ∧ wr.heap[p5]? = some (.cells #[.int .i64 0, .slice none 0 0] 28 (0, 0)) ∧
    (p8 ≠ b ∧ p8 ≠ g ∧ p8 ≠ bm ∧ p8 ≠ gr) ∧ (p5 ≠ b ∧ p5 ≠ g ∧ p5 ≠ bm ∧ p5 ≠ gr) ∧ p5 ≠ p8 ∧ w.heap.size ≤ p5 ∧ w.heap.size ≤ p8

theorem set2_box {w : World} {p : Nat} {u v a0 a1 : Value} {t : TypeId} (h : w.heap[p]? = some (.cells #[a0, a1] t (0, 0))) : ((w.setCell ⟨p, 0, none⟩ u).setCell ⟨p, 1, none⟩ v).heap[p]? = some (.cells #[u, v] t (0, 0)) := by
  simp only [World.setCell, Array.getElem?_modify, if_true, h]
  rfl

theorem Pair.below {w wr w' : World} {b g bm cap gr capr lim : Nat} {L : List Nd} (h : Pair w wr b g bm cap gr capr lim L) (hb : Below wr.heap.size wr w') : Pair w w' b g bm cap gr capr lim L :=
  ⟨h.st.keep hb, h.row.keep (hb.block gr h.lt), Nat.lt_of_lt_of_le h.lt hb.size, h.ge, h.nb, h.ng, h.nm⟩
/-- A store into a box that is none of theirs. -/
theorem Pair.set2 {w wr : World} {b g bm cap gr capr lim : Nat} {L : List Nd} (h : Pair w wr b g bm cap gr capr lim L) {p : Nat} (hp : w.heap.size ≤ p) (h1 : p ≠ b) (h2 : p ≠ g) (h3 : p ≠ bm) (h4 : p ≠ gr) (u v : Value) : Pair w ((wr.setCell ⟨p, 0, none⟩ u).setCell ⟨p, 1, none⟩ v) b g bm cap gr capr lim L :=
  ⟨⟨h.st.ar.keep (set2_block _ _ _ _ _ (Ne.symm h1)) (set2_block _ _ _ _ _ (Ne.symm h2)) (set2_block _ _ _ _ _ (Ne.symm h3)), set2_below h.st.bel hp _ _, h.st.hb, h.st.hg, h.st.hm⟩,
    h.row.keep (set2_block _ _ _ _ _ (Ne.symm h4)), by rw [set2_size]; exact h.lt, h.ge, h.nb, h.ng, h.nm⟩

/-- One round: the arena's Mk, the reference's, the new value laid in its box. -/
theorem Lp.round {p5 p8 b bm lim : Nat} {L : List Nd} {d : Nd} {w wr w1 w2 w3 : World} {g cap gr capr g' cap' gr' capr' : Nat} {u v : Value} (hP : Pair w wr b g bm cap gr capr lim L) (h8 : wr.heap[p8]? = some (.cells #[.int .i64 lim, .slice (some ⟨gr, 0, none⟩) L.length capr] 28 (0, 0)))
    (h5 : wr.heap[p5]? = some (.cells #[.int .i64 0, .slice none 0 0] 28 (0, 0))) (n8 : p8 ≠ b ∧ p8 ≠ g ∧ p8 ≠ bm ∧ p8 ≠ gr) (n5 : p5 ≠ b ∧ p5 ≠ g ∧ p5 ≠ bm ∧ p5 ≠ gr) (n58 : p5 ≠ p8) (hw5 : w.heap.size ≤ p5) (hw8 : w.heap.size ≤ p8)
    (hb1 : Below wr.heap.size wr w1) (hA : Ar w2 b g' bm cap' lim (mkL lim L d)) (hg' : g' = g ∨ w1.heap.size ≤ g') (hk : Kept w1 w2 b g bm) (hb3 : Below w2.heap.size w2 w3) (hrow : rowAt w3 gr' (mkL lim L d)) (hlt : gr' < w3.heap.size) (hgr' : gr' = gr ∨ w2.heap.size ≤ gr')
    (hu : u = .int .i64 lim) (hv : v = .slice (some ⟨gr', 0, none⟩) (mkL lim L d).length capr') : Lp p5 p8 b bm lim (mkL lim L d) w ((w3.setCell ⟨p8, 0, none⟩ u).setCell ⟨p8, 1, none⟩ v) := by
  subst hu; subst hv
  have s1 := hb1.size
  have s2 := hk.size
  have s3 := hb3.size
  have l8 := lt_of_heap h8
  have l5 := lt_of_heap h5
  have lb := hP.st.ar.blt
  have lg := hP.st.ar.glt
  have lm := hP.st.ar.mlt
  have lr := hP.lt
  have hS := (hP.st.keep hb1).step hA hg' hk
  have hS3 := hS.keep hb3
  have lb' := hS.ar.blt
  have lg' := hS.ar.glt
  have lm' := hS.ar.mlt
  have blk : ∀ k, k < wr.heap.size → k ≠ b → k ≠ g → k ≠ bm → w3.heap[k]? = wr.heap[k]? := fun k hk1 n1 n2 n3 =>
    (hb3.block k (by omega)).trans ((hk.block k (by omega) n1 n2 n3).trans (hb1.block k hk1))
  have q8 : p8 ≠ g' ∧ p5 ≠ g' := by
    rcases hg' with e | e
    · rw [e]; exact ⟨n8.2.1, n5.2.1⟩
    · omega
  have qr : gr' ≠ b ∧ gr' ≠ g' ∧ gr' ≠ bm ∧ p8 ≠ gr' ∧ p5 ≠ gr' ∧ w.heap.size ≤ gr' := by
    rcases hgr' with e | e
    · refine ⟨e ▸ hP.nb, ?_, e ▸ hP.nm, e ▸ n8.2.2.2, e ▸ n5.2.2.2, e ▸ hP.ge⟩
      rcases hg' with e' | e'
      · rw [e, e']; exact hP.ng
      · omega
    · have := hP.ge
      have := hP.st.bel.size
      omega
  have P3 : Pair w w3 b g' bm cap' gr' capr' lim (mkL lim L d) := ⟨hS3, hrow, hlt, qr.2.2.2.2.2, qr.1, qr.2.1, qr.2.2.1⟩
  refine ⟨g', cap', gr', capr', P3.set2 hw8 n8.1 q8.1 n8.2.2.1 qr.2.2.2.1 _ _, set2_box ((blk p8 l8 n8.1 n8.2.1 n8.2.2.1).trans h8), ?_, ⟨n8.1, q8.1, n8.2.2.1, qr.2.2.2.1⟩, ⟨n5.1, q8.2, n5.2.2.1, qr.2.2.2.2.1⟩, n58, hw5, hw8⟩
  rw [set2_block _ _ _ _ _ n58]
  exact (blk p5 l5 n5.1 n5.2.1 n5.2.2.1).trans h5

theorem Lp.start {lim : Nat} {x : Int} {w w1 w2 : World} {b g bm gr : Nat} (hl : limZ x = lim) (hA : Ar w1 b g bm 1 (limZ x) [zN]) (h1 : w.heap.size + 1 ≤ b) (h2 : w.heap.size + 1 ≤ g) (h3 : w.heap.size + 1 ≤ bm) (hb1 : Below (w.alloc (.cells #[.int .i64 0, .slice none 0 0] 28)).heap.size (w.alloc (.cells #[.int .i64 0, .slice none 0 0] 28)) w1)
    (hR : Rf w1 w2 gr [zN]) (hb2 : Below w1.heap.size w1 w2) : Lp w.heap.size w2.heap.size b bm lim [zN] w (w2.alloc (.cells #[.int .i64 lim, .slice (some ⟨gr, 0, none⟩) 1 1] 28)) := by
  subst hl
  have s1 := hb1.size
  have s2 := hb2.size
  simp only [World.size_alloc] at s1
  have hB0 : Below w.heap.size w w1 := ((Below.refl _ _).alloc (Nat.le_refl _) _).trans (hb1.mono (by simp))
  have S1 : St w w1 b g bm 1 (limZ x) [zN] := ⟨hA, hB0, by omega, by omega, by omega⟩
  have S2 := S1.keep hb2
  have lb := S1.ar.blt
  have lg := S1.ar.glt
  have lm := S1.ar.mlt
  have P2 : Pair w w2 b g bm 1 gr 1 (limZ x) [zN] := ⟨S2, hR.row, hR.lt, by have := hR.ge; omega, by have := hR.ge; omega, by have := hR.ge; omega, by have := hR.ge; omega⟩
  have hge := hR.ge
  have hrl := hR.lt
  refine ⟨g, 1, gr, 1, P2.below ((Below.refl _ _).alloc (Nat.le_refl _) _), heap_alloc_new w2 _, ?_, by omega, by omega, by omega, Nat.le_refl _, by omega⟩
  rw [Below.heap_alloc _ _ _ (by omega), hb2.block _ (by omega), hb1.block _ (by simp)]
  exact heap_alloc_new w _

def Mid8 (lim gr _p8 : Nat) (L : List Nd) (d : Nd) (s13 s14 s15 : Value) (w2 wx : World) : Prop :=
  ∃ p13 gr' capr', s13 = .pointer (some ⟨p13, 0, none⟩) ∧ s14 = .int .i64 (mkR lim L d) ∧ s15 = .int .i64 (mkE lim L d) ∧ wx.cell? ⟨p13, 0, none⟩ = some (.int .i64 lim) ∧ wx.cell? ⟨p13, 1, none⟩ = some (.slice (some ⟨gr', 0, none⟩) (mkL lim L d).length capr') ∧
    Below w2.heap.size w2 wx ∧ rowAt wx gr' (mkL lim L d) ∧ gr' < wx.heap.size ∧ (gr' = gr ∨ w2.heap.size ≤ gr')
theorem mid8_alloc {lim gr p8 gr' capr' : Nat} {L : List Nd} {d : Nd} {w2 W w3 : World} (hrow : rowAt w3 gr' (mkL lim L d)) (hlt : gr' < w3.heap.size) (hbx : Below w2.heap.size w2 w3) (hW : w2.heap.size ≤ W.heap.size) (hgr : gr' = gr ∨ W.heap.size ≤ gr') :
    Mid8 lim gr p8 L d (.pointer (some ⟨w3.heap.size, 0, none⟩)) (.int .i64 (mkR lim L d)) (.int .i64 (mkE lim L d)) w2 (w3.alloc (.cells #[.int .i64 lim, .slice (some ⟨gr', 0, none⟩) (mkL lim L d).length capr'] 28)) :=
  ⟨w3.heap.size, gr', capr', rfl, rfl, rfl, by rw [cell_of_row _ _ 0 _ _ _ (heap_alloc_new w3 _)]; rfl, by rw [cell_of_row _ _ 1 _ _ _ (heap_alloc_new w3 _)]; rfl, hbx.alloc hbx.size _, hrow.keep (Below.heap_alloc _ _ _ hlt), by simp; omega, by omega⟩
theorem mid8_set {lim gr p8 gr' capr' p : Nat} {L : List Nd} {d : Nd} {w2 W w3 : World} {v0 : Value} (hp : w2.heap.size ≤ p) (hL : 0 < L.length) (h0 : w3.cell? ⟨p, 0, none⟩ = some v0) (h1 : w3.cell? ⟨p, 1, none⟩ = some (.slice none 0 0)) (hrow : rowAt w3 gr' (mkL lim L d)) (hlt : gr' < w3.heap.size) (hbx : Below w2.heap.size w2 w3) (hW : w2.heap.size ≤ W.heap.size) (hgr : gr' = gr ∨ W.heap.size ≤ gr') :
    Mid8 lim gr p8 L d (.pointer (some ⟨p, 0, none⟩)) (.int .i64 (mkR lim L d)) (.int .i64 (mkE lim L d)) w2 ((w3.setCell ⟨p, 0, none⟩ (.int .i64 lim)).setCell ⟨p, 1, none⟩ (.slice (some ⟨gr', 0, none⟩) (mkL lim L d).length capr')) := by
  have hne := row_ne hrow (mkL_pos hL) h1
  refine ⟨p, gr', capr', rfl, rfl, rfl, ?_, ?_, set2_below hbx hp _ _, hrow.keep (set2_block _ _ _ _ _ hne), by rw [set2_size]; exact hlt, by omega⟩
  · go_simp
  · go_simp

set_option maxRecDepth 100000 in
set_option maxHeartbeats 8000000 in
theorem built_empty (x : Int) (lim : Nat) (hlim : limZ x = lim) (s : Option Addr) (c : Nat) (w : World) (hs : Shp w) :
    Calls Tryd.prog 8 #[.int .i64 x, .slice s 0 c] w (BuiltPost lim [] w) := by
  have HS := Lib.hid hs; clear hs
  have HLIM := Lib.hid hlim; clear hlim
  go_enter Tryd.func8, Tryd.ntmps8
  go_wp2_with fail
  refine (new_any x _).mono ?_
  rintro e w1 ⟨b, g, bm, rfl, hA, h1, h2, h3, hb1⟩
  rw [World.size_alloc] at h1 h2 h3
  go_wp2_with fail
  refine (refNew_any x _).mono ?_
  rintro e w2 ⟨gr, rfl, hR, hb2⟩
  have HLP := Lib.hid (Lp.start HLIM.out hA h1 h2 h3 hb1 hR hb2)
  rw [HLIM.out]
  clear hA h1 h2 h3 hb1 hR hb2
  go_wp2_with fail
  generalize hw2 : w2.heap.size = p8 at *
  clear hw2
  go_loopg [10, 11, 12, 13, 14, 15, 30] 0 (fun r _ _ _ _ _ _ u30 wr => ∃ k : Nat, k + r = 0 ∧ u30 = .int .i64 k ∧ Lp w.heap.size p8 b bm lim (bld lim ([].take k)) w wr)
  case atStart => exact ⟨0, by omega, rfl, HLP.out⟩
  case round =>
    obtain ⟨k, hkr, rfl, hlp⟩ := hrel
    have HL := Lib.hid hlp; clear hlp HLP
    · obtain rfl : k = 0 := by omega
      have hlp := HL.out
      rw [List.take_nil] at hlp
      obtain ⟨g, cap, gr, capr, hP, h8, h5, n8, n5, n58, hw5, hw8⟩ := hlp
      have z0 : wr.cell? ⟨p8, 0, none⟩ = some (.int .i64 lim) := by rw [cell_of_row wr _ 0 _ _ _ h8]; rfl
      have z1 : wr.cell? ⟨p8, 1, none⟩ = some (.slice (some ⟨gr, 0, none⟩) (bld lim []).length capr) := by rw [cell_of_row wr _ 1 _ _ _ h8]; rfl
      have y0 : wr.cell? ⟨w.heap.size, 0, none⟩ = some (.int .i64 0) := by rw [cell_of_row wr _ 0 _ _ _ h5]; rfl
      have y1 : wr.cell? ⟨w.heap.size, 1, none⟩ = some (.slice none 0 0) := by rw [cell_of_row wr _ 1 _ _ _ h5]; rfl
      have x0 : wr.frozen? ⟨w.heap.size, 0, none⟩ = false := frozen_of_row _ _ _ _ _ h5
      have x1 : wr.frozen? ⟨w.heap.size, 1, none⟩ = false := frozen_of_row _ _ _ _ _ h5
      have HE : Hid (∀ u v, BuiltPost lim [] w (.returned (.tuple #[.pointer (some ⟨b, 0, none⟩), .agg #[.int .i64 lim, .slice (some ⟨gr, 0, none⟩) (bld lim []).length capr], .bool true])) ((wr.setCell ⟨w.heap.size, 0, none⟩ u).setCell ⟨w.heap.size, 1, none⟩ v).drew) :=
        Lib.hid (fun u v => ⟨b, g, bm, cap, gr, capr, rfl, (hP.set2 (Nat.le_refl _) n5.1 n5.2.1 n5.2.2.1 n5.2.2.2 u v).below (Below.refl _ _).drew⟩)
      clear hP h8 h5 n8 n5 n58 hw5 hw8
      go_wp2_with fail
      go_region
      go_wp2_with fail
      exact bodyPost_ret (v := .tuple #[.pointer (some ⟨b, 0, none⟩), .agg #[.int .i64 lim, .slice (some ⟨gr, 0, none⟩) (bld lim []).length capr], .bool true]) (by simp [results, Tryd.results8, go_sem, y0, y1]) rfl (HE.out _ _)

set_option maxRecDepth 100000 in
set_option maxHeartbeats 8000000 in
theorem built_some (x : Int) (lim : Nat) (hlim : limZ x = lim) (sb so c : Nat) (ns : List Nd) (hn : ns.length ≤ 40) (hok : ∀ i, i < ns.length → (ns.getD i zN).ok) (w : World) (hs : Shp w) (hsb : sb < w.heap.size) (hsrc : srcAt w sb so ns) :
    Calls Tryd.prog 8 #[.int .i64 x, .slice (some ⟨sb, so, none⟩) ns.length c] w (BuiltPost lim ns w) := by
  have HS := Lib.hid hs; clear hs
  have HLIM := Lib.hid hlim; clear hlim
  have HOK := Lib.hid hok; clear hok
  have HSRC := Lib.hid hsrc; clear hsrc
  go_enter Tryd.func8, Tryd.ntmps8
  go_wp2_with fail
  refine (new_any x _).mono ?_
  rintro e w1 ⟨b, g, bm, rfl, hA, h1, h2, h3, hb1⟩
  rw [World.size_alloc] at h1 h2 h3
  go_wp2_with fail
  refine (refNew_any x _).mono ?_
  rintro e w2 ⟨gr, rfl, hR, hb2⟩
  have HLP := Lib.hid (Lp.start HLIM.out hA h1 h2 h3 hb1 hR hb2)
  rw [HLIM.out]
  clear hA h1 h2 h3 hb1 hR hb2
  have hn1 : ¬ (40 : Int) < (ns.length : Int) := by omega
  have hn2 : decide ((40 : Int) < (ns.length : Int)) = false := by simpa using hn1
  clear hn1
  go_wp2_with fail
  generalize hw2 : w2.heap.size = p8 at *
  clear hw2
  go_loopg [10, 11, 12, 13, 14, 15, 30] ns.length (fun r _ _ _ _ _ _ u30 wr => ∃ k : Nat, k + r = ns.length ∧ u30 = .int .i64 k ∧ Lp w.heap.size p8 b bm lim (bld lim (ns.take k)) w wr)
  case atStart => exact ⟨0, by omega, rfl, HLP.out⟩
  case round =>
    obtain ⟨k, hkr, rfl, hlp⟩ := hrel
    have HL := Lib.hid hlp; clear hlp HLP
    by_cases hlt : k < ns.length
    · have hlp := HL.out
      obtain ⟨L, hL⟩ : ∃ L, L = bld lim (ns.take k) := ⟨_, rfl⟩
      rw [← hL] at hlp
      obtain ⟨g, cap, gr, capr, hP, h8, h5, n8, n5, n58, hw5, hw8⟩ := hlp
      have HBN : Hid (bld lim (ns.take (k + 1)) = mkL lim L (ns.getD k zN)) := Lib.hid (by rw [bld_succ hlt, ← hL])
      clear hL HL
      have hsc := HSRC.out k hlt
      have hdok := HOK.out k hlt
      have e5 : ∀ o, wr.cell? ⟨sb, o, none⟩ = w.cell? ⟨sb, o, none⟩ := fun o => hP.st.bel.cell (p := ⟨sb, o, none⟩) hsb
      rw [← e5, ← e5, ← e5, ← e5, ← e5] at hsc
      clear e5
      obtain ⟨d, hd⟩ : ∃ d, d = ns.getD k zN := ⟨_, rfl⟩
      rw [← hd] at hsc hdok HBN
      clear hd
      obtain ⟨k1, n1, a1, b1, e1⟩ := d
      obtain ⟨s0, s1, s2, s3, s4⟩ := hsc
      simp only at s0 s1 s2 s3 s4
      have hsr : sb < wr.heap.size := Nat.lt_of_lt_of_le hsb hP.st.bel.size
      have HP := Lib.hid hP; clear hP
      have HDOK := Lib.hid hdok; clear hdok
      have H8 := Lib.hid h8; clear h8
      have H5 := Lib.hid h5; clear h5
      have HN8 := Lib.hid n8; clear n8
      have HN5 := Lib.hid n5; clear n5
      have HB1 := Lib.hid (fun o => (Below.refl wr.heap.size wr).alloc (Nat.le_refl _) o)
      have HMK := Lib.hid (fun o => mk_any b g bm cap lim L k1 n1 a1 b1 e1 (wr.alloc o) (HP.out.st.keep (HB1.out o)).ar ((HP.out.st.keep (HB1.out o)).shp HS.out) HDOK.out)
      go_wp2_with fail
      refine (HMK.out _).mono ?_
      rintro e w2 ⟨g', cap', rfl, hA, hg', hk⟩
      have hks := hk.size
      rw [World.size_alloc] at hks
      have hl8 := lt_of_heap H8.out
      have hq8 : w2.heap[p8]? = some (.cells #[.int .i64 lim, .slice (some ⟨gr, 0, none⟩) L.length capr] 28 (0, 0)) := (hk.block p8 (by simp; omega) HN8.out.1 HN8.out.2.1 HN8.out.2.2.1).trans ((Below.heap_alloc _ _ _ hl8).trans H8.out)
      have hlb := HP.out.st.ar.blt
      have hlg := HP.out.st.ar.glt
      have hlm := HP.out.st.ar.mlt
      have hlr := HP.out.lt
      have hqn : w2.heap[wr.heap.size]? = some (.cells #[.int .i64 k1, .int .u64 n1, .int .i64 a1, .int .i64 b1, .int .i64 e1] 53 (0, 0)) := (hk.block _ (by simp) (by omega) (by omega) (by omega)).trans (heap_alloc_new wr _)
      have z0 : w2.cell? ⟨p8, 0, none⟩ = some (.int .i64 lim) := by rw [cell_of_row w2 _ 0 _ _ _ hq8]; rfl
      have z1 : w2.cell? ⟨p8, 1, none⟩ = some (.slice (some ⟨gr, 0, none⟩) L.length capr) := by rw [cell_of_row w2 _ 1 _ _ _ hq8]; rfl
      have f0 : w2.frozen? ⟨p8, 0, none⟩ = false := frozen_of_row _ _ _ _ _ hq8
      have f1 : w2.frozen? ⟨p8, 1, none⟩ = false := frozen_of_row _ _ _ _ _ hq8
      have m0 : w2.cell? ⟨wr.heap.size, 0, none⟩ = some (.int .i64 k1) := by rw [cell_of_row w2 _ 0 _ _ _ hqn]; rfl
      have m1 : w2.cell? ⟨wr.heap.size, 1, none⟩ = some (.int .u64 n1) := by rw [cell_of_row w2 _ 1 _ _ _ hqn]; rfl
      have m2 : w2.cell? ⟨wr.heap.size, 2, none⟩ = some (.int .i64 a1) := by rw [cell_of_row w2 _ 2 _ _ _ hqn]; rfl
      have m3 : w2.cell? ⟨wr.heap.size, 3, none⟩ = some (.int .i64 b1) := by rw [cell_of_row w2 _ 3 _ _ _ hqn]; rfl
      have m4 : w2.cell? ⟨wr.heap.size, 4, none⟩ = some (.int .i64 e1) := by rw [cell_of_row w2 _ 4 _ _ _ hqn]; rfl
      have l8 : p8 < w2.heap.size := by omega
      have l8' : p8 < w2.heap.size + 1 := by omega
      have ln : wr.heap.size < w2.heap.size := by omega
      have ln' : wr.heap.size < w2.heap.size + 1 := by omega
      have l8'' : p8 < w2.heap.size + 1 + 1 := by omega
      have ln'' : wr.heap.size < w2.heap.size + 1 + 1 := by omega
      have hrow2 : rowAt w2 gr L := HP.out.row.keep ((hk.block gr (by simp; omega) HP.out.nb HP.out.ng HP.out.nm).trans (Below.heap_alloc _ _ _ hlr))
      have HB2 := Lib.hid (fun o1 o2 => (((Below.refl w2.heap.size w2).alloc (Nat.le_refl _) o1).alloc (by simp) o2).drew)
      have hgl2 : gr < w2.heap.size := by omega
      have HB3 := Lib.hid (fun o1 o2 o3 => ((((Below.refl w2.heap.size w2).alloc (Nat.le_refl _) o1).alloc (by simp) o2).alloc (by simp; omega) o3).drew)
      have HMJ := Lib.hid (fun W (hW : Below w2.heap.size w2 W) => refMj_any lim gr capr L HP.out.st.ar.wf.toWFp HP.out.st.ar.small k1 n1 a1 b1 e1 W (hrow2.keep (hW.block gr hgl2)) (by have := hW.size; omega))
      have HRD := Lib.hid (fun w3 gr' capr' u v hb3 hrow hlt hgr' hu hv => Lp.round (w := w) (w3 := w3) (gr' := gr') (capr' := capr') (u := u) (v := v) HP.out H8.out H5.out HN8.out HN5.out n58 hw5 hw8 (HB1.out _) hA hg' hk hb3 hrow hlt hgr' hu hv)
      clear hA hg' hk hq8 hqn HMK s0 s1 s2 s3 s4 hrow2
      go_wp2_with fail
      go_cut [13, 14, 15] (fun s13 s14 s15 wx => Mid8 lim gr p8 L ⟨k1, n1, a1, b1, e1⟩ s13 s14 s15 w2 wx)
      case first =>
       go_region_held3 (fun w' => w'.cell? ⟨p8, 0, none⟩ = some (.int .i64 lim) ∧ w'.cell? ⟨p8, 1, none⟩ = some (.slice (some ⟨gr, 0, none⟩) L.length capr) ∧ w'.cell? ⟨wr.heap.size, 0, none⟩ = some (.int .i64 k1) ∧ w'.cell? ⟨wr.heap.size, 1, none⟩ = some (.int .u64 n1) ∧ w'.cell? ⟨wr.heap.size, 2, none⟩ = some (.int .i64 a1) ∧ w'.cell? ⟨wr.heap.size, 3, none⟩ = some (.int .i64 b1) ∧ w'.cell? ⟨wr.heap.size, 4, none⟩ = some (.int .i64 e1)) (first | (go_simp; done) | (simp [*]; done))
        (first
          | (go_at_call 22; refine (one_any _ _ _ _ _ _).mono ?_; rintro e w' ⟨rfl, rfl⟩)
          | (go_at_call 21; refine (HMJ.out _ (HB2.out _ _)).mono ?_; rintro e w3 ⟨gr', capr', rfl, hrow, hrlt, hb3, hgr'⟩; have hbc := bcell hb3; have hbf := bfroz hb3; have t8 := Nat.lt_of_lt_of_le l8 (Nat.le_trans (HB2.out _ _).size hb3.size); have tn := Nat.lt_of_lt_of_le ln (Nat.le_trans (HB2.out _ _).size hb3.size); have hbx := (HB2.out _ _).trans (hb3.mono (HB2.out _ _).size))
          | (go_at_call 21; refine (HMJ.out _ (HB3.out _ _ _)).mono ?_; rintro e w3 ⟨gr', capr', rfl, hrow, hrlt, hb3, hgr'⟩; have hbc := bcell hb3; have hbf := bfroz hb3; have t8 := Nat.lt_of_lt_of_le l8 (Nat.le_trans (HB3.out _ _ _).size hb3.size); have tn := Nat.lt_of_lt_of_le ln (Nat.le_trans (HB3.out _ _ _).size hb3.size); have hbx := (HB3.out _ _ _).trans (hb3.mono (HB3.out _ _ _).size)))
       · go_wp2_with fail
         go_meet
         case rel => exact mid8_alloc hrow hrlt hbx (HB2.out _ _).size hgr'
       · go_wp2_with fail
         go_meet
         case rel => exact mid8_set (v0 := .int .i64 0) (by omega) HP.out.st.ar.wf.pos ((hbc _ _ (by simp)).trans (by go_simp)) ((hbc _ _ (by simp)).trans (by go_simp)) hrow hrlt hbx (HB3.out _ _ _).size hgr'
       · go_wp2_with fail
         go_meet
         case rel => exact mid8_set (v0 := .int .i64 0) (by omega) HP.out.st.ar.wf.pos ((hbc _ _ (by simp; omega)).trans (by go_simp)) ((hbc _ _ (by simp; omega)).trans (by go_simp)) hrow hrlt hbx (HB3.out _ _ _).size hgr'
      case rest =>
       obtain ⟨p13, gr', capr', rfl, rfl, rfl, c0, c1, hbx, hrow, hrlt, hgr'⟩ := hcut
       have y0 := (bcell hbx p8 0 l8).trans z0
       have y1 := (bcell hbx p8 1 l8).trans z1
       have x0 := (bfroz hbx p8 0 l8).trans f0
       have x1 := (bfroz hbx p8 1 l8).trans f1
       have HEND := Lib.hid (HRD.out wc gr' capr' _ _ hbx hrow hrlt hgr' rfl rfl)
       clear hrow hrlt hgr' hbx z0 z1 f0 f1 m0 m1 m2 m3 m4
       go_wp2_with fail
       go_roundg (ns.length - (k + 1))
       case measure => omega
       case rel => exact ⟨k + 1, by omega, by go_num, by rw [HBN.out]; exact HEND.out⟩
    · obtain rfl : k = ns.length := by omega
      have hlp := HL.out
      rw [List.take_length] at hlp
      obtain ⟨g, cap, gr, capr, hP, h8, h5, n8, n5, n58, hw5, hw8⟩ := hlp
      have z0 : wr.cell? ⟨p8, 0, none⟩ = some (.int .i64 lim) := by rw [cell_of_row wr _ 0 _ _ _ h8]; rfl
      have z1 : wr.cell? ⟨p8, 1, none⟩ = some (.slice (some ⟨gr, 0, none⟩) (bld lim ns).length capr) := by rw [cell_of_row wr _ 1 _ _ _ h8]; rfl
      have y0 : wr.cell? ⟨w.heap.size, 0, none⟩ = some (.int .i64 0) := by rw [cell_of_row wr _ 0 _ _ _ h5]; rfl
      have y1 : wr.cell? ⟨w.heap.size, 1, none⟩ = some (.slice none 0 0) := by rw [cell_of_row wr _ 1 _ _ _ h5]; rfl
      have x0 : wr.frozen? ⟨w.heap.size, 0, none⟩ = false := frozen_of_row _ _ _ _ _ h5
      have x1 : wr.frozen? ⟨w.heap.size, 1, none⟩ = false := frozen_of_row _ _ _ _ _ h5
      have HE : Hid (∀ u v, BuiltPost lim ns w (.returned (.tuple #[.pointer (some ⟨b, 0, none⟩), .agg #[.int .i64 lim, .slice (some ⟨gr, 0, none⟩) (bld lim ns).length capr], .bool true])) ((wr.setCell ⟨w.heap.size, 0, none⟩ u).setCell ⟨w.heap.size, 1, none⟩ v).drew) :=
        Lib.hid (fun u v => ⟨b, g, bm, cap, gr, capr, rfl, (hP.set2 (Nat.le_refl _) n5.1 n5.2.1 n5.2.2.1 n5.2.2.2 u v).below (Below.refl _ _).drew⟩)
      clear hP h8 h5 n8 n5 n58 hw5 hw8
      go_wp2_with fail
      go_region
      go_wp2_with fail
      exact bodyPost_ret (v := .tuple #[.pointer (some ⟨b, 0, none⟩), .agg #[.int .i64 lim, .slice (some ⟨gr, 0, none⟩) (bld lim ns).length capr], .bool true]) (by simp [results, Tryd.results8, go_sem, y0, y1]) rfl (HE.out _ _)

end Go.Proofs.YtgjhhipkfglpgaaDoor

namespace Go.Proofs.YtgjhhipkfglpgaaDoor
open Go.RowKit Go.Maps

/-- What a law asks of its list of nodes: Built's contract at it, in whatever later world. -/
def BuiltAt (w : World) (v : Value) (ns : List Nd) : Prop := ∀ (x : Int) (lim : Nat), limZ x = lim → ∀ W, Below w.heap.size w W → Calls Tryd.prog 8 #[.int .i64 x, v] W (BuiltPost lim ns W)

theorem Pair.pos {w wr : World} {b g bm cap gr capr lim : Nat} {L : List Nd} (h : Pair w wr b g bm cap gr capr lim L) : 0 < L.length := h.st.ar.wf.pos

end Go.Proofs.YtgjhhipkfglpgaaDoor
