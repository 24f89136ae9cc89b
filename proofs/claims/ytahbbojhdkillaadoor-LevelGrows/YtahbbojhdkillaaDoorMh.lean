/- Layer 5: the walk of guessLine. -/
import Derived.Test.YtahbbojhdkillaaDoorMg
import Derived.Deep.AppendLies
import Derived.Deep.RegionLaw
namespace Go.Proofs.YtahbbojhdkillaaDoor
open Go.RowKit Go.Shelf

theorem lt_of_heap {w : World} {b : Nat} {o : Obj} (h : w.heap[b]? = some o) : b < w.heap.size := by
  rcases Nat.lt_or_ge b w.heap.size with h1 | h1
  · exact h1
  · rw [Array.getElem?_eq_none h1] at h; cases h
theorem setCell_box1 {w : World} {b : Nat} {u v0 v1 : Value} {t : TypeId} (h : w.heap[b]? = some (.cells #[v0, v1] t (0, 0))) : (w.setCell ⟨b, 1, none⟩ u).heap[b]? = some (.cells #[v0, u] t (0, 0)) := by
  simp only [World.setCell, Array.getElem?_modify, if_true, h]
  rfl
theorem own_set {w : World} {B : Nat} {t : TypeId} {z n : Nat} {v : Value} {xs : List Value} (h : w.ownsRow B t z v n xs) {b o : Nat} (hb : b < B) (u : Value) : (w.setCell ⟨b, o, none⟩ u).ownsRow B t z v n xs := by
  obtain ⟨e, h'⟩ := h
  refine ⟨e, ?_⟩
  rcases h' with h' | ⟨g', cap', cur, hv, hb', hg, rest⟩
  · exact .inl h'
  · refine .inr ⟨g', cap', cur, hv, hb', ?_, rest⟩
    rw [Below.heap_setCell _ _ _ _ (by simp; omega)]; exact hg

theorem own_less {w : World} {B B' : Nat} {t : TypeId} {z n : Nat} {v : Value} {xs : List Value} (h : w.ownsRow B t z v n xs) (hB : B' ≤ B) : w.ownsRow B' t z v n xs := by
  obtain ⟨e, h'⟩ := h
  refine ⟨e, ?_⟩
  rcases h' with h' | ⟨g', cap', cur, hv, hb', hg, rest⟩
  · exact .inl h'
  · exact .inr ⟨g', cap', cur, hv, by omega, hg, rest⟩
def tokV (x : ByteArray) : Value := .int .i64 (tokOf x.data.toList)
/-- While a line's tokens are found. -/
structure Gl (w : World) (f : Int) (P : List ByteArray) (k : Nat) (v : Value) (wr : World) : Prop where
  box : wr.heap[w.heap.size + 1]? = some (.cells #[.int .i64 f, v] 68 (0, 0))
  res : wr.heap[w.heap.size]? = some (.cells #[.int .i64 0, .slice none 0 0] 68 (0, 0))
  row : wr.heap[w.heap.size + 2]? = some (.cells (P.map Value.string).toArray 9 (0, 0))
  own : wr.ownsRow (w.heap.size + 3) 3 1 v k ((P.take k).map tokV)
  bel : Below w.heap.size w wr
theorem Gl.step {w : World} {f : Int} {P : List ByteArray} {k : Nat} {v : Value} {wr : World} (h : Gl w f P k v wr) {x : ByteArray} (hx : P[k]? = some x) {X : World} (hX : Below wr.heap.size wr X) {v' : Value} {w4 : World}
    (hown : w4.ownsRow (w.heap.size + 3) 3 1 v' (k + 1) ((P.take k).map tokV ++ [tokV x])) (hg : X.grownBy w4 v.ownBlock) : Gl w f P (k + 1) v' (w4.setCell ⟨w.heap.size + 1, 1, none⟩ v') := by
  have l2 := lt_of_heap h.row
  have hXs := hX.size
  have far : ∀ j, j ≤ w.heap.size + 2 → v.ownBlock ≠ some j := fun j hj e => by have := (h.own.lt j e).1; omega
  have keep : ∀ j, j ≤ w.heap.size + 2 → w4.heap[j]? = wr.heap[j]? := fun j hj => (hg.block j (by omega) (fun e => far j hj e.symm)).trans (hX.block j (by omega))
  refine ⟨setCell_box1 ((keep _ (by omega)).trans h.box), ?_, ?_, ?_, ?_⟩
  · rw [Below.heap_setCell _ _ _ _ (by simp)]; exact (keep _ (by omega)).trans h.res
  · rw [Below.heap_setCell _ _ _ _ (by simp)]; exact (keep _ (by omega)).trans h.row
  · have e : (P.take (k + 1)).map tokV = (P.take k).map tokV ++ [tokV x] := by
      rw [List.take_add_one, hx]; simp
    rw [e]
    exact own_set hown (by omega) _
  · refine ⟨hg.os.trans (hX.os.trans h.bel.os), hg.tape.trans (hX.tape.trans h.bel.tape), hg.output.trans (hX.output.trans h.bel.output), ?_, fun j hj => ?_⟩
    · have := hg.size; have := h.bel.size; simp [World.setCell]; omega
    · rw [Below.heap_setCell _ _ _ _ (by simp; omega)]
      exact (keep j (by omega)).trans (h.bel.block j hj)

theorem gl_start (w : World) (f : Int) (P : List ByteArray) : Gl w f P 0 (.slice none 0 0) (((w.alloc (.cells #[.int .i64 0, .slice none 0 0] 68)).alloc (.cells #[.int .i64 f, .slice none 0 0] 68)).alloc (.cells (P.map Value.string).toArray 9)) := by
  refine ⟨?_, ?_, ?_, World.ownsRow_nil _ _ _ _, (((Below.refl _ _).alloc (Nat.le_refl _) _).alloc (by simp) _).alloc (by simp; omega) _⟩
  · rw [Below.heap_alloc _ _ _ (by simp)]
    have h := heap_alloc_new (w.alloc (.cells #[.int .i64 0, .slice none 0 0] 68)) (.cells #[.int .i64 f, .slice none 0 0] 68)
    rw [World.size_alloc] at h; exact h
  · rw [Below.heap_alloc _ _ _ (by simp; omega), Below.heap_alloc _ _ _ (by simp)]; exact heap_alloc_new w _
  · have h := heap_alloc_new ((w.alloc (.cells #[.int .i64 0, .slice none 0 0] 68)).alloc (.cells #[.int .i64 f, .slice none 0 0] 68)) (.cells (P.map Value.string).toArray 9)
    rw [World.size_alloc, World.size_alloc] at h; exact h
theorem Gl.en {w : World} {f : Int} {P : List ByteArray} {k : Nat} {v : Value} {wr : World} (h : Gl w f P k v wr) (hE : En w) : En wr := hE.keep h.bel
theorem Tryd.infoI : (Tryd.prog.info? 3).map (fun i => (i.zero, i.size, i.bytes)) = some (some (.int .i64 0), 1, 8) := by kernel_rfl
theorem ints_own {w : World} {B : Nat} {v : Value} {l : List Int} (h : w.ownsRow B 3 1 v l.length (l.map (Value.int .i64))) : ∃ s c, v = .slice s l.length c ∧ IntsV w s l := by
  obtain ⟨_, ⟨rfl, h0⟩ | ⟨g, cap, cur, hv, _, hg, _, _, _, htk⟩⟩ := h
  · exact ⟨none, 0, by rw [h0], fun h => by omega⟩
  · refine ⟨_, _, hv, fun _ => ⟨g, 0, rfl, fun i hi => ?_⟩⟩
    rw [Nat.zero_add, cell_of_row w g i cur _ _ hg]
    have h2 := congrArg (fun z : List Value => z[i]?) htk
    simp only [Nat.mul_one, List.getElem?_take, hi, if_true, List.getElem?_map] at h2
    rw [← Array.getElem?_toList, h2, List.getD_eq_getElem?_getD, List.getElem?_eq_getElem hi]; rfl

theorem splitK_len (sep : List UInt8) : ∀ (k : Nat) (s : List UInt8), (Lib.splitK sep 0 k s).length ≤ k + 1
  | 0, s => by simp [Lib.splitK]
  | k + 1, s => by
    unfold Lib.splitK
    split
    · simp
    · have := splitK_len sep k (s.drop ((Lib.index s sep).toNat + sep.length))
      simp only [List.length_cons]; omega
theorem split_len (s sep : List UInt8) : (Lib.split s sep).length ≤ s.length + 2 := by
  have h1 := splitK_len sep (Lib.count s sep) s
  have h2 := Lib.count_le s sep
  unfold Lib.split; omega
theorem gl_end {w wr : World} {f : Int} {P : List ByteArray} {l y : List UInt8} {sp : Option Addr} {cp : Nat} (hG : gLine l = ⟨f, (Lib.split y [44, 32]).map tokOf⟩) (hP : P.map (·.data.toList) = Lib.split y [44, 32]) (h : Gl w f P P.length (.slice sp P.length cp) wr) :
    ∃ v, Ending.returned (.agg #[.int .i64 f, .slice sp P.length cp]) = .returned (.agg #[.int .i64 (gLine l).fr, v]) ∧ ((wr.setCell ⟨w.heap.size, 0, none⟩ (.int .i64 f)).setCell ⟨w.heap.size, 1, none⟩ (.slice sp P.length cp)).ownsRow w.heap.size 3 1 v (gLine l).t.length ((gLine l).t.map (Value.int .i64)) ∧ Below w.heap.size w ((wr.setCell ⟨w.heap.size, 0, none⟩ (.int .i64 f)).setCell ⟨w.heap.size, 1, none⟩ (.slice sp P.length cp)) := by
  have ht : (gLine l).t = P.map fun x => tokOf x.data.toList := by
    rw [hG, ← hP, List.map_map]; rfl
  have ho := own_set (own_set h.own (b := w.heap.size) (o := 0) (by omega) (.int .i64 f)) (b := w.heap.size) (o := 1) (by omega) (.slice sp P.length cp)
  have e : (P.take P.length).map tokV = (P.map fun x => tokOf x.data.toList).map (Value.int .i64) := by
    rw [List.take_length, List.map_map]; rfl
  rw [e] at ho
  refine ⟨_, by rw [hG], ?_, (h.bel.setCell (Nat.le_refl _) _ ).setCell (Nat.le_refl _) _⟩
  rw [ht, List.length_map]
  exact own_less ho (by omega)
theorem trim_len {s : ByteArray} (hs : s.size ≤ 65536) {p : List UInt8} : (Lib.trimPrefix s.data.toList p).length ≤ 65536 := by
  rw [Lib.size_eq] at hs
  unfold Lib.trimPrefix
  split
  · rw [List.length_drop]; omega
  · exact hs
set_option maxRecDepth 100000 in
set_option maxHeartbeats 4000000 in
theorem guessLine_any (s : ByteArray) (hs : s.size ≤ 65536) (w : World) (hE : En w) :
    Calls Tryd.prog 61 #[.string s] w fun e w' => ∃ v, e = .returned (.agg #[.int .i64 (gLine s.data.toList).fr, v]) ∧ w'.ownsRow w.heap.size 3 1 v (gLine s.data.toList).t.length ((gLine s.data.toList).t.map (Value.int .i64)) ∧ Below w.heap.size w w' := by
  obtain ⟨i0, hi0, hz0, hz1, hz2⟩ := info_parts Tryd.infoI
  have a0 := hE.a0
  have a1 := hE.a1
  have l1 : 2 < w.heap.size := World.block_lt_of_cell? _ _ a0
  have l2 : 2 < w.heap.size + 1 := by omega
  have HE := Lib.hid hE; clear hE
  cases hp : Lib.hasPrefix s.data.toList [45, 62, 32] with
  | true =>
    obtain ⟨y, hy⟩ : ∃ y : ByteArray, y = ⟨(Lib.trimPrefix s.data.toList [45, 62, 32]).toArray⟩ := ⟨_, rfl⟩
    have HP := Lib.hid hp
    have HG : Hid (gLine s.data.toList = ⟨0, (Lib.split y.data.toList [44, 32]).map tokOf⟩) := Lib.hid (by unfold gLine; rw [if_pos hp, hy])
    have HCP := Lib.hid (fun w => cutPre_any s ⟨#[45, 62, 32]⟩ w)
    have HY : Hid (y.size ≤ 65536) := Lib.hid (by
      rw [hy, arr_size]; exact trim_len hs)
    simp only [hp, ← hy] at HCP
    clear hp hy
    go_enter Tryd.func61, Tryd.ntmps61
    go_wp2_with (first
      | (go_at_call 72; refine (HCP.out _).mono ?_; rintro e w1 ⟨rfl, rfl⟩)
      | (go_at_call 74; refine (split_any y ⟨#[44, 32]⟩ _ (by have := HY.out; omega) (by decide) (HE.out.keep (((Below.refl _ _).alloc (Nat.le_refl _) _).alloc (by simp) _))).mono ?_; rintro e w1 ⟨P, hP, rfl, hw1⟩; have HPE := Lib.hid hP; have HW1 := Lib.hid hw1; clear hP hw1))
    have HST : Hid (Gl w 0 P 0 (.slice none 0 0) w1) := Lib.hid (by rw [HW1.out]; exact gl_start w 0 P)
    have HPL : Hid (P.length ≤ 65538) := Lib.hid (by
      have h1 := congrArg List.length HPE.out
      have h2 := split_len y.data.toList [44, 32]
      rw [List.length_map] at h1
      have h3 := HY.out
      rw [Lib.size_eq] at h3; omega)
    clear HW1
    go_loopg [7, 26] P.length (fun q _ u26 wr => ∃ (k : Nat) (v : Value), k + q = P.length ∧ u26 = .int .i64 k ∧ Aside (Gl w 0 P k v wr))
    case atStart => exact ⟨0, _, by omega, rfl, HST.out⟩
    case round =>
      obtain ⟨k, v, hkq, rfl, hgl⟩ := hrel
      have HGL := Lib.hid hgl.out
      clear hgl
      obtain ⟨sp, cp, rfl⟩ := own_slice HGL.out.own
      have b0 : wr.cell? ⟨w.heap.size + 1, 0, none⟩ = some (.int .i64 0) := (cell_of_row wr _ 0 _ _ _ HGL.out.box).trans rfl
      have b1 : wr.cell? ⟨w.heap.size + 1, 1, none⟩ = some (.slice sp k cp) := (cell_of_row wr _ 1 _ _ _ HGL.out.box).trans rfl
      have f1 : wr.frozen? ⟨w.heap.size + 1, 1, none⟩ = false := frozen_of_row _ _ _ _ _ HGL.out.box
      by_cases hlt : k < P.length
      · obtain ⟨x, hx⟩ : ∃ x, P[k]? = some x := ⟨P[k], List.getElem?_eq_getElem hlt⟩
        have HX := Lib.hid hx
        have r0 : wr.cell? ⟨w.heap.size + 1 + 1, k, none⟩ = some (.string x) := by
          rw [cell_of_row wr _ k _ _ _ HGL.out.row]; simp [hx]
        clear hx
        have hk2 : (k : Int) < P.length := by omega
        have hpl := HPL.out
        have lb := lt_of_heap HGL.out.box
        have HFAR : Hid ((Value.slice sp k cp).ownBlock ≠ some (w.heap.size + 1)) := Lib.hid (fun e => by have := (HGL.out.own.lt _ e).1; omega)
        go_wp2_with fail
        go_region_law (first
          | (refine step_append_lies _ (by rfl) (.tmp 31) (.tmp 34) 24 (by rfl) (w.heap.size + 3) 3 i0 _ 1 8 Tryd.underlying24 hi0 hz0 hz1 hz2 rfl (by omega) (.slice sp k cp) k ((P.take k).map tokV) (by rfl) (World.ownsRow.alloc (row_below HGL.out.own (Below.refl _ _).drew) _) ⟨wr.heap.size, 0, none⟩ 1 1 [tokV x] (by rfl) (by rfl) (fun j u hj => by match j, hj with | 0, hj => (simp at hj; subst hj; simp [Addr.add, tokV])) (by simp [tokV, Value.oneCell']) (by omega) (by simp [maxLen]; omega) (by omega) (by have := lt_of_heap HGL.out.row; simp; omega) _ rfl ?_; intro g2 cap2 w4 hown2 hgr2 _ _; have hXB : Below wr.heap.size wr (wr.drew.alloc (.cells #[.int .i64 (tokOf x.data.toList)] 3)) := ((Below.refl _ _).drew).alloc (Nat.le_refl _) _; have e1 : w4.cell? ⟨w.heap.size + 1, 1, none⟩ = some (.slice sp k cp) := hgr2.cell ((hXB.cell (p := ⟨w.heap.size + 1, 1, none⟩) lb).trans b1) (fun e => HFAR.out e.symm); have e2 : w4.frozen? ⟨w.heap.size + 1, 1, none⟩ = false := (hgr2.frozen_far ⟨w.heap.size + 1, 1, none⟩ (by have := hXB.size; simp; omega) (fun e => HFAR.out e.symm)).trans ((hXB.frozen (p := ⟨w.heap.size + 1, 1, none⟩) lb).trans f1); have HGN := Lib.hid (HGL.out.step HX.out hXB hown2 hgr2); clear hown2 hgr2 hXB)
          | (go_simp; go_at_call 75; refine (tokenOf_any _ _ ((HGL.out.en HE.out).keep (Below.refl _ _).drew)).mono ?_; rintro e w5 ⟨rfl, rfl⟩))
        all_goals
          go_wp2_with fail
          go_roundg (P.length - (k + 1))
          case measure => omega
          case rel => exact ⟨k + 1, _, by omega, by go_num, HGN.out⟩
      · have hk2 : ¬ (k : Int) < P.length := by omega
        have hkl : k = P.length := by omega
        have q0 : wr.cell? ⟨w.heap.size, 0, none⟩ = some (.int .i64 0) := (cell_of_row wr _ 0 _ _ _ HGL.out.res).trans rfl
        have q1 : wr.cell? ⟨w.heap.size, 1, none⟩ = some (.slice none 0 0) := (cell_of_row wr _ 1 _ _ _ HGL.out.res).trans rfl
        have g0 : wr.frozen? ⟨w.heap.size, 0, none⟩ = false := frozen_of_row _ _ _ _ _ HGL.out.res
        have g1 : wr.frozen? ⟨w.heap.size, 1, none⟩ = false := frozen_of_row _ _ _ _ _ HGL.out.res
        go_wp2_with fail
        refine bodyPost_ret (v := .agg #[.int .i64 0, .slice sp P.length cp]) (by simp [results, Tryd.results61, go_sem, q0, q1]) rfl ?_
        subst hkl
        exact gl_end HG.out HPE.out HGL.out
  | false =>
    obtain ⟨y, hy⟩ : ∃ y : ByteArray, y = ⟨(Lib.trimPrefix s.data.toList [60, 45, 32]).toArray⟩ := ⟨_, rfl⟩
    obtain ⟨y0, hy0⟩ : ∃ y0 : ByteArray, y0 = ⟨(Lib.trimPrefix s.data.toList [45, 62, 32]).toArray⟩ := ⟨_, rfl⟩
    have HTP := Lib.hid (fun w => trim_any s ⟨#[60, 45, 32]⟩ w)
    have HP := Lib.hid hp
    have HG : Hid (gLine s.data.toList = ⟨1, (Lib.split y.data.toList [44, 32]).map tokOf⟩) := Lib.hid (by unfold gLine; rw [if_neg (by rw [hp]; decide), hy])
    have HCP := Lib.hid (fun w => cutPre_any s ⟨#[45, 62, 32]⟩ w)
    have HY : Hid (y.size ≤ 65536) := Lib.hid (by
      rw [hy, arr_size]; exact trim_len hs)
    simp only [hp, ← hy0] at HCP
    simp only [← hy] at HTP
    clear hp hy hy0
    go_enter Tryd.func61, Tryd.ntmps61
    go_wp2_with (first
      | (go_at_call 73; refine (HTP.out _).mono ?_; rintro e w1 ⟨rfl, rfl⟩)
      | (go_at_call 72; refine (HCP.out _).mono ?_; rintro e w1 ⟨rfl, rfl⟩)
      | (go_at_call 74; refine (split_any y ⟨#[44, 32]⟩ _ (by have := HY.out; omega) (by decide) (HE.out.keep (((Below.refl _ _).alloc (Nat.le_refl _) _).alloc (by simp) _))).mono ?_; rintro e w1 ⟨P, hP, rfl, hw1⟩; have HPE := Lib.hid hP; have HW1 := Lib.hid hw1; clear hP hw1))
    have HST : Hid (Gl w 1 P 0 (.slice none 0 0) w1) := Lib.hid (by rw [HW1.out]; exact gl_start w 1 P)
    have HPL : Hid (P.length ≤ 65538) := Lib.hid (by
      have h1 := congrArg List.length HPE.out
      have h2 := split_len y.data.toList [44, 32]
      rw [List.length_map] at h1
      have h3 := HY.out
      rw [Lib.size_eq] at h3; omega)
    clear HW1
    go_loopg [7, 26] P.length (fun q _ u26 wr => ∃ (k : Nat) (v : Value), k + q = P.length ∧ u26 = .int .i64 k ∧ Aside (Gl w 1 P k v wr))
    case atStart => exact ⟨0, _, by omega, rfl, HST.out⟩
    case round =>
      obtain ⟨k, v, hkq, rfl, hgl⟩ := hrel
      have HGL := Lib.hid hgl.out
      clear hgl
      obtain ⟨sp, cp, rfl⟩ := own_slice HGL.out.own
      have b0 : wr.cell? ⟨w.heap.size + 1, 0, none⟩ = some (.int .i64 1) := (cell_of_row wr _ 0 _ _ _ HGL.out.box).trans rfl
      have b1 : wr.cell? ⟨w.heap.size + 1, 1, none⟩ = some (.slice sp k cp) := (cell_of_row wr _ 1 _ _ _ HGL.out.box).trans rfl
      have f1 : wr.frozen? ⟨w.heap.size + 1, 1, none⟩ = false := frozen_of_row _ _ _ _ _ HGL.out.box
      by_cases hlt : k < P.length
      · obtain ⟨x, hx⟩ : ∃ x, P[k]? = some x := ⟨P[k], List.getElem?_eq_getElem hlt⟩
        have HX := Lib.hid hx
        have r0 : wr.cell? ⟨w.heap.size + 1 + 1, k, none⟩ = some (.string x) := by
          rw [cell_of_row wr _ k _ _ _ HGL.out.row]; simp [hx]
        clear hx
        have hk2 : (k : Int) < P.length := by omega
        have hpl := HPL.out
        have lb := lt_of_heap HGL.out.box
        have HFAR : Hid ((Value.slice sp k cp).ownBlock ≠ some (w.heap.size + 1)) := Lib.hid (fun e => by have := (HGL.out.own.lt _ e).1; omega)
        go_wp2_with fail
        go_region_law (first
          | (refine step_append_lies _ (by rfl) (.tmp 31) (.tmp 34) 24 (by rfl) (w.heap.size + 3) 3 i0 _ 1 8 Tryd.underlying24 hi0 hz0 hz1 hz2 rfl (by omega) (.slice sp k cp) k ((P.take k).map tokV) (by rfl) (World.ownsRow.alloc (row_below HGL.out.own (Below.refl _ _).drew) _) ⟨wr.heap.size, 0, none⟩ 1 1 [tokV x] (by rfl) (by rfl) (fun j u hj => by match j, hj with | 0, hj => (simp at hj; subst hj; simp [Addr.add, tokV])) (by simp [tokV, Value.oneCell']) (by omega) (by simp [maxLen]; omega) (by omega) (by have := lt_of_heap HGL.out.row; simp; omega) _ rfl ?_; intro g2 cap2 w4 hown2 hgr2 _ _; have hXB : Below wr.heap.size wr (wr.drew.alloc (.cells #[.int .i64 (tokOf x.data.toList)] 3)) := ((Below.refl _ _).drew).alloc (Nat.le_refl _) _; have e1 : w4.cell? ⟨w.heap.size + 1, 1, none⟩ = some (.slice sp k cp) := hgr2.cell ((hXB.cell (p := ⟨w.heap.size + 1, 1, none⟩) lb).trans b1) (fun e => HFAR.out e.symm); have e2 : w4.frozen? ⟨w.heap.size + 1, 1, none⟩ = false := (hgr2.frozen_far ⟨w.heap.size + 1, 1, none⟩ (by have := hXB.size; simp; omega) (fun e => HFAR.out e.symm)).trans ((hXB.frozen (p := ⟨w.heap.size + 1, 1, none⟩) lb).trans f1); have HGN := Lib.hid (HGL.out.step HX.out hXB hown2 hgr2); clear hown2 hgr2 hXB)
          | (go_simp; go_at_call 75; refine (tokenOf_any _ _ ((HGL.out.en HE.out).keep (Below.refl _ _).drew)).mono ?_; rintro e w5 ⟨rfl, rfl⟩))
        all_goals
          go_wp2_with fail
          go_roundg (P.length - (k + 1))
          case measure => omega
          case rel => exact ⟨k + 1, _, by omega, by go_num, HGN.out⟩
      · have hk2 : ¬ (k : Int) < P.length := by omega
        have hkl : k = P.length := by omega
        have q0 : wr.cell? ⟨w.heap.size, 0, none⟩ = some (.int .i64 0) := (cell_of_row wr _ 0 _ _ _ HGL.out.res).trans rfl
        have q1 : wr.cell? ⟨w.heap.size, 1, none⟩ = some (.slice none 0 0) := (cell_of_row wr _ 1 _ _ _ HGL.out.res).trans rfl
        have g0 : wr.frozen? ⟨w.heap.size, 0, none⟩ = false := frozen_of_row _ _ _ _ _ HGL.out.res
        have g1 : wr.frozen? ⟨w.heap.size, 1, none⟩ = false := frozen_of_row _ _ _ _ _ HGL.out.res
        go_wp2_with fail
        refine bodyPost_ret (v := .agg #[.int .i64 1, .slice sp P.length cp]) (by simp [results, Tryd.results61, go_sem, q0, q1]) rfl ?_
        subst hkl
        exact gl_end HG.out HPE.out HGL.out
end Go.Proofs.YtahbbojhdkillaaDoor
