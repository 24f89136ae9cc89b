/- Layer 5: the walk of the law's Of (a pattern as the document has it). -/
import Derived.Test.YtahbbojhdkillaaDoorMk
namespace Go.Proofs.YtahbbojhdkillaaDoor
open Go.RowKit Go.Shelf

theorem Tryd.infoR : (Tryd.prog.info? 70).map (fun i => (i.zero, i.size, i.bytes)) = some (some (.agg #[.int .i64 0, .slice none 0 0]), 2, 32) := by kernel_rfl
/-- While a pattern is written as the document has it. -/
structure Owr (w : World) (nb : ByteArray) (u0 u1 : Value) (ms : List Ms) (k : Nat) (vs : List Value) (v : Value) (wr : World) : Prop where
  box : wr.heap[w.heap.size + 1 + 1]? = some (.cells #[.string nb, u0, u1, v] 43 (0, 0))
  res : wr.heap[w.heap.size + 1]? = some (.cells #[.string ⟨#[]⟩, .slice none 0 0, .slice none 0 0, .slice none 0 0] 43 (0, 0))
  len : vs.length = k
  own : wr.ownsRow (w.heap.size + 3) 70 2 v k (msC (ms.take k) vs)
  els : ∀ i u, vs[i]? = some u → ∃ s c, u = .slice s (ms.getD i default).t.length c ∧ IntsV w s (ms.getD i default).t
  bel : Below w.heap.size w wr
theorem setCell_box43r {w : World} {b : Nat} {u v0 v1 v2 v3 : Value} {t : TypeId} (h : w.heap[b]? = some (.cells #[v0, v1, v2, v3] t (0, 0))) : (w.setCell ⟨b, 3, none⟩ u).heap[b]? = some (.cells #[v0, v1, v2, u] t (0, 0)) := by
  simp only [World.setCell, Array.getElem?_modify, if_true, h]
  rfl
theorem Owr.step {w : World} {nb : ByteArray} {u0 u1 : Value} {ms : List Ms} {k : Nat} {vs : List Value} {v : Value} {wr : World} (h : Owr w nb u0 u1 ms k vs v wr) (hk : k < ms.length) {X : World} (hX : Below wr.heap.size wr X) {v' : Value} {w4 : World} {s : Option Addr} {c : Nat} (hi : IntsV w s (ms.getD k default).t)
    (hown : w4.ownsRow (w.heap.size + 3) 70 2 v' (k + 1) (msC (ms.take k) vs ++ [.int .i64 (ms.getD k default).fr, .slice s (ms.getD k default).t.length c])) (hg : X.grownBy w4 v.ownBlock) :
    Owr w nb u0 u1 ms (k + 1) (vs ++ [.slice s (ms.getD k default).t.length c]) v' (w4.setCell ⟨w.heap.size + 1 + 1, 3, none⟩ v') := by
  have l2 := lt_of_heap h.box
  have hXs := hX.size
  have far : ∀ j, j ≤ w.heap.size + 2 → v.ownBlock ≠ some j := fun j hj e => by have := (h.own.lt j e).1; omega
  have keep : ∀ j, j ≤ w.heap.size + 2 → w4.heap[j]? = wr.heap[j]? := fun j hj => (hg.block j (by omega) (fun e => far j hj e.symm)).trans (hX.block j (by omega))
  refine ⟨setCell_box43r ((keep _ (by omega)).trans h.box), ?_, by simp [h.len], ?_, fun i u hu => ?_, ?_⟩
  · rw [Below.heap_setCell _ _ _ _ (by simp)]; exact (keep _ (by omega)).trans h.res
  · rw [pre_take hk, msC_snoc _ _ _ _ (by rw [h.len, List.length_take]; omega)]
    exact own_set hown (by omega) _
  · rcases Nat.lt_or_ge i vs.length with h1 | h1
    · rw [List.getElem?_append_left h1] at hu; exact h.els i u hu
    · have hiv : i = vs.length := by
        rcases Nat.lt_or_ge i (vs ++ [Value.slice s (ms.getD k default).t.length c]).length with h5 | h5
        · simp at h5; omega
        · rw [List.getElem?_eq_none h5] at hu; cases hu
      subst hiv
      have e : u = .slice s (ms.getD k default).t.length c := by simpa using hu.symm
      rw [h.len]
      exact ⟨s, c, e, hi⟩
  · refine ⟨hg.os.trans (hX.os.trans h.bel.os), hg.tape.trans (hX.tape.trans h.bel.tape), hg.output.trans (hX.output.trans h.bel.output), ?_, fun j hj => ?_⟩
    · have := hg.size; have := h.bel.size; simp [World.setCell]; omega
    · rw [Below.heap_setCell _ _ _ _ (by simp; omega)]
      exact (keep j (by omega)).trans (h.bel.block j hj)
theorem owr_end {w wr w' : World} {x : Sl} {p : Pt} {vs : List Value} {v : Value} (hp : PatA w x p) (h : Owr w ⟨p.nm.toArray⟩ (.slice x.s0 p.p0.length x.c0) (.slice x.s1 p.p1.length x.c1) p.ms p.ms.length vs v wr)
    (hk : ∀ j, j ≠ w.heap.size + 1 → w'.heap[j]? = wr.heap[j]?) (hb : Below w.heap.size w w') :
    ∃ y, Ending.returned (.agg #[.string ⟨p.nm.toArray⟩, .slice x.s0 p.p0.length x.c0, .slice x.s1 p.p1.length x.c1, v]) = .returned (patV y p) ∧ PatA w' y p ∧ Below w.heap.size w w' := by
  have ho := own_only h.own h.res (by decide) hk
  rw [List.take_length] at ho
  have key : ∃ s c, v = .slice s p.ms.length c ∧ MsgsV w' s p.ms ∧ p.ms.length ≤ c := by
    obtain ⟨_, ⟨rfl, h0⟩ | ⟨g, cap, cur, rfl, _, hg, hcap, _, _, htk⟩⟩ := ho
    · exact ⟨none, 0, by rw [h0], fun h => by omega, by omega⟩
    · refine ⟨_, _, rfl, fun _ => ⟨g, 0, rfl, fun i hi => ?_⟩, hcap⟩
      obtain ⟨e1, e2⟩ := msC_at p.ms vs i h.len hi
      have cell : ∀ j, j < p.ms.length * 2 → w'.cell? ⟨g, j, none⟩ = (msC p.ms vs)[j]? := fun j hj => by
        rw [cell_of_row w' g j cur _ _ hg, ← htk, List.getElem?_take, if_pos hj, Array.getElem?_toList]
      obtain ⟨u, hu⟩ : ∃ u, vs[i]? = some u := ⟨vs[i]'(by have := h.len; omega), List.getElem?_eq_getElem _⟩
      obtain ⟨s, c, rfl, hi'⟩ := h.els i u hu
      refine ⟨?_, s, c, ?_, hi'.keep hb⟩
      · rw [Nat.zero_add, cell _ (by omega)]; exact e1
      · rw [Nat.zero_add, cell _ (by omega), e2]; exact hu
  obtain ⟨s, c, rfl, hm, hcp⟩ := key
  exact ⟨⟨x.s0, x.c0, x.s1, x.c1, s, c⟩, rfl, ⟨hp.i0.keep hb, hp.i1.keep hb, hm, hcp⟩, hb⟩
theorem owr_start (w : World) (nb : ByteArray) (u0 u1 u2 : Value) (ms : List Ms) : Owr w nb u0 u1 ms 0 [] (.slice none 0 0) (((w.alloc (.cells #[.string nb, u0, u1, u2] 29)).alloc (.cells #[.string ⟨#[]⟩, .slice none 0 0, .slice none 0 0, .slice none 0 0] 43)).alloc (.cells #[.string nb, u0, u1, .slice none 0 0] 43)) := by
  refine ⟨?_, ?_, rfl, World.ownsRow_nil _ _ _ _, fun i u hu => by simp at hu, (((Below.refl _ _).alloc (Nat.le_refl _) _).alloc (by simp) _).alloc (by simp; omega) _⟩
  · have h := heap_alloc_new ((w.alloc (.cells #[.string nb, u0, u1, u2] 29)).alloc (.cells #[.string ⟨#[]⟩, .slice none 0 0, .slice none 0 0, .slice none 0 0] 43)) (.cells #[.string nb, u0, u1, .slice none 0 0] 43)
    rw [World.size_alloc, World.size_alloc] at h; exact h
  · rw [Below.heap_alloc _ _ _ (by simp)]
    have h := heap_alloc_new (w.alloc (.cells #[.string nb, u0, u1, u2] 29)) (.cells #[.string ⟨#[]⟩, .slice none 0 0, .slice none 0 0, .slice none 0 0] 43)
    rw [World.size_alloc] at h; exact h

set_option maxRecDepth 100000 in
set_option maxHeartbeats 4000000 in
theorem of_any (x : Sl) (p : Pt) (hl : p.ms.length ≤ 65536) (w : World) (hp : PatA w x p) : Calls Tryd.prog 16 #[patV x p] w fun e w' => ∃ y, e = .returned (patV y p) ∧ PatA w' y p ∧ Below w.heap.size w w' := by
  obtain ⟨i0, hi0, hz0, hz1, hz2⟩ := info_parts Tryd.infoR
  have HP := Lib.hid hp; clear hp
  have HL := Lib.hid hl; clear hl
  obtain ⟨s0, c0, s1, c1, s2, c2⟩ := x
  have HIM := Lib.hid HP.out.im
  unfold patV
  simp only at HIM ⊢
  obtain ⟨n, hn⟩ : ∃ n, n = p.ms.length := ⟨_, rfl⟩
  rw [← hn]
  have HN := Lib.hid hn
  have HST := Lib.hid (owr_start w ⟨p.nm.toArray⟩ (.slice s0 p.p0.length c0) (.slice s1 p.p1.length c1) (.slice s2 n c2) p.ms)
  clear hn
  go_enter Tryd.func16, Tryd.ntmps16
  go_wp2_with fail
  go_loopg [5, 14] n (fun q _ u14 wr => ∃ (k : Nat) (vs : List Value) (v : Value), k + q = n ∧ u14 = .int .i64 k ∧ Aside (Owr w ⟨p.nm.toArray⟩ (.slice s0 p.p0.length c0) (.slice s1 p.p1.length c1) p.ms k vs v wr))
  case atStart => exact ⟨0, _, _, by omega, rfl, HST.out⟩
  case round =>
    obtain ⟨k, vs, v, hkq, rfl, how⟩ := hrel
    have HOW := Lib.hid how.out
    clear how
    obtain ⟨sp, cp, hv⟩ := own_slice HOW.out.own
    subst hv
    obtain ⟨b0, b1, b2, b3, f0, f1, f2, f3⟩ := box4c HOW.out.box
    have lb := lt_of_heap HOW.out.box
    by_cases hlt : k < n
    · obtain ⟨g, o, hs2, hia⟩ := HIM.out (by have := HN.out; omega)
      subst hs2
      obtain ⟨q0, sx, cx, q1, qi⟩ := hia k (by have := HN.out; omega)
      clear hia
      obtain ⟨f, hf⟩ : ∃ f, f = (p.ms.getD k default).fr := ⟨_, rfl⟩
      obtain ⟨m, hm⟩ : ∃ m, m = (p.ms.getD k default).t.length := ⟨_, rfl⟩
      rw [← hf] at q0
      rw [← hm] at q1
      have HF := Lib.hid hf
      have HM := Lib.hid hm
      have QI := Lib.hid qi
      have lg : g < wr.heap.size := Nat.lt_of_lt_of_le (World.block_lt_of_cell? _ _ q0) HOW.out.bel.size
      have q0' : wr.cell? ⟨g, o + k * 2, none⟩ = some (.int .i64 f) := (HOW.out.bel.cell (p := ⟨g, o + k * 2, none⟩) (World.block_lt_of_cell? _ _ q0)).trans q0
      have q1' : wr.cell? ⟨g, o + k * 2 + 1, none⟩ = some (.slice sx m cx) := (HOW.out.bel.cell (p := ⟨g, o + k * 2 + 1, none⟩) (World.block_lt_of_cell? _ _ q1)).trans q1
      clear hf hm qi q0 q1
      have hk2 : (k : Int) < n := by omega
      have HFAR : Hid ((Value.slice sp k cp).ownBlock ≠ some (w.heap.size + 1 + 1)) := Lib.hid (fun e => by have := (HOW.out.own.lt _ e).1; omega)
      have hn2 : (n : Int) ≤ 65536 := by have := HL.out; have := HN.out; omega
      go_wp2_with (at_builtin; refine wpList_append_own _ rfl _ _ 41 rfl (w.heap.size + 3) 70 i0 (.agg #[.int .i64 0, .slice none 0 0]) 2 32 Tryd.underlying41 hi0 hz0 hz1 hz2 rfl (by decide) _ _ _ rfl (World.ownsRow.alloc (World.ownsRow.alloc HOW.out.own _) _) ⟨wr.heap.size + 1, 0, none⟩ 1 1 [.int .i64 f, .slice sx m cx] rfl rfl ?c1 ?c2 ?c3 ?c4 ?c5 ?_)
      case c1 =>
        intro j u hj
        match j, hj with
        | 0, hj => simp at hj; subst hj; simp [Addr.add]
        | 1, hj => simp at hj; subst hj; simp [Addr.add]
      case c2 => intro u hu; simp at hu; rcases hu with rfl | rfl <;> rfl
      case c3 => unfold maxLen; omega
      case c4 => omega
      case c5 => simp; omega
      intro v4 w4 hown4 hgr4 _
      obtain ⟨sv, cv, hv4⟩ := own_slice hown4
      subst hv4
      have hXB : Below wr.heap.size wr ((wr.alloc (.cells #[.int .i64 f, .slice sx m cx] 68)).alloc (.cells #[.int .i64 f, .slice sx m cx] 70)) := ((Below.refl _ _).alloc (Nat.le_refl _) _).alloc (by simp) _
      have e1 : w4.cell? ⟨w.heap.size + 1 + 1, 3, none⟩ = some (.slice sp k cp) := hgr4.cell ((hXB.cell (p := ⟨w.heap.size + 1 + 1, 3, none⟩) lb).trans b3) (fun e => HFAR.out e.symm)
      have e2 : w4.frozen? ⟨w.heap.size + 1 + 1, 3, none⟩ = false := (hgr4.frozen_far ⟨w.heap.size + 1 + 1, 3, none⟩ (by have := hXB.size; simp; omega) (fun e => HFAR.out e.symm)).trans ((hXB.frozen (p := ⟨w.heap.size + 1 + 1, 3, none⟩) lb).trans f3)
      have HGN := Lib.hid (HOW.out.step (s := sx) (c := cx) (by have := HN.out; omega) hXB QI.out (by rw [← HF.out, ← HM.out]; exact hown4) hgr4)
      clear hown4 hgr4 hXB
      go_wp2_with fail
      go_roundg (n - (k + 1))
      case measure => omega
      case rel => exact ⟨k + 1, _, _, by omega, by go_num, HGN.out⟩
    · have hk2 : ¬ (k : Int) < n := by omega
      obtain rfl : k = n := by omega
      obtain ⟨r0, r1, r2, r3, y0, y1, y2, y3⟩ := box4c HOW.out.res
      go_wp2_with fail
      refine bodyPost_ret (v := .agg #[.string ⟨p.nm.toArray⟩, .slice s0 p.p0.length c0, .slice s1 p.p1.length c1, .slice sp k cp]) (by simp [results, Tryd.results16, go_sem, r0, r1, r2, r3]) rfl ?_
      have hOW := HOW.out
      have hk3 := HN.out
      subst hk3
      exact owr_end HP.out hOW (set4_only wr _ _ _ _ _) (set4_below hOW.bel (by omega) _ _ _ _)
end Go.Proofs.YtahbbojhdkillaaDoor
