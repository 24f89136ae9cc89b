/- Layer 5: the walk of guess. -/
import Derived.Test.YtahbbojhdkillaaDoorMi
namespace Go.Proofs.YtahbbojhdkillaaDoor
open Go.RowKit Go.Shelf

theorem own_setT {w : World} {B : Nat} {t t' : TypeId} {z n : Nat} {v : Value} {xs : List Value} (h : w.ownsRow B t z v n xs) {b o : Nat} {cs : Array Value} {fr : Nat × Nat} (hb : w.heap[b]? = some (.cells cs t' fr)) (hne : t' ≠ t) (u : Value) : (w.setCell ⟨b, o, none⟩ u).ownsRow B t z v n xs := by
  obtain ⟨e, h'⟩ := h
  refine ⟨e, ?_⟩
  rcases h' with h' | ⟨g', cap', cur, hv, hb', hg, rest⟩
  · exact .inl h'
  · refine .inr ⟨g', cap', cur, hv, hb', ?_, rest⟩
    rw [Below.heap_setCell _ _ _ _ (fun e => by
      have e : b = g' := by simpa using e.symm
      subst e
      rw [hb] at hg
      simp at hg
      exact hne hg.2.1)]
    exact hg
theorem MsO.setT {w : World} {B : Nat} {v : Value} {ms : List Ms} (h : MsO w B v ms) {b o : Nat} {cs : Array Value} {fr : Nat × Nat} (hb : w.heap[b]? = some (.cells cs 29 fr)) (u : Value) : MsO (w.setCell ⟨b, o, none⟩ u) B v ms := by
  obtain ⟨vs, h1, h2, h3⟩ := h
  exact ⟨vs, h1, own_setT h2 hb (by decide) u, fun i y hy => own_setT (h3 i y hy) hb (by decide) u⟩
theorem gPre_snoc : ∀ (l : List Ms) (m : Ms) (x : List Int × List Int), gPre (l ++ [m]) x = (if m.fr = 0 then (m.t, (gPre l x).2) else ((gPre l x).1, m.t))
  | [], m, x => rfl
  | a :: l, m, x => by rw [List.cons_append, gPre, gPre_snoc l m, gPre]
theorem gLine_fr (l : List UInt8) : (gLine l).fr = 0 ∨ (gLine l).fr = 1 := by
  unfold gLine
  split
  · exact .inl rfl
  · exact .inr rfl
theorem gLines_fr (n : Nat) : ∀ (s : List UInt8), s.length ≤ n → ∀ m ∈ gLines s, m.fr = 0 ∨ m.fr = 1 := by
  induction n with
  | zero => intro s h m hm; rw [List.length_eq_zero_iff.1 (by omega : s.length = 0), gLines_nil] at hm; cases hm
  | succ n ih =>
    intro s h m hm
    by_cases hs : s = []
    · rw [hs, gLines_nil] at hm; cases hm
    · rw [gLines_cons hs] at hm
      have hl := cut_le s hs
      rcases List.mem_cons.1 hm with rfl | hm
      · exact gLine_fr _
      · exact ih _ (by omega) m hm
theorem gLines_len (n : Nat) : ∀ (s : List UInt8), s.length ≤ n → (gLines s).length ≤ s.length := by
  induction n with
  | zero => intro s h; rw [List.length_eq_zero_iff.1 (by omega : s.length = 0), gLines_nil]; simp
  | succ n ih =>
    intro s h
    by_cases hs : s = []
    · rw [hs, gLines_nil]; simp
    · rw [gLines_cons hs]
      have hl := cut_le s hs
      have := ih (Lib.cut s [10]).2.1 (by omega)
      simp only [List.length_cons]; omega

/-- While what is announced is found. -/
structure Gs (w : World) (pb : Nat) (NB : ByteArray) (msM : List Ms) (vM : Value) (pre : List Ms) (vP : Value) (k : Nat) (v0 v1 : Value) (wr : World) : Prop where
  lt : w.heap.size < pb
  box : wr.heap[pb]? = some (.cells #[.string NB, v0, v1, vM] 29 (0, 0))
  o0 : wr.ownsRow 0 3 1 v0 (gPre (pre.take k) ([], [])).1.length ((gPre (pre.take k) ([], [])).1.map (Value.int .i64))
  o1 : wr.ownsRow 0 3 1 v1 (gPre (pre.take k) ([], [])).2.length ((gPre (pre.take k) ([], [])).2.map (Value.int .i64))
  mM : MsO wr 0 vM msM
  mP : MsO wr 0 vP pre
  res : wr.heap[w.heap.size]? = some (.cells #[.string ⟨#[]⟩, .slice none 0 0, .slice none 0 0, .slice none 0 0] 29 (0, 0))
  bel : Below w.heap.size w wr
theorem setCell_box41 {w : World} {b : Nat} {u v0 v1 v2 v3 : Value} {t : TypeId} (h : w.heap[b]? = some (.cells #[v0, v1, v2, v3] t (0, 0))) : (w.setCell ⟨b, 1, none⟩ u).heap[b]? = some (.cells #[v0, u, v2, v3] t (0, 0)) := by
  simp only [World.setCell, Array.getElem?_modify, if_true, h]
  rfl
theorem setCell_box42 {w : World} {b : Nat} {u v0 v1 v2 v3 : Value} {t : TypeId} (h : w.heap[b]? = some (.cells #[v0, v1, v2, v3] t (0, 0))) : (w.setCell ⟨b, 2, none⟩ u).heap[b]? = some (.cells #[v0, v1, u, v3] t (0, 0)) := by
  simp only [World.setCell, Array.getElem?_modify, if_true, h]
  rfl
theorem Gs.keep {w : World} {pb : Nat} {NB : ByteArray} {msM : List Ms} {vM : Value} {pre : List Ms} {vP : Value} {k : Nat} {v0 v1 : Value} {wr wx : World} (h : Gs w pb NB msM vM pre vP k v0 v1 wr) (hb : Below wr.heap.size wr wx) : Gs w pb NB msM vM pre vP k v0 v1 wx :=
  ⟨h.lt, (hb.block _ (lt_of_heap h.box)).trans h.box, row_below h.o0 hb, row_below h.o1 hb, h.mM.keep hb, h.mP.keep hb, (hb.block _ (lt_of_heap h.res)).trans h.res, h.bel.trans (hb.mono h.bel.size)⟩
theorem pre_take {pre : List Ms} {k : Nat} (h : k < pre.length) : pre.take (k + 1) = pre.take k ++ [pre.getD k default] := by
  rw [List.take_succ_eq_append_getElem h, List.getD_eq_getElem?_getD, List.getElem?_eq_getElem h]; rfl
theorem Gs.step0 {w : World} {pb : Nat} {NB : ByteArray} {msM : List Ms} {vM : Value} {pre : List Ms} {vP : Value} {k : Nat} {v0 v1 : Value} {wr : World} (h : Gs w pb NB msM vM pre vP k v0 v1 wr) (hk : k < pre.length) (hf : (pre.getD k default).fr = 0) {u : Value}
    (hu : wr.ownsRow 0 3 1 u (pre.getD k default).t.length ((pre.getD k default).t.map (Value.int .i64))) : Gs w pb NB msM vM pre vP (k + 1) u v1 (wr.setCell ⟨pb, 1, none⟩ u) := by
  have e : gPre (pre.take (k + 1)) ([], []) = ((pre.getD k default).t, (gPre (pre.take k) ([], [])).2) := by
    rw [pre_take hk, gPre_snoc, if_pos hf]
  have hlt := h.lt
  refine ⟨h.lt, setCell_box41 h.box, ?_, ?_, h.mM.setT h.box u, h.mP.setT h.box u, ?_, h.bel.setCell (by show w.heap.size ≤ pb; omega) u⟩
  · rw [e]; exact own_setT hu h.box (by decide) u
  · rw [e]; exact own_setT h.o1 h.box (by decide) u
  · rw [Below.heap_setCell _ _ _ _ (by simp; omega)]; exact h.res
theorem Gs.step1 {w : World} {pb : Nat} {NB : ByteArray} {msM : List Ms} {vM : Value} {pre : List Ms} {vP : Value} {k : Nat} {v0 v1 : Value} {wr : World} (h : Gs w pb NB msM vM pre vP k v0 v1 wr) (hk : k < pre.length) (hf : (pre.getD k default).fr = 1) {u : Value}
    (hu : wr.ownsRow 0 3 1 u (pre.getD k default).t.length ((pre.getD k default).t.map (Value.int .i64))) : Gs w pb NB msM vM pre vP (k + 1) v0 u (wr.setCell ⟨pb, 2, none⟩ u) := by
  have e : gPre (pre.take (k + 1)) ([], []) = ((gPre (pre.take k) ([], [])).1, (pre.getD k default).t) := by
    rw [pre_take hk, gPre_snoc, if_neg (by rw [hf]; decide)]
  have hlt := h.lt
  refine ⟨h.lt, setCell_box42 h.box, ?_, ?_, h.mM.setT h.box u, h.mP.setT h.box u, ?_, h.bel.setCell (by show w.heap.size ≤ pb; omega) u⟩
  · rw [e]; exact own_setT h.o0 h.box (by decide) u
  · rw [e]; exact own_setT hu h.box (by decide) u
  · rw [Below.heap_setCell _ _ _ _ (by simp; omega)]; exact h.res
theorem MsO.less {w : World} {B : Nat} {v : Value} {ms : List Ms} (h : MsO w B v ms) : MsO w 0 v ms := by
  obtain ⟨vs, h1, h2, h3⟩ := h
  exact ⟨vs, h1, own_less h2 (Nat.zero_le _), fun i u hu => own_less (h3 i u hu) (Nat.zero_le _)⟩
/-- One message of a row of messages. -/
theorem MsO.at_ {w : World} {B : Nat} {s : Option Addr} {n c : Nat} {ms : List Ms} (h : MsO w B (.slice s n c) ms) {k : Nat} (hk : k < ms.length) : ∃ g sx cx, s = some ⟨g, 0, none⟩ ∧ w.cell? ⟨g, k * 2, none⟩ = some (.int .i64 (ms.getD k default).fr) ∧ w.cell? ⟨g, k * 2 + 1, none⟩ = some (.slice sx (ms.getD k default).t.length cx) ∧
    w.ownsRow B 3 1 (.slice sx (ms.getD k default).t.length cx) (ms.getD k default).t.length ((ms.getD k default).t.map (Value.int .i64)) := by
  obtain ⟨vs, h1, ⟨_, ⟨_, h0⟩ | ⟨g, cap, cur, hv, _, hg, _, _, _, htk⟩⟩, h3⟩ := h
  · omega
  · obtain ⟨e1, e2⟩ := msC_at ms vs k h1 hk
    have cell : ∀ j, j < ms.length * 2 → w.cell? ⟨g, j, none⟩ = (msC ms vs)[j]? := fun j hj => by
      rw [cell_of_row w g j cur _ _ hg, ← htk, List.getElem?_take, if_pos hj, Array.getElem?_toList]
    obtain ⟨u, hu⟩ : ∃ u, vs[k]? = some u := ⟨vs[k], List.getElem?_eq_getElem (by omega)⟩
    have h4 := h3 k u hu
    obtain ⟨sx, cx, rfl⟩ := own_slice h4
    refine ⟨g, sx, cx, by injection hv, ?_, ?_, h4⟩
    · rw [cell _ (by omega)]; exact e1
    · rw [cell _ (by omega), e2]; exact hu

theorem gs_start {w w3 w5 : World} {nb : ByteArray} {msM pre : List Ms} {vM vP : Value} {B B' : Nat}
    (h3 : Below (w.alloc (.cells #[.string ⟨#[]⟩, .slice none 0 0, .slice none 0 0, .slice none 0 0] 29)).heap.size (w.alloc (.cells #[.string ⟨#[]⟩, .slice none 0 0, .slice none 0 0, .slice none 0 0] 29)) w3) (hm : MsO w3 B vM msM)
    (h5 : Below (w3.alloc (.cells #[.string nb, .slice none 0 0, .slice none 0 0, vM] 29)).heap.size (w3.alloc (.cells #[.string nb, .slice none 0 0, .slice none 0 0, vM] 29)) w5) (hp : MsO w5 B' vP pre) :
    Gs w w3.heap.size nb msM vM pre vP 0 (.slice none 0 0) (.slice none 0 0) w5 := by
  have l3 := h3.size
  rw [World.size_alloc] at l3
  have hb3 : Below w.heap.size w w3 := ((Below.refl _ _).alloc (Nat.le_refl _) _).trans (h3.mono (by simp))
  have h35 : Below w3.heap.size w3 w5 := ((Below.refl _ _).alloc (Nat.le_refl _) _).trans (h5.mono (by simp))
  refine ⟨by omega, ?_, World.ownsRow_nil _ _ _ _, World.ownsRow_nil _ _ _ _, hm.less.keep h35, hp.less, ?_, hb3.trans (h35.mono hb3.size)⟩
  · rw [h5.block _ (by simp)]; exact heap_alloc_new w3 _
  · rw [h35.block _ (by omega), h3.block _ (by simp)]; exact heap_alloc_new w _
theorem own_only {w w' : World} {B : Nat} {t t' : TypeId} {z n : Nat} {v : Value} {xs : List Value} (h : w.ownsRow B t z v n xs) {b : Nat} {cs : Array Value} {fr : Nat × Nat} (hb : w.heap[b]? = some (.cells cs t' fr)) (hne : t' ≠ t) (hk : ∀ j, j ≠ b → w'.heap[j]? = w.heap[j]?) : w'.ownsRow B t z v n xs := by
  obtain ⟨e, h'⟩ := h
  refine ⟨e, ?_⟩
  rcases h' with h' | ⟨g', cap', cur, hv, hb', hg, rest⟩
  · exact .inl h'
  · refine .inr ⟨g', cap', cur, hv, hb', ?_, rest⟩
    rw [hk g' (fun e => by
      subst e
      rw [hb] at hg
      simp at hg
      exact hne hg.2.1)]
    exact hg
theorem gs_end {w wr w' : World} {pb : Nat} {nb : ByteArray} {msM pre : List Ms} {vM vP v0 v1 : Value} {l : List UInt8} (hG : guess l = ⟨nb.data.toList, (gPre pre ([], [])).1, (gPre pre ([], [])).2, msM⟩) (h : Gs w pb nb msM vM pre vP pre.length v0 v1 wr)
    (hk : ∀ j, j ≠ w.heap.size → w'.heap[j]? = wr.heap[j]?) (hb : Below w.heap.size w w') :
    ∃ x, Ending.returned (.agg #[.string nb, v0, v1, vM]) = .returned (patV x (guess l)) ∧ PatA w' x (guess l) ∧ Below w.heap.size w w' := by
  obtain ⟨s0, c0, e0, q0⟩ := ints_own (own_only h.o0 h.res (by decide) hk)
  obtain ⟨s1, c1, e1, q1⟩ := ints_own (own_only h.o1 h.res (by decide) hk)
  have hm : MsO w' 0 vM msM := by
    obtain ⟨vs, h1, h2, h3⟩ := h.mM
    exact ⟨vs, h1, own_only h2 h.res (by decide) hk, fun i u hu => own_only (h3 i u hu) h.res (by decide) hk⟩
  obtain ⟨s2, c2, e2, q2, q3⟩ := hm.msgs
  rw [List.take_length] at e0 q0 e1 q1
  refine ⟨⟨s0, c0, s1, c1, s2, c2⟩, ?_, ?_, hb⟩
  · rw [hG, e0, e1, e2]; rfl
  · rw [hG]; exact ⟨q0, q1, q2, q3⟩
theorem set4_only (w : World) (b : Nat) (u0 u1 u2 u3 : Value) : ∀ j, j ≠ b → ((((w.setCell ⟨b, 0, none⟩ u0).setCell ⟨b, 1, none⟩ u1).setCell ⟨b, 2, none⟩ u2).setCell ⟨b, 3, none⟩ u3).heap[j]? = w.heap[j]? := fun j hj => by
  rw [Below.heap_setCell _ _ _ _ (by simpa using hj), Below.heap_setCell _ _ _ _ (by simpa using hj), Below.heap_setCell _ _ _ _ (by simpa using hj), Below.heap_setCell _ _ _ _ (by simpa using hj)]

set_option maxRecDepth 100000 in
set_option maxHeartbeats 4000000 in
theorem guess_any (s : ByteArray) (hs : s.size ≤ 16384) (w : World) (hE : En w) :
    Calls Tryd.prog 37 #[.string s] w fun e w' => ∃ x, e = .returned (patV x (guess s.data.toList)) ∧ PatA w' x (guess s.data.toList) ∧ Below w.heap.size w w' := by
  have HE := Lib.hid hE; clear hE
  obtain ⟨nb, hnb⟩ : ∃ b : ByteArray, b = ⟨(Lib.cut s.data.toList [58, 10]).1.toArray⟩ := ⟨_, rfl⟩
  obtain ⟨rb, hrb⟩ : ∃ b : ByteArray, b = ⟨(Lib.cut s.data.toList [58, 10]).2.1.toArray⟩ := ⟨_, rfl⟩
  obtain ⟨f1, hf1⟩ : ∃ b, b = (Lib.cut s.data.toList [58, 10]).2.2 := ⟨_, rfl⟩
  obtain ⟨pb, hpb⟩ : ∃ b : ByteArray, b = ⟨(Lib.cut (Lib.cut s.data.toList [58, 10]).2.1 [46, 46, 46, 10]).1.toArray⟩ := ⟨_, rfl⟩
  obtain ⟨mb, hmb⟩ : ∃ b : ByteArray, b = ⟨(Lib.cut (Lib.cut s.data.toList [58, 10]).2.1 [46, 46, 46, 10]).2.1.toArray⟩ := ⟨_, rfl⟩
  obtain ⟨f2, hf2⟩ : ∃ b, b = (Lib.cut (Lib.cut s.data.toList [58, 10]).2.1 [46, 46, 46, 10]).2.2 := ⟨_, rfl⟩
  obtain ⟨PB, hPB⟩ : ∃ b : ByteArray, b = ⟨(gPreS s.data.toList).toArray⟩ := ⟨_, rfl⟩
  obtain ⟨MB, hMB⟩ : ∃ b : ByteArray, b = ⟨(gMsS s.data.toList).toArray⟩ := ⟨_, rfl⟩
  have hcl : ∀ l sep : List UInt8, (Lib.cut l sep).2.1.length ≤ l.length := fun l sep => by
    unfold Lib.cut; split
    · simp only [List.length_drop]; omega
    · simp
  have HC1 := Lib.hid (fun w (hw : En w) => cut_any s ⟨#[58, 10]⟩ w (by omega) hw)
  simp only [← hnb, ← hrb, ← hf1] at HC1
  have hrl : rb.size ≤ 16384 := by rw [hrb, arr_size]; have := hcl s.data.toList [58, 10]; rw [← Lib.size_eq] at this; omega
  have HC2 := Lib.hid (fun w (hw : En w) => cut_any rb ⟨#[46, 46, 46, 10]⟩ w (by omega) hw)
  have hrd : rb.data.toList = (Lib.cut s.data.toList [58, 10]).2.1 := by rw [hrb]
  simp only [hrd, ← hpb, ← hmb, ← hf2] at HC2
  have hP : PB.size ≤ 16384 := by
    rw [hPB, arr_size]; unfold gPreS; split
    · have h1 := cut_fst (Lib.cut s.data.toList [58, 10]).2.1 [46, 46, 46, 10]
      rw [← hrd, ← Lib.size_eq] at h1; rw [← hrd]; omega
    · simp
  have hM : MB.size ≤ 16384 := by
    rw [hMB, arr_size]; unfold gMsS; split
    · have h1 := hcl (Lib.cut s.data.toList [58, 10]).2.1 [46, 46, 46, 10]
      rw [← hrd, ← Lib.size_eq] at h1; rw [← hrd]; omega
    · rw [← hrd, ← Lib.size_eq]; exact hrl
  have HG : Hid (guess s.data.toList = ⟨nb.data.toList, (gPre (gLines PB.data.toList) ([], [])).1, (gPre (gLines PB.data.toList) ([], [])).2, gLines MB.data.toList⟩) := Lib.hid (by rw [hnb, hPB, hMB]; rfl)
  have hsel : (f2 = false ∧ PB = ⟨#[]⟩ ∧ MB = rb) ∨ (f2 = true ∧ PB = pb ∧ MB = mb) := by
    cases hf : f2 with
    | false =>
      refine .inl ⟨rfl, ?_, ?_⟩
      · rw [hPB]; unfold gPreS; rw [← hf2, hf]; rfl
      · rw [hMB, hrb]; unfold gMsS; rw [← hf2, hf]; rfl
    | true =>
      refine .inr ⟨rfl, ?_, ?_⟩
      · rw [hPB, hpb]; unfold gPreS; rw [← hf2, hf]; rfl
      · rw [hMB, hmb]; unfold gMsS; rw [← hf2, hf]; rfl
  have HFR : Hid (∀ k, k < (gLines PB.data.toList).length → ((gLines PB.data.toList).getD k default).fr = 0 ∨ ((gLines PB.data.toList).getD k default).fr = 1) := Lib.hid (fun k hk => by
    rw [List.getD_eq_getElem?_getD, List.getElem?_eq_getElem hk]
    exact gLines_fr _ _ (Nat.le_refl _) _ (List.getElem_mem hk))
  have HPLN : Hid ((gLines PB.data.toList).length ≤ 16384) := Lib.hid (by
    have := gLines_len _ PB.data.toList (Nat.le_refl _); rw [← Lib.size_eq] at this; omega)
  have HGP := Lib.hid (fun w (hw : En w) => guessLines_any PB (by omega) w hw)
  have HGM := Lib.hid (fun w (hw : En w) => guessLines_any MB (by omega) w hw)
  generalize gLines PB.data.toList = pre at *
  generalize gLines MB.data.toList = msM at *
  clear hcl hnb hrb hf1 hpb hmb hf2 hPB hMB hrl hrd hP hM hs
  rcases hsel with ⟨rfl, rfl, rfl⟩ | ⟨rfl, rfl, rfl⟩
  all_goals
    go_enter Tryd.func37, Tryd.ntmps37
    go_wp2_with (first
      | (have _k := HM3; go_at_call 49; refine (HGP.out _ (HE.out.keep ((((Below.refl _ _).alloc (Nat.le_refl _) _).trans (HB3.out.mono (by simp))).alloc (by have := HB3.out.size; simp at this; omega) _))).mono ?_; rintro e w5 ⟨vP, rfl, hm5, hb5⟩; have HM5 := Lib.hid hm5; have HB5 := Lib.hid hb5; clear hb5 hm5; obtain ⟨sp, cp, hsp, _⟩ := HM5.out.msgs; subst hsp)
      | (go_at_call 49; refine (HGM.out _ (HE.out.keep (((Below.refl _ _).alloc (Nat.le_refl _) _).trans (HB2.out.mono (by simp))))).mono ?_; rintro e w3 ⟨vM, rfl, hm3, hb3⟩; have HM3 := Lib.hid hm3; have HB3 := Lib.hid (HB2.out.trans (hb3.mono HB2.out.size)); clear hb3 hm3; obtain ⟨sm, cm, hsm, _⟩ := HM3.out.msgs; subst hsm)
      | (have _k := HB1; go_at_call 48; refine (HC2.out _ (HE.out.keep (((Below.refl _ _).alloc (Nat.le_refl _) _).trans (HB1.out.mono (by simp))))).mono ?_; rintro e w2 ⟨rfl, hb2⟩; have HB2 := Lib.hid (HB1.out.trans (hb2.mono HB1.out.size)); clear hb2)
      | (go_at_call 48; refine (HC1.out _ (HE.out.keep ((Below.refl _ _).alloc (Nat.le_refl _) _))).mono ?_; rintro e w1 ⟨rfl, hb1⟩; have HB1 := Lib.hid hb1; clear hb1))
    have HST := Lib.hid (gs_start HB3.out HM3.out HB5.out HM5.out)
    clear HM3 HM5 HB5 HB1 HB2 HC1 HC2
    go_loopg [11, 34] pre.length (fun q _ u34 wr => ∃ (k : Nat) (v0 v1 : Value), k + q = pre.length ∧ u34 = .int .i64 k ∧ Aside (Gs w w3.heap.size nb msM (.slice sm msM.length cm) pre (.slice sp pre.length cp) k v0 v1 wr))
    case atStart => exact ⟨0, _, _, by omega, rfl, HST.out⟩
    case round =>
      obtain ⟨k, v0, v1, hkq, rfl, hgs⟩ := hrel
      have HGS := Lib.hid hgs.out
      clear hgs
      have c0 : wr.cell? ⟨w3.heap.size, 0, none⟩ = some (.string nb) := (cell_of_row wr _ 0 _ _ _ HGS.out.box).trans rfl
      have c1 : wr.cell? ⟨w3.heap.size, 1, none⟩ = some v0 := (cell_of_row wr _ 1 _ _ _ HGS.out.box).trans rfl
      have c2 : wr.cell? ⟨w3.heap.size, 2, none⟩ = some v1 := (cell_of_row wr _ 2 _ _ _ HGS.out.box).trans rfl
      have c3 : wr.cell? ⟨w3.heap.size, 3, none⟩ = some (.slice sm msM.length cm) := (cell_of_row wr _ 3 _ _ _ HGS.out.box).trans rfl
      have z1 : wr.frozen? ⟨w3.heap.size, 1, none⟩ = false := frozen_of_row _ _ _ _ _ HGS.out.box
      have z2 : wr.frozen? ⟨w3.heap.size, 2, none⟩ = false := frozen_of_row _ _ _ _ _ HGS.out.box
      have lb := lt_of_heap HGS.out.box
      by_cases hlt : k < pre.length
      · obtain ⟨g, sx, cx, hsp, q0, q1, hu⟩ := HGS.out.mP.at_ hlt
        subst hsp
        have hfr := HFR.out k hlt
        obtain ⟨f, hf⟩ : ∃ f, f = (pre.getD k default).fr := ⟨_, rfl⟩
        obtain ⟨n, hn⟩ : ∃ n, n = (pre.getD k default).t.length := ⟨_, rfl⟩
        have HU : Hid (wr.ownsRow 0 3 1 (.slice sx n cx) (pre.getD k default).t.length ((pre.getD k default).t.map (Value.int .i64))) := Lib.hid (by rw [hn]; exact hu)
        rw [← hf] at q0 hfr
        rw [← hn] at q1
        have HF := Lib.hid hf
        have HN := Lib.hid hn
        clear hu hf hn
        have lg := World.block_lt_of_cell? _ _ q0
        have hk2 : (k : Int) < pre.length := by omega
        have hpl := HPLN.out
        rcases hfr with rfl | rfl
        · go_wp2_with fail
          go_roundg (pre.length - (k + 1))
          case measure => omega
          case rel => exact ⟨k + 1, _, _, by omega, by go_num, (HGS.out.step0 hlt HF.out.symm HU.out).keep ((Below.refl _ _).alloc (Nat.le_refl _) _)⟩
        · go_wp2_with fail
          go_roundg (pre.length - (k + 1))
          case measure => omega
          case rel => exact ⟨k + 1, _, _, by omega, by go_num, (HGS.out.step1 hlt HF.out.symm HU.out).keep ((Below.refl _ _).alloc (Nat.le_refl _) _)⟩
      · have hk2 : ¬ (k : Int) < pre.length := by omega
        obtain rfl : k = pre.length := by omega
        have r0 : wr.cell? ⟨w.heap.size, 0, none⟩ = some (.string ⟨#[]⟩) := (cell_of_row wr _ 0 _ _ _ HGS.out.res).trans rfl
        have r1 : wr.cell? ⟨w.heap.size, 1, none⟩ = some (.slice none 0 0) := (cell_of_row wr _ 1 _ _ _ HGS.out.res).trans rfl
        have r2 : wr.cell? ⟨w.heap.size, 2, none⟩ = some (.slice none 0 0) := (cell_of_row wr _ 2 _ _ _ HGS.out.res).trans rfl
        have r3 : wr.cell? ⟨w.heap.size, 3, none⟩ = some (.slice none 0 0) := (cell_of_row wr _ 3 _ _ _ HGS.out.res).trans rfl
        have y0 : wr.frozen? ⟨w.heap.size, 0, none⟩ = false := frozen_of_row _ _ _ _ _ HGS.out.res
        have y1 : wr.frozen? ⟨w.heap.size, 1, none⟩ = false := frozen_of_row _ _ _ _ _ HGS.out.res
        have y2 : wr.frozen? ⟨w.heap.size, 2, none⟩ = false := frozen_of_row _ _ _ _ _ HGS.out.res
        have y3 : wr.frozen? ⟨w.heap.size, 3, none⟩ = false := frozen_of_row _ _ _ _ _ HGS.out.res
        obtain ⟨t0, d0, hv0⟩ := own_slice HGS.out.o0
        obtain ⟨t1, d1, hv1⟩ := own_slice HGS.out.o1
        obtain ⟨n0, hn0⟩ : ∃ n, n = (gPre (pre.take pre.length) ([], [])).1.length := ⟨_, rfl⟩
        obtain ⟨n1, hn1⟩ : ∃ n, n = (gPre (pre.take pre.length) ([], [])).2.length := ⟨_, rfl⟩
        rw [← hn0] at hv0
        rw [← hn1] at hv1
        subst hv0 hv1
        clear hn0 hn1
        go_wp2_with fail
        refine bodyPost_ret (v := .agg #[.string nb, .slice t0 n0 d0, .slice t1 n1 d1, .slice sm msM.length cm]) (by simp [results, Tryd.results37, go_sem, r0, r1, r2, r3]) rfl ?_
        exact gs_end HG.out HGS.out (set4_only wr _ _ _ _ _) ((((HGS.out.bel.setCell (Nat.le_refl _) _).setCell (Nat.le_refl _) _).setCell (Nat.le_refl _) _).setCell (Nat.le_refl _) _)
end Go.Proofs.YtahbbojhdkillaaDoor
