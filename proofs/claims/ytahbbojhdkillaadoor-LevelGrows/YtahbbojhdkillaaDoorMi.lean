/- Layer 5: the walk of guessLines. -/
import Derived.Test.YtahbbojhdkillaaDoorMh
namespace Go.Proofs.YtahbbojhdkillaaDoor
open Go.RowKit Go.Shelf

/-- The cells of messages. -/
def msC : List Ms → List Value → List Value
  | m :: ms, v :: vs => .int .i64 m.fr :: v :: msC ms vs
  | _, _ => []
theorem msC_len : ∀ (ms : List Ms) (vs : List Value), vs.length = ms.length → (msC ms vs).length = ms.length * 2
  | [], [], _ => rfl
  | m :: ms, v :: vs, h => by
    have := msC_len ms vs (by simpa using h)
    simp only [msC, List.length_cons, this]; omega
theorem msC_snoc : ∀ (ms : List Ms) (vs : List Value) (m : Ms) (v : Value), vs.length = ms.length → msC (ms ++ [m]) (vs ++ [v]) = msC ms vs ++ [.int .i64 m.fr, v]
  | [], [], m, v, _ => rfl
  | a :: ms, u :: vs, m, v, h => by
    have := msC_snoc ms vs m v (by simpa using h)
    simp only [List.cons_append, msC, this]
theorem msC_at : ∀ (ms : List Ms) (vs : List Value) (i : Nat), vs.length = ms.length → i < ms.length → (msC ms vs)[i * 2]? = some (.int .i64 (ms.getD i default).fr) ∧ (msC ms vs)[i * 2 + 1]? = vs[i]?
  | [], _, i, _, h => by simp at h
  | m :: ms, v :: vs, 0, h, _ => by simp [msC]
  | m :: ms, v :: vs, i + 1, h, hi => by
    have := msC_at ms vs i (by simpa using h) (by simpa using hi)
    have e : (i + 1) * 2 = i * 2 + 2 := by omega
    rw [e]
    simpa [msC] using this
/-- Messages that lie in rows of the call's own. -/
def MsO (w : World) (B : Nat) (v : Value) (ms : List Ms) : Prop :=
  ∃ vs : List Value, vs.length = ms.length ∧ w.ownsRow B 68 2 v ms.length (msC ms vs) ∧ ∀ i u, vs[i]? = some u → w.ownsRow B 3 1 u (ms.getD i default).t.length ((ms.getD i default).t.map (Value.int .i64))
theorem own_apart {w : World} {B B' : Nat} {t t' : TypeId} {z z' n n' : Nat} {v v' : Value} {xs xs' : List Value} (h : w.ownsRow B t z v n xs) (h' : w.ownsRow B' t' z' v' n' xs') (hne : t ≠ t') : v.ownBlock = none ∨ v.ownBlock ≠ v'.ownBlock := by
  obtain ⟨_, ⟨rfl, _⟩ | ⟨g, cap, cur, rfl, _, hg, _⟩⟩ := h
  · exact .inl rfl
  · right
    obtain ⟨_, ⟨rfl, _⟩ | ⟨g', cap', cur', rfl, _, hg', _⟩⟩ := h'
    · intro e; cases e
    · intro e
      have e : g = g' := by simpa [Value.ownBlock] using e
      subst e
      rw [hg] at hg'
      simp at hg'
      exact hne hg'.2
theorem own_grown {w w' : World} {B : Nat} {t : TypeId} {z n : Nat} {v : Value} {xs : List Value} {r : Option Nat} (h : w.ownsRow B t z v n xs) (hg : w.grownBy w' r) (hr : v.ownBlock = none ∨ v.ownBlock ≠ r) : w'.ownsRow B t z v n xs := by
  obtain ⟨e, h'⟩ := h
  refine ⟨e, ?_⟩
  rcases h' with h' | ⟨g, cap, cur, rfl, hb, hgg, rest⟩
  · exact .inl h'
  · refine .inr ⟨g, cap, cur, rfl, hb, ?_, rest⟩
    rw [hg.block g (lt_of_heap hgg) (fun e => by
      rcases hr with h | h
      · cases h
      · exact h e)]
    exact hgg
theorem MsO.keep {w w' : World} {B : Nat} {v : Value} {ms : List Ms} (h : MsO w B v ms) (hb : Below w.heap.size w w') : MsO w' B v ms := by
  obtain ⟨vs, h1, h2, h3⟩ := h
  exact ⟨vs, h1, row_below h2 hb, fun i u hu => row_below (h3 i u hu) hb⟩
theorem MsO.step {X w4 : World} {B : Nat} {v v' u : Value} {ms : List Ms} {vs : List Value} {m : Ms} (h1 : vs.length = ms.length) (h2 : X.ownsRow B 68 2 v ms.length (msC ms vs)) (h3 : ∀ i u, vs[i]? = some u → X.ownsRow B 3 1 u (ms.getD i default).t.length ((ms.getD i default).t.map (Value.int .i64))) (hu : X.ownsRow B 3 1 u m.t.length (m.t.map (Value.int .i64)))
    (hg : X.grownBy w4 v.ownBlock) (hx : w4.ownsRow B 68 2 v' (ms.length + 1) (msC ms vs ++ [.int .i64 m.fr, u])) : MsO w4 B v' (ms ++ [m]) := by
  have hne : (3 : TypeId) ≠ 68 := by decide
  refine ⟨vs ++ [u], by simp [h1], ?_, fun i y hy => ?_⟩
  · rw [msC_snoc _ _ _ _ h1, List.length_append]; exact hx
  · rcases Nat.lt_or_ge i vs.length with hi | hi
    · rw [List.getElem?_append_left hi] at hy
      have h4 := h3 i y hy
      have e : (ms ++ [m]).getD i default = ms.getD i default := by
        rw [List.getD_eq_getElem?_getD, List.getD_eq_getElem?_getD, List.getElem?_append_left (by omega)]
      rw [e]
      exact own_grown h4 hg (own_apart h4 h2 hne)
    · have hiv : i = vs.length := by
        rcases Nat.lt_or_ge i (vs ++ [u]).length with h5 | h5
        · simp at h5; omega
        · rw [List.getElem?_eq_none h5] at hy; cases hy
      subst hiv
      have e : (ms ++ [m]).getD vs.length default = m := by
        rw [List.getD_eq_getElem?_getD, h1]; simp
      have ey : y = u := by simpa using hy.symm
      rw [e, ey]
      exact own_grown hu hg (own_apart hu h2 hne)
theorem MsO.msgs {w : World} {B : Nat} {v : Value} {ms : List Ms} (h : MsO w B v ms) : ∃ s c, v = .slice s ms.length c ∧ MsgsV w s ms ∧ ms.length ≤ c := by
  obtain ⟨vs, h1, ⟨_, ⟨rfl, h0⟩ | ⟨g, cap, cur, rfl, _, hg, hcap, _, _, htk⟩⟩, h3⟩ := h
  · exact ⟨none, 0, by rw [h0], fun h => by omega, by omega⟩
  · refine ⟨_, _, rfl, fun _ => ⟨g, 0, rfl, fun i hi => ?_⟩, hcap⟩
    obtain ⟨e1, e2⟩ := msC_at ms vs i h1 hi
    have cell : ∀ j, j < ms.length * 2 → w.cell? ⟨g, j, none⟩ = (msC ms vs)[j]? := fun j hj => by
      rw [cell_of_row w g j cur _ _ hg, ← htk, List.getElem?_take, if_pos hj, Array.getElem?_toList]
    obtain ⟨u, hu⟩ : ∃ u, vs[i]? = some u := ⟨vs[i], List.getElem?_eq_getElem (by omega)⟩
    obtain ⟨s, c, rfl, hi'⟩ := ints_own (h3 i u hu)
    refine ⟨?_, s, c, ?_, hi'⟩
    · rw [Nat.zero_add, cell _ (by omega)]; exact e1
    · rw [Nat.zero_add, cell _ (by omega), e2]; exact hu

theorem Tryd.infoM : (Tryd.prog.info? 68).map (fun i => (i.zero, i.size, i.bytes)) = some (some (.agg #[.int .i64 0, .slice none 0 0]), 2, 32) := by kernel_rfl
theorem gLines_cons {s : List UInt8} (h : s ≠ []) : gLines s = gLine (Lib.cut s [10]).1 :: gLines (Lib.cut s [10]).2.1 := by
  rw [gLines, dif_neg h]
theorem gLines_nil : gLines [] = [] := by rw [gLines]; rfl
theorem cut_fst (s sep : List UInt8) : (Lib.cut s sep).1.length ≤ s.length := by
  unfold Lib.cut
  split
  · simp only [List.length_take]; omega
  · exact Nat.le_refl _

set_option maxRecDepth 100000 in
set_option maxHeartbeats 4000000 in
theorem guessLines_any (s : ByteArray) (hs : s.size ≤ 65536) (w : World) (hE : En w) :
    Calls Tryd.prog 49 #[.string s] w fun e w' => ∃ v, e = .returned v ∧ MsO w' w.heap.size v (gLines s.data.toList) ∧ Below w.heap.size w w' := by
  obtain ⟨i0, hi0, hz0, hz1, hz2⟩ := info_parts Tryd.infoM
  have HE := Lib.hid hE; clear hE
  have HS := Lib.hid hs; clear hs
  go_enter Tryd.func49, Tryd.ntmps49
  go_wp2_with fail
  go_loopg [0, 3, 4] s.size (fun q u0 u3 _ wr => ∃ (r : ByteArray) (ms : List Ms), u0 = .string r ∧ Aside (r.size = q ∧ ms.length + q ≤ s.size ∧ gLines s.data.toList = ms ++ gLines r.data.toList ∧ MsO wr w.heap.size u3 ms ∧ Below w.heap.size w wr))
  case atStart => exact ⟨s, [], rfl, ⟨rfl, by simp, rfl, ⟨[], rfl, World.ownsRow_nil _ _ _ _, fun i u hu => by simp at hu⟩, Below.refl _ _⟩⟩
  case round =>
    obtain ⟨r, ms, rfl, hr⟩ := hrel
    have HR := Lib.hid hr.out
    clear hr
    by_cases hz : r.data.toList = []
    · obtain rfl : r = ⟨#[]⟩ := by
        obtain ⟨⟨l⟩⟩ := r
        simp at hz; subst hz; rfl
      go_wp2_with fail
      go_ret
      refine ⟨_, rfl, ?_, HR.out.2.2.2.2⟩
      have := HR.out.2.2.2.1
      rw [HR.out.2.2.1, gLines_nil, List.append_nil]
      exact this
    · have hne : (r.toList == []) = false := by rw [ByteArray.toList_eq]; simpa using hz
      obtain ⟨x, hx⟩ : ∃ x : ByteArray, x = ⟨(Lib.cut r.data.toList [10]).1.toArray⟩ := ⟨_, rfl⟩
      obtain ⟨y, hy⟩ : ∃ y : ByteArray, y = ⟨(Lib.cut r.data.toList [10]).2.1.toArray⟩ := ⟨_, rfl⟩
      obtain ⟨bb, hbb⟩ : ∃ b, b = (Lib.cut r.data.toList [10]).2.2 := ⟨_, rfl⟩
      have HCT := Lib.hid (cut_any r ⟨#[10]⟩ wr (by have := HR.out.1; have := HR.out.2.1; have := HS.out; omega) (HE.out.keep HR.out.2.2.2.2))
      simp only [← hx, ← hy, ← hbb] at HCT
      have HG : Hid (gLines r.data.toList = gLine x.data.toList :: gLines y.data.toList) := Lib.hid (by rw [gLines_cons hz, hx, hy])
      have HXL : Hid (x.size ≤ 65536) := Lib.hid (by
        rw [hx, arr_size]; have := cut_fst r.data.toList [10]; rw [← Lib.size_eq] at this; have := HR.out.1; have := HR.out.2.1; have := HS.out; omega)
      have HYL : Hid (y.size < r.size) := Lib.hid (by
        rw [hy, arr_size, Lib.size_eq]; exact cut_le _ hz)
      clear hz hx hy hbb
      obtain ⟨sp, cp, hsp, _⟩ := HR.out.2.2.2.1.msgs
      subst hsp
      obtain ⟨vs, hv1, hv2, hv3⟩ := HR.out.2.2.2.1
      have HV := Lib.hid (And.intro hv1 (And.intro hv2 hv3))
      clear hv1 hv2 hv3
      go_wp2_with (first
        | (go_at_call 48; refine HCT.out.mono ?_; rintro e w2 ⟨rfl, hb2⟩; have HB2 := Lib.hid hb2; clear hb2)
        | (go_at_call 61; refine (guessLine_any x HXL.out _ (HE.out.keep (HR.out.2.2.2.2.trans (HB2.out.mono HR.out.2.2.2.2.size)))).mono ?_; rintro e w3 ⟨u, rfl, hu, hb3⟩; obtain ⟨us, uc, hus⟩ := own_slice hu; subst hus; have HU := Lib.hid hu; have HB3 := Lib.hid (HB2.out.trans (hb3.mono HB2.out.size)); clear hu hb3)
        | (at_builtin; refine wpList_append_own _ rfl _ _ 27 rfl w.heap.size 68 i0 (.agg #[.int .i64 0, .slice none 0 0]) 2 32 Tryd.underlying27 hi0 hz0 hz1 hz2 rfl (by decide) _ _ _ rfl (World.ownsRow.alloc (row_below HV.out.2.1 HB3.out) _) ⟨w3.heap.size, 0, none⟩ 1 1 [.int .i64 (gLine x.data.toList).fr, .slice us (gLine x.data.toList).t.length uc] rfl rfl ?c1 ?c2 ?c3 ?c4 ?c5 ?_))
      case c1 =>
        intro j u hj
        match j, hj with
        | 0, hj => simp at hj; subst hj; simp [Addr.add]
        | 1, hj => simp at hj; subst hj; simp [Addr.add]
      case c2 => intro u hu; simp at hu; rcases hu with rfl | rfl <;> rfl
      case c3 => have := HS.out; have := HR.out.2.1; unfold maxLen; omega
      case c4 => have := HS.out; have := HR.out.2.1; omega
      case c5 => have := HB3.out.size; have := HR.out.2.2.2.2.size; simp; omega
      intro v4 w4 hown4 hgr4 _
      have HN : Hid (MsO w4 w.heap.size v4 (ms ++ [gLine x.data.toList]) ∧ Below w.heap.size w w4) := Lib.hid (by
        refine ⟨MsO.step HV.out.1 (World.ownsRow.alloc (row_below HV.out.2.1 HB3.out) _) (fun i u hu => World.ownsRow.alloc (row_below (HV.out.2.2 i u hu) HB3.out) _) (World.ownsRow.alloc (own_less HU.out (by have := HB2.out.size; have := HR.out.2.2.2.2.size; omega)) _) hgr4 hown4, ?_⟩
        have h2 := HR.out.2.2.2.2.trans (HB3.out.mono HR.out.2.2.2.2.size)
        exact (h2.alloc h2.size _).grown hgr4 (by have := h2.size; simp; omega) (fun k e => (HV.out.2.1.lt k e).1))
      clear hown4 hgr4
      go_wp2_with fail
      go_roundg y.size
      case measure => have := HYL.out; have := HR.out.1; omega
      case rel =>
        refine ⟨y, ms ++ [gLine x.data.toList], rfl, (show _ ∧ _ from ⟨rfl, ?_, ?_, HN.out.1, HN.out.2⟩)⟩
        · have := HYL.out; have := HR.out.1; have := HR.out.2.1; simp; omega
        · rw [HR.out.2.2.1, HG.out]; simp
end Go.Proofs.YtahbbojhdkillaaDoor
