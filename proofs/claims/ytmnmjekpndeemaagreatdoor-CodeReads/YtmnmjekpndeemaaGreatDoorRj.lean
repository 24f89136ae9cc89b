/- The walk of a text's term in an arena of its own (parse). -/
import Derived.Test.YtmnmjekpndeemaaGreatDoorRi
namespace Go.Proofs.YtmnmjekpndeemaaGreatDoor
open Go.RowKit Go.Maps Go.Shelf

theorem bytes_eq {a b : ByteArray} (h : a.toList = b.toList) : a = b := by
  have e : ∀ c : ByteArray, c.toList = c.data.toList := fun c => by obtain ⟨⟨l⟩⟩ := c; simp
  rw [e, e] at h
  obtain ⟨⟨l⟩⟩ := a
  obtain ⟨⟨m⟩⟩ := b
  simp at h
  rw [h]
/-- What parse hands back. -/
def PPost (s : List UInt8) (w : World) (e : Ending) (w' : World) : Prop :=
  Below w.heap.size w w' ∧ ((∃ own ref b g bm cap, pars s = some (own, ref) ∧ e = .returned (.tuple #[.pointer (some ⟨b, 0, none⟩), .int .i64 ref, .bool true]) ∧ Ar w' b g bm cap 65536 own ∧ w.heap.size ≤ b ∧ w.heap.size ≤ g ∧ w.heap.size ≤ bm ∧ hasB own.length ref = true) ∨
    (pars s = none ∧ ∃ v r, e = .returned (.tuple #[v, .int .i64 r, .bool false])))

theorem trim_len (s : List UInt8) : (Lib.trimSuffix s [59]).length ≤ s.length := by
  unfold Lib.trimSuffix
  split
  · simp
  · exact Nat.le_refl _

theorem mkR_ok {lim : Nat} {L : List Nd} {d : Nd} (_hw : WF L) (_hok : d.ok) (hl : L.length ≤ lim) (hm : lim ≤ 65536) : 0 ≤ mkR lim L d ∧ mkR lim L d ≤ 65536 := by
  unfold mkR
  split
  · cases h : ix d L with
    | some i => have := (ix_some h).1; simp only; omega
    | none => simp only; split <;> omega
  · omega

/-- A row is made. -/
theorem stp_step {own : List Nd} {refs : List Int} {row : List UInt8} {d : Nd} (h : (pall (spl 32 row)).bind (prow refs) = some d) (he : mkE 65536 own d = 0) : stp (some (own, refs)) row = some (mkL 65536 own d, refs ++ [mkR 65536 own d]) := by
  unfold stp
  obtain ⟨ns, h1, h2⟩ := Option.bind_eq_some_iff.1 h
  simp [h1, stn, h2, he]
theorem stp_bad {own : List Nd} {refs : List Int} {row : List UInt8} (h : (pall (spl 32 row)).bind (prow refs) = none) : stp (some (own, refs)) row = none := by
  unfold stp
  simp only [Option.bind_some]
  cases h1 : pall (spl 32 row) with
  | none => rfl
  | some ns =>
    rw [h1] at h
    simp only [Option.bind_some] at h ⊢
    simp [stn, h]
theorem stp_err {own : List Nd} {refs : List Int} {row : List UInt8} {d : Nd} (h : (pall (spl 32 row)).bind (prow refs) = some d) (he : mkE 65536 own d ≠ 0) : stp (some (own, refs)) row = none := by
  unfold stp
  obtain ⟨ns, h1, h2⟩ := Option.bind_eq_some_iff.1 h
  simp [h1, stn, h2, he]
theorem prow_node {refs : List Int} (hr : ∀ x ∈ refs, 0 ≤ x ∧ x ≤ 65536) {ns : List Nat} (hn : ∀ x ∈ ns, x < 18446744073709551616) {d : Nd} (h : prow refs ns = some d) : d.ok ∧ 0 ≤ many d.k := by
  match ns, h with
  | [], h => simp [prow] at h
  | [_], h => simp [prow] at h
  | k :: n :: is, h =>
    rw [prow_cons] at h
    split at h
    · rename_i hc
      obtain rfl := Option.some.inj h
      have hg : ∀ j, 0 ≤ (is.map (refs.getD · 0)).getD j 0 ∧ (is.map (refs.getD · 0)).getD j 0 ≤ 65536 := fun j => by
        rw [List.getD_eq_getElem?_getD, List.getElem?_map]
        cases hj : is[j]? with
        | none => simp
        | some i =>
          simp only [Option.map_some, Option.getD_some]
          have hi := hc.2 i (List.mem_of_getElem? hj)
          rw [List.getD_eq_getElem?_getD, List.getElem?_eq_getElem hi]
          exact hr _ (List.getElem_mem _)
      have h0 := hg 0
      have h1 := hg 1
      have h2 := hg 2
      have hn' := hn n (by simp)
      refine ⟨⟨?_, ?_, ?_, ?_, ?_⟩, ?_⟩ <;> (try unfold i64ok) <;> (try unfold u64ok) <;> simp only <;> omega
    · cases h

section
variable {w w' : World} {b g bm cap lim : Nat} {L : List Nd}
theorem Kept.cells (hA : Ar w b g bm cap lim L) (hk : Kept w w' b g bm) {k : Nat} {u : Array Value} {t : TypeId} {z : Nat × Nat} (h : w.heap[k]? = some (.cells u t z)) (h1 : t ≠ 62) (h2 : t ≠ 44) : w'.heap[k]? = some (.cells u t z) := by
  rw [hk.block k (lt_of_heap h) ?_ ?_ ?_]
  · exact h
  · rintro rfl
    rw [hA.box] at h
    simp only [Option.some.injEq, Obj.cells.injEq] at h
    exact h1 h.2.1.symm
  · rintro rfl
    obtain ⟨c, fz, hc⟩ := Lib.ownsRow_kind hA.own k rfl
    rw [hc] at h
    simp only [Option.some.injEq, Obj.cells.injEq] at h
    exact h2 h.2.1.symm
  · rintro rfl
    obtain ⟨D, ⟨es, c, hb, _⟩, _⟩ := hA.reg
    rw [hb] at h; cases h
theorem Kept.row (hA : Ar w b g bm cap lim L) (hk : Kept w w' b g bm) {B n : Nat} {v : Value} {xs : List Value} (h : w.ownsRow B 3 1 v n xs) : w'.ownsRow B 3 1 v n xs := by
  obtain ⟨e, h'⟩ := h
  refine ⟨e, ?_⟩
  rcases h' with h' | ⟨g', cap', cur, hv, hb, hg, rest⟩
  · exact .inl h'
  · exact .inr ⟨g', cap', cur, hv, hb, Kept.cells hA hk hg (by decide) (by decide), rest⟩
end
theorem hasB_mono {n m : Nat} (h : n ≤ m) {x : Int} (hx : hasB n x = true) : hasB m x = true := by
  have := hasB_iff.1 hx
  exact hasB_iff.2 ⟨by omega, by omega⟩
theorem getLastD_eq (l : List Int) (_h : 0 < l.length) : l.getLastD 0 = l.getD (l.length - 1) 0 := by
  rw [List.getLastD_eq_getLast?, List.getLast?_eq_getElem?, List.getD_eq_getElem?_getD]

/-- An int is appended to a row of the call's own: an arena does not notice. -/
theorem cells_grown {w w' : World} {k B n : Nat} {u : Array Value} {t : TypeId} {v : Value} {xs : List Value} (h : w.heap[k]? = some (.cells u t (0, 0))) (ht : t ≠ 3) (ho : w.ownsRow B 3 1 v n xs) (hg : w.grownBy w' v.ownBlock) : w'.heap[k]? = some (.cells u t (0, 0)) := by
  rw [hg.block k (lt_of_heap h) ?_]; exact h
  intro e
  obtain ⟨c, fz, hc⟩ := Lib.ownsRow_kind ho k e.symm
  rw [h] at hc
  simp only [Option.some.injEq, Obj.cells.injEq] at hc
  exact ht hc.2.1
theorem st_grown {w wi w' : World} {b g bm cap lim n : Nat} {L : List Nd} {v : Value} {xs : List Value} (h : St w wi b g bm cap lim L) (ho : wi.ownsRow w.heap.size 3 1 v n xs) (hg : wi.grownBy w' v.ownBlock) : St w w' b g bm cap lim L := by
  have hk := Lib.ownsRow_kind ho
  refine ⟨h.ar.keep ?_ ?_ ?_, h.bel.grown hg h.bel.size (fun k e => (ho.lt k e).1), h.hb, h.hg, h.hm⟩
  · exact (cells_grown h.ar.box (by decide) ho hg).trans h.ar.box.symm
  · refine hg.block g h.ar.glt (fun e => ?_)
    obtain ⟨c, fz, hc⟩ := hk g e.symm
    obtain ⟨c', fz', hc'⟩ := Lib.ownsRow_kind h.ar.own g rfl
    rw [hc] at hc'
    simp at hc'
  · refine hg.block bm h.ar.mlt (fun e => ?_)
    obtain ⟨c, fz, hc⟩ := hk bm e.symm
    obtain ⟨D, ⟨es, cl, hb, _⟩, _⟩ := h.ar.reg
    rw [hc] at hb; cases hb

set_option maxRecDepth 100000 in
set_option maxHeartbeats 1000000 in
theorem parse_any (s : ByteArray) (w : World) (hE : Env w) (hm : s.size ≤ maxLen) :
    Calls Tryz.prog 17 #[.string s] w (PPost s.data.toList w) := by
  by_cases hs : 16384 < s.size
  · have HP : Hid (PPost s.data.toList w (.returned (.tuple #[.pointer none, .int .i64 0, .bool false])) w) := Lib.hid ⟨Below.refl _ _, .inr ⟨by unfold pars; rw [if_pos (by rw [← Lib.size_eq]; exact hs)], _, _, rfl⟩⟩
    have hs' : (16384 : Int) < (s.size : Int) := by omega
    unfold maxLen at hm
    clear hE
    go_enter Tryz.func17, Tryz.ntmps17
    go_wp2_with fail
    go_ret3
    exact HP.out
  · have hs1 : ¬ (16384 : Int) < (s.size : Int) := by omega
    have hs2 : decide ((16384 : Int) < (s.size : Int)) = false := by simpa using hs1
    have HNEW := Lib.hid (new_any 65536 w)
    have HE := Lib.hid hE; clear hE
    unfold maxLen at hm
    obtain ⟨i0, hi0, hz0, hz1, hz2⟩ := info_parts Tryz.info3
    go_enter Tryz.func17, Tryz.ntmps17
    go_wp2_with (first
      | (go_at_call 10; refine HNEW.out.mono ?_; rintro e w1 ⟨b, g0, bm, rfl, hA1, hb1, hg1, hm1, hbel1⟩)
      | (go_at_call 32; refine (trim_any s (by omega) _).mono ?_; rintro e w1' ⟨rfl, hw⟩; rw [hw]; clear hw)
      | (go_at_call 31; refine (split_any 59 ⟨(Lib.trimSuffix s.data.toList [59]).toArray⟩ (by have := trim_len s.data.toList; rw [← Lib.size_eq] at this; simp [ByteArray.size]; omega) w1 (HE.out.below hbel1)).mono ?_; rintro e w2 ⟨P, HP, rfl, hw2⟩; have HW2 := Lib.hid hw2; clear hw2))
    have hw2 := HW2.out
    have hpb : w1.heap.size < w2.heap.size := by rw [hw2]; simp
    have HFL : Hid (w2.heap[w1.heap.size]? = some (.cells (P.map Value.string).toArray 9 (0, 0))) := Lib.hid (by rw [hw2]; exact heap_alloc_new w1 _)
    have hbel2 : Below w1.heap.size w1 w2 := by rw [hw2]; exact (Below.refl _ _).alloc (Nat.le_refl _) _
    have HST : Hid (St w w2 b g0 bm 1 65536 [zN]) := Lib.hid (St.keep ⟨hA1, hbel1, hb1, hg1, hm1⟩ hbel2)
    have HPL : Hid (∀ x ∈ P, x.size ≤ 16384) := Lib.hid (fun x hx => by
      have h := spl_mem (c := 59) (l := Lib.trimSuffix s.data.toList [59]) (p := x.data.toList) (by rw [← HP]; exact List.mem_map.2 ⟨x, hx, rfl⟩)
      have h2 := trim_len s.data.toList
      rw [← Lib.size_eq] at h h2; omega)
    have hpl : P.length ≤ 16385 := by
      have h := congrArg List.length HP
      have h2 := trim_len s.data.toList
      have h3 := spl_len 59 (Lib.trimSuffix s.data.toList [59])
      rw [List.length_map] at h
      rw [← Lib.size_eq] at h2
      omega
    have hpp : 0 < P.length := by
      have h := congrArg List.length HP
      rw [List.length_map] at h
      have := List.length_pos_iff.2 (spl_ne 59 (Lib.trimSuffix s.data.toList [59]))
      omega
    obtain ⟨tot, htot⟩ : ∃ t, t = (P.map (·.data.toList)).foldl stp (some ([zN], [])) := ⟨_, rfl⟩
    have HPR : Hid (pars s.data.toList = tot.bind fun st => if txt st.1 (st.2.getLastD 0) = s.data.toList then some (st.1, st.2.getLastD 0) else none) := Lib.hid (by
      unfold pars
      rw [if_neg (by rw [← Lib.size_eq]; exact hs), htot, HP])
    have HTOT := Lib.hid htot
    obtain ⟨pb, hpbe⟩ : ∃ pb, pb = w1.heap.size := ⟨_, rfl⟩
    rw [← hpbe] at hpb HFL
    rw [← hpbe]
    clear htot HP hw2 HW2 hbel2 hA1 hbel1 hb1 hg1 hm1 hpbe HNEW
    go_loopg [6, 8, 9, 10, 11, 12, 22] P.length (fun q u6 _ _ _ _ _ u22 wr => ∃ (k : Nat) (own : List Nd) (refs : List Int) (g cap : Nat), k + q = P.length ∧ u22 = .int .i64 k ∧ ((P.map (·.data.toList)).drop k).foldl stp (some (own, refs)) = tot ∧ St w wr b g bm cap 65536 own ∧ wr.ownsRow w.heap.size 3 1 u6 refs.length (refs.map (Value.int .i64)) ∧ refs.length = k ∧ (∀ x ∈ refs, hasB own.length x = true) ∧ wr.heap[pb]? = some (.cells (P.map Value.string).toArray 9 (0, 0)))
    case atStart => exact ⟨0, [zN], [], g0, 1, by omega, rfl, HTOT.out.symm, HST.out, World.ownsRow_nil _ _ _ _, rfl, by simp, HFL.out⟩
    case round =>
      obtain ⟨k, own, refs, g, cap, hkq, rfl, htot, hst, hown, hrk, hrh, hfl⟩ := hrel
      obtain ⟨sp, cp, rfl⟩ := own_slice hown
      have hsm := hst.ar.small
      have hpbl := lt_of_heap hfl
      by_cases hlt : k < P.length
      · obtain ⟨x, hx⟩ : ∃ x, P[k] = x := ⟨_, rfl⟩
        have hxs := HPL.out P[k] (List.getElem_mem hlt)
        rw [hx] at hxs
        have cF : wr.cell? ⟨pb, k, none⟩ = some (.string x) := by
          rw [cell_of_row wr _ k _ _ _ hfl]
          simp [hlt, hx]
        have hdr : ((P.map (·.data.toList)).drop (k + 1)).foldl stp (stp (some (own, refs)) x.data.toList) = tot := by
          have e := List.drop_eq_getElem_cons (l := P.map (·.data.toList)) (i := k) (by simpa using hlt)
          rw [e] at htot
          simpa [hx] using htot
        have HPRW := Lib.hid (parseRow_any x (by omega) refs (by omega) _ w.heap.size wr (HE.out.below hst.bel) hown)
        cases hpr : (pall (spl 32 x.data.toList)).bind (prow refs) with
        | none =>
          rw [hpr] at HPRW
          rw [stp_bad hpr, stp_none] at hdr
          have HFP : Hid (∀ w', Below w.heap.size w w' → PPost s.data.toList w (.returned (.tuple #[.pointer none, .int .i64 0, .bool false])) w') := Lib.hid (fun w' hb => ⟨hb, .inr ⟨by rw [HPR.out, ← hdr]; rfl, _, _, rfl⟩⟩)
          have HBW : Hid (∀ w3, Below wr.heap.size wr w3 → Below w.heap.size w w3) := Lib.hid (fun w3 h => hst.bel.trans (h.mono hst.bel.size))
          clear htot hst hown hrk hrh hfl hdr hpr hx
          go_wp2_with (go_at_call 33; refine HPRW.out.mono ?_; rintro e w3 ⟨rfl, hb3⟩; unfold rowV agg zN)
          go_ret3
          exact HFP.out _ ((HBW.out _ hb3).alloc (HBW.out _ hb3).size _)
        | some d =>
          obtain ⟨ns, hp1, hp2⟩ := Option.bind_eq_some_iff.1 hpr
          obtain ⟨hok, hmk⟩ := prow_node (fun x hx => by have := hasB_iff.1 (hrh x hx); omega) (pall_lt hp1) hp2
          rw [hpr] at HPRW
          have HMK0 : Hid (∀ w3 o, Below wr.heap.size wr w3 → ∀ k1 n1 a1 b1 c1, d = ⟨k1, n1, a1, b1, c1⟩ → Calls Tryz.prog 14 #[.pointer (some ⟨b, 0, none⟩), .agg #[.int .i64 k1, .int .u64 n1, .int .i64 a1, .int .i64 b1, .int .i64 c1]] (w3.alloc o) (MkPost b g bm 65536 own d (w3.alloc o))) := Lib.hid (fun w3 o h k1 n1 a1 b1 c1 hd => by
            subst hd
            have h2 := hst.keep (h.alloc h.size o)
            exact mk_any b g bm cap 65536 own k1 n1 a1 b1 c1 (w3.alloc o) h2.ar (h2.shp HE.out.shp) hok)
          have HSK : Hid (∀ w3 o, Below wr.heap.size wr w3 → St w (w3.alloc o) b g bm cap 65536 own) := Lib.hid (fun w3 o h => hst.keep (h.alloc h.size o))
          have HRW : Hid (∀ w3 o w4, Below wr.heap.size wr w3 → Kept (w3.alloc o) w4 b g bm → w4.ownsRow w.heap.size 3 1 (.slice sp refs.length cp) refs.length (refs.map (Value.int .i64)) ∧ w4.heap[pb]? = some (.cells (P.map Value.string).toArray 9 (0, 0))) := Lib.hid (fun w3 o w4 h hk => by
            have h2 := h.alloc h.size o
            have hA := (hst.keep h2).ar
            exact ⟨Kept.row hA hk (row_below hown h2), Kept.cells hA hk ((h2.block _ (lt_of_heap hfl)).trans hfl) (by decide) (by decide)⟩)
          obtain ⟨k1, n1, a1, b1, c1⟩ := d
          by_cases he : mkE 65536 own ⟨k1, n1, a1, b1, c1⟩ = 0
          · rw [stp_step hpr he] at hdr
            obtain ⟨_, im, him1, him2, _⟩ := mk_at hst.ar.wf hok he
            have hln := mk_len (d := ⟨k1, n1, a1, b1, c1⟩) hst.ar.len
            have HNX : Hid (∀ x ∈ refs ++ [mkR 65536 own ⟨k1, n1, a1, b1, c1⟩], hasB (mkL 65536 own ⟨k1, n1, a1, b1, c1⟩).length x = true) := Lib.hid (fun x hx => by
              simp only [List.mem_append, List.mem_singleton] at hx
              rcases hx with hx | rfl
              · exact hasB_mono hln.1 (hrh x hx)
              · rw [him1]; exact hasB_iff.2 ⟨by omega, by omega⟩)
            have HDR := Lib.hid hdr
            have HE0 := Lib.hid he
            have HRK := Lib.hid hrk
            have hrl : refs.length ≤ 16385 := by omega
            clear htot hst hown hrk hrh hfl hdr hpr hx hp1 hp2 hok hmk he him1 him2 hln
            go_wp2_with (first
              | (go_at_call 33; refine HPRW.out.mono ?_; rintro e w3 ⟨rfl, hb3⟩; unfold rowV agg; simp only)
              | (go_at_call 14; refine (HMK0.out w3 _ hb3 k1 n1 a1 b1 c1 rfl).mono ?_; rintro e w4 ⟨g', cap', rfl, hA4, hg4, hk4⟩; rw [HE0.out]; have hrw := (HRW.out w3 _ w4 hb3 hk4).1)
              | (at_builtin; refine wpList_append_own _ rfl _ _ 56 rfl w.heap.size 3 i0 (.int .i64 0) 1 8 Tryz.underlying56 hi0 hz0 hz1 hz2 rfl (by decide) _ _ _ rfl (World.ownsRow.alloc hrw _) ⟨w4.heap.size, 0, none⟩ 1 1 [.int .i64 (mkR 65536 own ⟨k1, n1, a1, b1, c1⟩)] rfl rfl ?c1 ?c2 ?c3 ?c4 ?c5 ?_))
            case c1 =>
              intro j u hj
              match j, hj with
              | 0, hj => simp at hj; subst hj; simp [Addr.add]
            case c2 => intro u hu; simp at hu; subst hu; rfl
            case c3 => unfold maxLen; omega
            case c4 => omega
            case c5 => have h1 := (HSK.out w3 (.cells #[.int .i64 k1, .int .u64 n1, .int .i64 a1, .int .i64 b1, .int .i64 c1] 44) hb3).bel.size; have h2 := hk4.size; simp at h1 h2 ⊢; omega
            intro v5 w5 hown5 hgr5 _
            obtain ⟨hrw4, hfl4⟩ := HRW.out w3 _ w4 hb3 hk4
            have hst4 := (HSK.out w3 _ hb3).step hA4 hg4 hk4
            have hX : Below w4.heap.size w4 (w4.alloc (.cells #[.int .i64 (mkR 65536 own ⟨k1, n1, a1, b1, c1⟩)] 3)) := (Below.refl _ _).alloc (Nat.le_refl _) _
            have hst5 := st_grown (hst4.keep hX) (row_below hrw4 hX) hgr5
            have hfl5 : w5.heap[pb]? = some (.cells (P.map Value.string).toArray 9 (0, 0)) := cells_grown ((hX.block _ (lt_of_heap hfl4)).trans hfl4) (by decide) (row_below hrw4 hX) hgr5
            have HS5 := Lib.hid hst5
            have HF5 := Lib.hid hfl5
            have HO5 := Lib.hid hown5
            clear hown5 hgr5 hrw4 hfl4 hst4 hX hst5 hfl5 hrw hA4 hg4 hk4
            go_wp2_with fail
            go_roundg (P.length - (k + 1))
            case rel => exact ⟨k + 1, _, _, g', cap', by omega, by simp, HDR.out, HS5.out, by simpa using HO5.out, by have := HRK.out; simp; omega, HNX.out, HF5.out⟩
            case measure => omega
          · rw [stp_err hpr he, stp_none] at hdr
            have HFP : Hid (∀ w', Below w.heap.size w w' → PPost s.data.toList w (.returned (.tuple #[.pointer none, .int .i64 0, .bool false])) w') := Lib.hid (fun w' hb => ⟨hb, .inr ⟨by rw [HPR.out, ← hdr]; rfl, _, _, rfl⟩⟩)
            have he' : (mkE 65536 own ⟨k1, n1, a1, b1, c1⟩ != 0) = true := by simpa using he
            obtain ⟨ee, hee⟩ : ∃ ee, ee = mkE 65536 own ⟨k1, n1, a1, b1, c1⟩ := ⟨_, rfl⟩
            have HEE := Lib.hid hee
            rw [← hee] at he he'
            clear htot hst hown hrk hrh hfl hdr hpr hx hp1 hp2 hok hmk hee
            go_wp2_with (first
              | (go_at_call 33; refine HPRW.out.mono ?_; rintro e w3 ⟨rfl, hb3⟩; unfold rowV agg; simp only)
              | (go_at_call 14; refine (HMK0.out w3 _ hb3 k1 n1 a1 b1 c1 rfl).mono ?_; rintro e w4 ⟨g', cap', rfl, hA4, hg4, hk4⟩; rw [← HEE.out]))
            all_goals
              go_ret3
              exact HFP.out _ ((HSK.out w3 _ hb3).step hA4 hg4 hk4).bel
      · obtain rfl : k = P.length := by omega
        have htot' : some (own, refs) = tot := by
          rw [← htot, List.drop_of_length_le (by simp)]; rfl
        obtain ⟨m, hm'⟩ : ∃ m, refs.length = m + 1 := ⟨refs.length - 1, by omega⟩
        obtain ⟨gr, rfl⟩ : ∃ gr, sp = some ⟨gr, 0, none⟩ := by
          rcases hown.2 with ⟨h1, h2⟩ | ⟨gr, _, _, h1, _⟩
          · omega
          · exact ⟨gr, by injection h1⟩
        obtain ⟨ref, href⟩ : ∃ r, r = refs.getLastD 0 := ⟨_, rfl⟩
        have hgd : ref = refs.getD m 0 := by rw [href, getLastD_eq refs (by omega), hm']; simp
        have cL : wr.cell? ⟨gr, m, none⟩ = some (.int .i64 ref) := by
          rw [hown.cellAt m (by omega), hgd]
          simp [List.getD, List.getElem?_eq_getElem (show m < refs.length by omega)]
        have hrf : hasB own.length ref = true := by
          rw [hgd, List.getD_eq_getElem?_getD, List.getElem?_eq_getElem (show m < refs.length by omega)]
          exact hrh _ (List.getElem_mem _)
        have HWR := Lib.hid (write_any (L := own) ref (by have := hasB_iff.1 hrf; unfold i64ok; omega) wr (HE.out.below hst.bel) hst.ar)
        have HPR2 : Hid (pars s.data.toList = if txt own ref = s.data.toList then some (own, ref) else none) := Lib.hid (by rw [HPR.out, ← htot', href]; rfl)
        have HSK : Hid (∀ w', Below wr.heap.size wr w' → St w w' b g bm cap 65536 own) := Lib.hid (fun w' h => hst.keep h)
        have HRF := Lib.hid hrf
        have hgl := World.block_lt_of_cell? wr ⟨gr, m, none⟩ cL
        have hml : m + 1 ≤ 65536 := by omega
        rw [hm']
        by_cases htx : txt own ref = s.data.toList
        · have hts : (⟨(txt own ref).toArray⟩ : ByteArray) = s := by rw [htx]
          rw [hts] at HWR
          have HFP : Hid (∀ w', Below wr.heap.size wr w' → PPost s.data.toList w (.returned (.tuple #[.pointer (some ⟨b, 0, none⟩), .int .i64 ref, .bool true])) w') := Lib.hid (fun w' h => by
            have h2 := HSK.out w' h
            exact ⟨h2.bel, .inl ⟨own, ref, b, g, bm, cap, by rw [HPR2.out, if_pos htx], rfl, h2.ar, h2.hb, h2.hg, h2.hm, hrf⟩⟩)
          clear htot htot' hst hown hrk hrh hfl hm' href hgd hrf hts htx
          go_wp2_with (go_at_call 11; refine HWR.out.mono ?_; rintro e w3 ⟨rfl, hb3⟩)
          go_ret3
          exact HFP.out _ hb3
        · have hts : (⟨(txt own ref).toArray⟩ : ByteArray) ≠ s := fun e => htx (by rw [← e])
          have HFP : Hid (∀ w', Below wr.heap.size wr w' → PPost s.data.toList w (.returned (.tuple #[.pointer (some ⟨b, 0, none⟩), .int .i64 ref, .bool false])) w') := Lib.hid (fun w' h => by
            have h2 := HSK.out w' h
            exact ⟨h2.bel, .inr ⟨by rw [HPR2.out, if_neg htx], _, _, rfl⟩⟩)
          obtain ⟨ts, hts'⟩ : ∃ ts : ByteArray, ts = ⟨(txt own ref).toArray⟩ := ⟨_, rfl⟩
          rw [← hts'] at HWR hts
          have hbe : (ts.toList == s.toList) = false := by
            rw [beq_eq_false_iff_ne]
            exact fun e => hts (bytes_eq e)
          clear htot htot' hst hown hrk hrh hfl hm' href hgd hrf htx hts'
          go_wp2_with (go_at_call 11; refine HWR.out.mono ?_; rintro e w3 ⟨rfl, hb3⟩)
          go_ret3
          exact HFP.out _ hb3
end Go.Proofs.YtmnmjekpndeemaaGreatDoor
