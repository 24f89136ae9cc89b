/- The walk of the document's own answer for layer 2: a row's words (words). -/
import Derived.Test.YtmnmjekpndeemaaGreatDoorUe
import Derived.Deep.AppendLies
namespace Go.Proofs.YtmnmjekpndeemaaGreatDoor
open Go.RowKit Go.Maps

theorem Tryz.info9 : (Tryz.prog.info? 9).map (fun i => (i.zero, i.size, i.bytes)) = some (some (.string ByteArray.empty), 1, 16) := by kernel_rfl

theorem own_set {w : World} {B g n cap : Nat} {e : TypeId} {xs : List Value} (h : w.ownsRow B e 1 (.slice (some ⟨g, 0, none⟩) n cap) n xs) {j : Nat} (hj : j < n) (u : Value) : (w.setCell ⟨g, j, none⟩ u).ownsRow B e 1 (.slice (some ⟨g, 0, none⟩) n cap) n (xs.set j u) := by
  obtain ⟨hl, h⟩ := h
  refine ⟨by simpa using hl, ?_⟩
  rcases h with ⟨h1, _⟩ | ⟨g', cap', cur, h1, h2, h3, h4, h5, h6, h7⟩
  · cases h1
  · simp only [Value.slice.injEq, Option.some.injEq, Addr.mk.injEq, and_true, true_and] at h1
    obtain ⟨rfl, rfl⟩ := h1
    refine .inr ⟨g, cap, cur.set! j u, rfl, h2, ?_, h4, h5, by simpa using h6, ?_⟩
    · simp only [World.setCell, Array.getElem?_modify, if_true, h3]
      rfl
    · rw [← h7]
      simp [Array.set!, List.take_set]

theorem ext_byte {s : ByteArray} {k : Nat} (h : k < s.size) : (s.extract k (k + 1)).data.toList = [s[k]] := by
  have h' : k < s.data.toList.length := by rw [← Lib.size_eq]; exact h
  rw [ByteArray.data_extract, Array.toList_extract, List.extract_eq_take_drop]
  rw [show k + 1 - k = 1 by omega, List.drop_eq_getElem_cons h']
  rfl

/-- Words in a row of their own. -/
structure Wd (w0 w : World) (v : Value) (P : List ByteArray) (l : List UInt8) : Prop where
  bel : Below w0.heap.size w0 w
  own : w.ownsRow w0.heap.size 9 1 v P.length (P.map Value.string)
  is : P.map (·.data.toList) = spl 32 l

set_option maxRecDepth 100000 in
set_option maxHeartbeats 1000000 in
theorem words_any (s : ByteArray) (hs : s.size ≤ 16384) (w : World) :
    Calls Tryz.prog 37 #[.string s] w fun e w' => ∃ v P, e = .returned v ∧ Wd w w' v P s.data.toList := by
  go_enter Tryz.func37, Tryz.ntmps37
  go_wp2_with fail
  go_loopg [3, 4] (s.size + 1) (fun q u3 u4 wr => ∃ (k : Nat) (P : List ByteArray), k + q = s.size + 1 ∧ k ≤ s.size ∧ u4 = .int .i64 k ∧ Wd w wr u3 P (s.data.toList.take k))
  case atStart =>
    refine ⟨0, [⟨#[]⟩], by omega, by omega, rfl, (Below.refl _ _).alloc (Nat.le_refl _) _, ?_, by simp [spl]⟩
    exact ⟨rfl, .inr ⟨w.heap.size, 1, #[.string ⟨#[]⟩], rfl, Nat.le_refl _, heap_alloc_new w _, Nat.le_refl _, by decide, rfl, rfl⟩⟩
  case round =>
    obtain ⟨k, P, hkq, hkl, rfl, hW⟩ := hrel
    have hPl : P.length ≤ k + 1 := by
      have := spl_len 32 (s.data.toList.take k)
      rw [← hW.is] at this
      simp at this; omega
    have hP0 : 0 < P.length := by
      have := spl_ne 32 (s.data.toList.take k)
      rw [← hW.is] at this
      cases P with
      | nil => simp at this
      | cons a t => simp
    obtain ⟨g, cap, rfl⟩ : ∃ g cap, u3 = .slice (some ⟨g, 0, none⟩) P.length cap := by
      rcases hW.own.2 with ⟨_, h2⟩ | ⟨g, cap, _, h1, _⟩
      · omega
      · exact ⟨g, cap, h1⟩
    by_cases hlt : k < s.size
    · by_cases hb : s[k] = 32
      · have hbn : (s[k].toNat : Int) = 32 := by rw [hb]; rfl
        have HW := Lib.hid hW
        obtain ⟨i0, hi0, hz0, hz1, hz2⟩ := info_parts Tryz.info9
        have HIS : Hid ((P ++ [(⟨#[]⟩ : ByteArray)]).map (fun b => b.data.toList) = spl 32 (s.data.toList.take (k + 1))) := Lib.hid (by rw [take_byte hlt, hb, spl_snoc_same, List.map_append, hW.is]; rfl)
        have hbs := hW.bel.size
        clear hW hb
        go_wp2_with (at_builtin; refine wpList_append_lies _ rfl _ _ 75 rfl w.heap.size 9 i0 (.string ByteArray.empty) 1 16 Tryz.underlying75 hi0 hz0 hz1 hz2 rfl (by decide) _ _ _ rfl (HW.out.own.alloc _) ⟨wr.heap.size, 0, none⟩ 1 1 [.string ⟨#[]⟩] rfl rfl ?c1 ?c2 (by decide) ?c3 ?c4 ?c5 _ rfl ?_)
        case c1 =>
          intro j u hj
          match j, hj with
          | 0, hj => simp at hj; subst hj; simp [Addr.add]
        case c2 => intro u hu; simp at hu; subst hu; rfl
        case c3 => unfold maxLen; omega
        case c4 => omega
        case c5 => simp; omega
        intro g2 cap2 w7 hown7 hgr7 hat7 hlt7
        have HP : Hid (Wd w w7 (.slice (some ⟨g2, 0, none⟩) (P.length + 1) cap2) (P ++ [⟨#[]⟩]) (s.data.toList.take (k + 1))) := Lib.hid ⟨(HW.out.bel.alloc hbs _).grown hgr7 (by simp; omega) (fun k e => (HW.out.own.lt k e).1), by
          simpa using hown7, HIS.out⟩
        clear hown7 hgr7 hat7
        go_wp2_with fail
        go_roundg (s.size + 1 - (k + 1))
        case rel => exact ⟨k + 1, _, by omega, by omega, by simp, HP.out⟩
        case measure => omega
      · have hbn : ¬ (s[k].toNat : Int) = 32 := fun e => hb (by apply UInt8.toNat_inj.1; simpa using Int.ofNat.inj e)
        obtain ⟨m, z, h1, h2⟩ := spl_snoc_other 32 hb (s.data.toList.take k)
        obtain ⟨P', x, rfl⟩ : ∃ P' x, P = P' ++ [x] := ⟨P.dropLast, P.getLast (by intro e; subst e; simp at hP0), (List.dropLast_concat_getLast _).symm⟩
        have his := hW.is
        rw [h1, List.map_append] at his
        obtain ⟨e1, e2⟩ := List.append_inj' his (by simp)
        have e2 : x.data.toList = z := by simpa using e2
        have hown := hW.own
        rw [List.length_append, List.length_singleton] at hown hPl
        rw [List.length_append, List.length_singleton]
        obtain ⟨n, hn⟩ : ∃ n, n = P'.length := ⟨_, rfl⟩
        rw [← hn] at hown hPl
        rw [← hn]
        have HIS : Hid (∀ y : ByteArray, y = x ++ s.extract k (k + 1) → (P' ++ [y]).map (·.data.toList) = spl 32 (s.data.toList.take (k + 1))) := Lib.hid (fun y hy => by
          rw [take_byte hlt, h2, List.map_append, e1]
          congr 1
          rw [List.map_singleton, hy, ← e2, ← ext_byte hlt]
          simp)
        have cX : wr.cell? ⟨g, n, none⟩ = some (.string x) := by
          rw [hown.cellAt n (by omega)]
          simp [hn]
        have fX : wr.frozen? ⟨g, n, none⟩ = false := by
          rcases hown.2 with ⟨h, _⟩ | ⟨g', _, cur, h, _, h3, _⟩
          · cases h
          · simp only [Value.slice.injEq, Option.some.injEq, Addr.mk.injEq, and_true, true_and] at h
            obtain ⟨rfl, _⟩ := h
            simp [World.frozen?, h3]
        have HO := Lib.hid hown
        have HB := Lib.hid hW.bel
        have hgl := World.block_lt_of_cell? wr _ cX
        have hxs : x.size ≤ 16384 := by
          have := spl_mem (c := 32) (l := s.data.toList.take k) (p := z) (by rw [h1]; simp)
          rw [Lib.size_eq, e2]; simp at this; omega
        have HN := Lib.hid hn
        clear hW hown h1 h2 e1 e2 his hn
        go_wp2_with fail
        go_region
        go_wp2_with fail
        go_roundg (s.size + 1 - (k + 1))
        case rel =>
          refine ⟨k + 1, P' ++ [x ++ s.extract k (k + 1)], by omega, by omega, by simp, ?_⟩
          have hs1 := own_set HO.out (j := n) (by omega) (.string (x ++ s.extract k (k + 1)))
          have hge : w.heap.size ≤ g := (HO.out.lt g rfl).1
          exact ⟨(HB.out.setCell hge _).drew, by
            have e : ((P' ++ [x]).map Value.string).set n (.string (x ++ s.extract k (k + 1))) = (P' ++ [x ++ s.extract k (k + 1)]).map Value.string := by rw [HN.out]; simp
            rw [e] at hs1
            simpa [HN.out] using hs1.drew, HIS.out _ rfl⟩
        case measure => omega
    · obtain rfl : k = s.size := by omega
      rw [show s.data.toList.take s.size = s.data.toList by rw [Lib.size_eq, List.take_length]] at hW
      have HW := Lib.hid hW
      clear hW
      go_wp2_with fail
      go_ret
      exact ⟨_, P, rfl, HW.out⟩
end Go.Proofs.YtmnmjekpndeemaaGreatDoor
