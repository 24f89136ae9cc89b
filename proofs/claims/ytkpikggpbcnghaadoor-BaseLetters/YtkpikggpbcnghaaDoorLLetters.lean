/- The law BaseLetters. -/
import Derived.Test.YtkpikggpbcnghaaDoorLb6
namespace Go.Proofs.YtkpikggpbcnghaaDoor
open Go.RowKit Go.Shelf

set_option maxRecDepth 100000 in
set_option maxHeartbeats 2000000 in
theorem letters_good (s : ByteArray) (w : World) (hE : Eb w) : Calls Tryd.prog 4 #[.string s] w fun e w' => e = .returned (.bool true) ∧ Below w.heap.size w w' := by
  have HE := Lib.hid hE; clear hE
  have HA := Lib.hid (fun wx (hb : Below w.heap.size w wx) => awake_any wx (HE.out.keep hb))
  have HN := Lib.hid (named_any s w HE.out)
  by_cases h60 : 60 < s.size
  · have h60i : (60 : Int) < s.size := by omega
    clear h60
    go_enter Tryd.func4, Tryd.ntmps4
    go_wp2_with (go_at_call 8; refine (HA.out _ (Below.refl _ _)).mono ?_; rintro e w9 ⟨rfl, hb9⟩; have HB9 := Lib.hid hb9; clear hb9)
    go_ret
    exact ⟨rfl, HB9.out⟩
  · have h60i : ¬ (60 : Int) < s.size := by omega
    by_cases he : nmE s.data.toList = 0
    · obtain ⟨g1, g2, g3, g4, g5⟩ := nm_good he
      obtain ⟨q, hq⟩ : ∃ q, q = nmP s.data.toList := ⟨_, rfl⟩
      rw [he, ← hq] at HN
      rw [← hq] at g1 g3
      have hqs : (⟨q.nm.toArray⟩ : ByteArray) = s := by rw [g1]
      have h20 : (s.size : Int) ≤ 20 := by rw [Lib.size_eq]; omega
      have HPR : Hid (∃ j, j < 15 ∧ Lib.hasPrefix s.data.toList (tb (2 * j)).data.toList = true) := Lib.hid (by
        obtain ⟨k, hk, e⟩ := bs_at g4
        exact ⟨k, hk, by rw [tb_data hk, e]; exact g5⟩)
      have HRT := Lib.hid (fun wx y (h : PatA wx y q) => right_any y q wx h)
      rw [g3] at HRT
      unfold patV at HN HRT
      rw [hqs] at HN HRT
      clear he g1 g2 g3 g4 g5 hq h60
      go_enter Tryd.func4, Tryd.ntmps4
      go_wp2_with (first
        | (go_at_call 15; refine HN.out.mono ?_; rintro e w1 ⟨y, rfl, hy1, hb1⟩; have HY1 := Lib.hid hy1; have HB1 := Lib.hid hb1; clear hy1 hb1)
        | (go_at_call 10; refine (refNames_any _).mono ?_; rintro e w2 ⟨rfl, hn2, hb2⟩; have HN2 := Lib.hid hn2; have HB2 := Lib.hid hb2; clear hn2 hb2))
      have HST : Hid (w2.heap[w1.heap.size]? = some (.cells #[.string s, .slice y.s0 q.p0.length y.c0, .slice y.s1 q.p1.length y.c1, .slice y.s2 q.ms.length y.c2] 29 (0, 0)) ∧ Below w.heap.size w w2 ∧ PatA w2 y q ∧ w2.heap[w1.heap.size + 1]? = some namesO) := Lib.hid (by
        have hb : Below w1.heap.size w1 w2 := ((Below.refl _ _).alloc (Nat.le_refl _) _).trans (HB2.out.mono (by simp))
        refine ⟨(HB2.out.block _ (by simp)).trans (heap_alloc_new w1 _), HB1.out.trans (hb.mono HB1.out.size), HY1.out.keep hb, ?_⟩
        have := HN2.out
        rwa [World.size_alloc] at this)
      clear HN2 HB2 HB1 HY1 HN
      go_loopg [5, 7, 27] 15 (fun g u5 _ u27 wr => ∃ (k : Nat) (hd : ByteArray), k + g = 15 ∧ u5 = .string hd ∧ u27 = .int .i64 k ∧ wr = w2 ∧ Aside (hd.size ≤ 20 ∧ ((∃ j, j < k ∧ Lib.hasPrefix s.data.toList (tb (2 * j)).data.toList = true) → 1 ≤ hd.size)))
      case atStart => exact ⟨0, ⟨#[]⟩, by omega, rfl, rfl, rfl, ⟨by decide, fun ⟨j, hj, _⟩ => by omega⟩⟩
      case round =>
        obtain ⟨k, hd, hkq, rfl, rfl, hwr, hr⟩ := hrel
        have HR := Lib.hid hr.out
        clear hr
        subst hwr
        by_cases hlt : k < 15
        · have hk2 : (k : Int) < 15 := by omega
          have c1 := names_at HST.out.2.2.2 hlt
          have HTZ := Lib.hid (tb_size hlt)
          obtain ⟨T, hT⟩ : ∃ T, T = tb (2 * k) := ⟨_, rfl⟩
          rw [← hT] at c1 HTZ
          have HHP := Lib.hid (hasPre_any s T wr)
          have HTE := Lib.hid hT
          clear hT
          cases hp : Lib.hasPrefix s.data.toList T.data.toList with
          | true =>
            rw [hp] at HHP
            have HPT := Lib.hid hp
            clear hp
            by_cases hsz : (hd.size : Int) < T.size
            · go_wp2_with (go_at_call 16; refine HHP.out.mono ?_; rintro e w3 ⟨rfl, rfl⟩)
              go_roundg (15 - (k + 1))
              case measure => omega
              case rel => exact ⟨k + 1, T, by omega, rfl, by go_num, rfl, (show _ ∧ _ from ⟨HTZ.out.2, fun _ => HTZ.out.1⟩)⟩
            · go_wp2_with (go_at_call 16; refine HHP.out.mono ?_; rintro e w3 ⟨rfl, rfl⟩)
              go_roundg (15 - (k + 1))
              case measure => omega
              case rel => exact ⟨k + 1, hd, by omega, rfl, by go_num, rfl, (show _ ∧ _ from ⟨HR.out.1, fun _ => by have := HTZ.out.1; omega⟩)⟩
          | false =>
            rw [hp] at HHP
            have HPT := Lib.hid hp
            clear hp
            go_wp2_with (go_at_call 16; refine HHP.out.mono ?_; rintro e w3 ⟨rfl, rfl⟩)
            go_roundg (15 - (k + 1))
            case measure => omega
            case rel => exact ⟨k + 1, hd, by omega, rfl, by go_num, rfl, (show _ ∧ _ from ⟨HR.out.1, fun ⟨j, hj, hjp⟩ => by
              by_cases e : j = k
              · subst e; rw [← HTE.out, HPT.out] at hjp; cases hjp
              · exact HR.out.2 ⟨j, by omega, hjp⟩⟩)⟩
        · have hk2 : ¬ (k : Int) < 15 := by omega
          have hk15 : k = 15 := by omega
          have hhd : (hd.toList == []) = false := by
            have h1 := HR.out.2 (by rw [hk15]; exact HPR.out)
            rw [ByteArray.toList_eq]
            rw [Lib.size_eq] at h1
            cases e : hd.data.toList with
            | nil => rw [e] at h1; simp at h1
            | cons a b => rfl
          obtain ⟨a0, a1, a2, a3, -⟩ := box4c HST.out.1
          go_wp2_with (first
            | (go_at_call 17; refine (HRT.out _ y HST.out.2.2.1).mono ?_; rintro e w4 ⟨rfl, hb4⟩; have HB4 := Lib.hid (HST.out.2.1.trans (hb4.mono HST.out.2.1.size)); clear hb4)
            | (go_at_call 8; refine (HA.out _ HB4.out).mono ?_; rintro e w9 ⟨rfl, hb9⟩; have HB9 := Lib.hid (HB4.out.trans (hb9.mono HB4.out.size)); clear hb9))
          go_ret
          exact ⟨rfl, HB9.out⟩
    · have heb : (nmE s.data.toList == 0) = false := by simpa using he
      have hz := nm_zero he
      rw [hz] at HN
      obtain ⟨fe, hfe⟩ : ∃ fe, fe = nmE s.data.toList := ⟨_, rfl⟩
      rw [← hfe] at HN heb
      have HSZ := Lib.hid same_zero
      clear he hz hfe h60
      go_enter Tryd.func4, Tryd.ntmps4
      go_wp2_with (first
        | (go_at_call 15; refine HN.out.mono ?_; rintro e w1 ⟨y, rfl, hy1, hb1⟩; have HY1 := Lib.hid hy1; have HB1 := Lib.hid hb1; clear hy1 hb1; simp only [patV, zP, List.length_nil])
        | (go_at_call 14; refine (same_zero y _ (HY1.out.keep ((Below.refl _ _).alloc (Nat.le_refl _) _))).mono ?_; rintro e w2 ⟨rfl, hb2⟩; have HB2 := Lib.hid (HB1.out.trans ((((Below.refl _ _).alloc (Nat.le_refl _) _).trans (hb2.mono (by simp))).mono HB1.out.size)); clear hb2)
        | (go_at_call 8; refine (HA.out _ HB2.out).mono ?_; rintro e w9 ⟨rfl, hb9⟩; have HB9 := Lib.hid (HB2.out.trans (hb9.mono HB2.out.size)); clear hb9))
      go_ret
      exact ⟨rfl, HB9.out⟩
end Go.Proofs.YtkpikggpbcnghaaDoor
