/- The law TokenNames. -/
import Derived.Test.YtdihgfpnogiblaaDoorMl
namespace Go.Proofs.YtdihgfpnogiblaaDoor
open Go.RowKit Go.Shelf

theorem nm_ne {k t : Int} (hk : isTok k = true) (ht : isTok t = true) (h : k ≠ t) : nmT k ≠ nmT t := fun e => h (by rw [← tokOf_nmT hk, ← tokOf_nmT ht, e])
theorem nm_q {t : Int} (ht : isTok t = true) : nmT t ≠ [63] := by
  rcases tok_cases ht with rfl | rfl | rfl | rfl | rfl | rfl | rfl <;> decide

set_option maxRecDepth 100000 in
set_option maxHeartbeats 4000000 in
theorem names_good (t : Int) (w : World) (hE : En w) : Calls Tryd.prog 6 #[.int .i64 t] w fun e w' => e = .returned (.bool true) ∧ Below w.heap.size w w' := by
  have HE := Lib.hid hE; clear hE
  obtain ⟨N, hN⟩ : ∃ N : ByteArray, N = ⟨(nmT t).toArray⟩ := ⟨_, rfl⟩
  have HNM := Lib.hid (name_any t w HE.out)
  rw [← hN] at HNM
  have HA := Lib.hid (awake_any w HE.out)
  cases ht : isTok t with
  | false =>
    have hq : N = ⟨#[63]⟩ := by rw [hN]; unfold nmT; rw [ht]; rfl
    subst hq
    have h : t < 1 ∨ 7 < t := by simp [isTok] at ht; omega
    clear ht hN
    by_cases h1 : t < 1
    · clear h
      go_enter Tryd.func6, Tryd.ntmps6
      go_wp2_with (first
        | (go_at_call 19; refine HNM.out.mono ?_; rintro e w1 ⟨rfl, rfl⟩)
        | (go_at_call 10; refine HA.out.mono ?_; rintro e w1 ⟨rfl, hb1⟩))
      go_ret
      exact ⟨rfl, hb1⟩
    · have h1' : ¬ t < 1 := by omega
      have h7 : 7 < t := by omega
      clear h
      go_enter Tryd.func6, Tryd.ntmps6
      go_wp2_with (first
        | (go_at_call 19; refine HNM.out.mono ?_; rintro e w1 ⟨rfl, rfl⟩)
        | (go_at_call 10; refine HA.out.mono ?_; rintro e w1 ⟨rfl, hb1⟩))
      go_ret
      exact ⟨rfl, hb1⟩
  | true =>
    have ht1 : ¬ t < 1 := by simp [isTok] at ht; omega
    have ht7 : ¬ 7 < t := by simp [isTok] at ht; omega
    have HT := Lib.hid ht; clear ht
    have HN := Lib.hid hN; clear hN
    go_enter Tryd.func6, Tryd.ntmps6
    go_wp2_with (go_at_call 19; refine HNM.out.mono ?_; rintro e w1 ⟨rfl, rfl⟩)
    go_loopg [4] 7 (fun q u4 wr => ∃ k : Nat, k + q = 8 ∧ 1 ≤ k ∧ u4 = .int .i64 k ∧ wr = w)
    case atStart => exact ⟨1, by omega, by omega, rfl, rfl⟩
    case round =>
      obtain ⟨k, hkq, hk1, rfl, rfl⟩ := hrel
      by_cases hlt : k ≤ 7
      · have hk7 : (k : Int) ≤ 7 := by omega
        have hkt : isTok (k : Int) = true := by simp [isTok]; omega
        obtain ⟨A, hA⟩ : ∃ A : ByteArray, A = ⟨(nmT k).toArray⟩ := ⟨_, rfl⟩
        have HNK := Lib.hid (name_any k wr HE.out)
        rw [← hA] at HNK
        by_cases hk : (k : Int) = t
        · have hAN : A = N := by rw [hA, HN.out, hk]
          subst hAN
          have hb : ((k : Int) == t) = true := by simpa using hk
          clear hk hA hkt
          go_wp2_with (go_at_call 19; refine HNK.out.mono ?_; rintro e w1 ⟨rfl, rfl⟩)
          go_roundg (8 - (k + 1))
          case measure => omega
          case rel => exact ⟨k + 1, by omega, by omega, by go_num, rfl⟩
        · have hb : ((k : Int) == t) = false := by simpa using hk
          have hAN : (A.toList == N.toList) = false := by
            rw [hA, HN.out, ByteArray.toList_eq, ByteArray.toList_eq]; simpa using nm_ne hkt HT.out hk
          clear hk hA hkt
          go_wp2_with (go_at_call 19; refine HNK.out.mono ?_; rintro e w1 ⟨rfl, rfl⟩)
          go_roundg (8 - (k + 1))
          case measure => omega
          case rel => exact ⟨k + 1, by omega, by omega, by go_num, rfl⟩
      · have hk7 : ¬ (k : Int) ≤ 7 := by omega
        have hq : (N.toList == [63]) = false := by rw [HN.out, ByteArray.toList_eq]; simpa using nm_q HT.out
        have l1 : (1 : Int) ≤ N.size := by rw [HN.out, arr_size]; have := nmT_len t; omega
        have l3 : (N.size : Int) ≤ 3 := by rw [HN.out, arr_size]; have := nmT_len t; omega
        go_wp2_with (go_at_call 10; refine HA.out.mono ?_; rintro e w1 ⟨rfl, hb1⟩)
        go_ret
        exact ⟨rfl, hb1⟩
end Go.Proofs.YtdihgfpnogiblaaDoor
