/- The walk of the document's own answer for layer 2: a number's digits are read (number). -/
import Derived.Test.YtmnmjekpndeemaaGreatDoorTa
import Derived.Test.YtmnmjekpndeemaaGreatDoorUa
namespace Go.Proofs.YtmnmjekpndeemaaGreatDoor
open Go.RowKit Go.Maps

theorem rnum_of {l : List UInt8} {n : Nat} (hn : l ≠ []) (h : Lib.parseUintM 18446744073709551615 0 l = .ok n) : rnum l = if Lib.decDigits n = l then some n else none := by
  have : pnum l = some n := by unfold pnum Lib.parseUintB; rw [if_neg hn, show (2 ^ 64 - 1 : Nat) = 18446744073709551615 by decide, h]
  unfold rnum; rw [this]; rfl
theorem rnum_bad {l : List UInt8} (h : ∀ u, Lib.parseUintM 18446744073709551615 0 l ≠ .ok u) : rnum l = none := by
  have : pnum l = none := by
    unfold pnum Lib.parseUintB
    split
    · rename_i u hu
      split at hu
      · cases hu
      · exact absurd hu (h u)
    · rfl
  unfold rnum; rw [this]; rfl
theorem take_byte {s : ByteArray} {k : Nat} (h : k < s.size) : s.data.toList.take (k + 1) = s.data.toList.take k ++ [s[k]] := by
  have h' : k < s.data.toList.length := by rw [← Lib.size_eq]; exact h
  rw [List.take_succ_eq_append_getElem h']
  rfl

set_option maxRecDepth 100000 in
set_option maxHeartbeats 1000000 in
theorem number_any (s : ByteArray) (hs : s.size ≤ 16384) (w : World) :
    Calls Tryz.prog 38 #[.string s] w fun e w' => (∃ v : Nat, e = .returned (.tuple #[.int .u64 v, .bool (rnum s.data.toList).isSome]) ∧ v < 18446744073709551616 ∧ ∀ u, rnum s.data.toList = some u → v = u) ∧ w' = w := by
  go_enter Tryz.func38, Tryz.ntmps38
  go_wp2_with fail
  go_loopg [4, 5, 6] (s.size + 1) (fun q u4 u5 _ wr => ∃ k n : Nat, k + q = s.size + 1 ∧ k ≤ s.size ∧ u4 = .int .u64 n ∧ u5 = .int .i64 k ∧ wr = w ∧ Lib.parseUintM 18446744073709551615 0 (s.data.toList.take k) = .ok n)
  case atStart => exact ⟨0, 0, by omega, by omega, rfl, rfl, rfl, by simp [Lib.parseUintM]⟩
  case round =>
    obtain ⟨k, n, hkq, hkl, rfl, rfl, hw, hp⟩ := hrel
    subst hw
    have hn64 : n ≤ 18446744073709551615 := parseM_lt (by omega) hp
    by_cases hlt : k < s.size
    · have hsn : ∀ m, Lib.parseUintM 18446744073709551615 0 (s.data.toList.take (k + 1)) = m ↔ Lib.parseUintM 18446744073709551615 n [s[k]] = m := fun m => by rw [take_byte hlt, parseM_snoc, hp]
      have HNX : Hid (48 ≤ s[k].toNat → s[k].toNat ≤ 57 → n ≤ 1844674407370955160 ∨ n = 1844674407370955161 ∧ s[k].toNat ≤ 53 → Lib.parseUintM 18446744073709551615 0 (s.data.toList.take (k + 1)) = .ok (n * 10 + (s[k].toNat - 48))) := Lib.hid (fun h1 h2 h3 => by
        rw [hsn, Lib.parseUintM, if_pos ⟨h1, h2⟩, if_neg (by omega), if_neg (by omega), Lib.parseUintM])
      have HBD : Hid ((¬ (48 ≤ s[k].toNat ∧ s[k].toNat ≤ 57) ∨ 1844674407370955161 < n ∨ n = 1844674407370955161 ∧ 53 < s[k].toNat) → rnum s.data.toList = none) := Lib.hid (fun h => rnum_bad fun u => by
        rw [← List.take_append_drop (k + 1) s.data.toList]
        refine parseM_bad _ _ _ _ (fun u => ?_) u
        rw [Ne, hsn, Lib.parseUintM]
        split
        · rename_i h1
          split
          · simp
          · split
            · simp
            · rename_i h2 h3
              rcases h with h | h | h <;> omega
        · simp)
      have HP := Lib.hid hp; clear hp hsn
      have HR := Lib.hid (Eq.refl (rnum s.data.toList))
      go_wp2_with fail
      all_goals first
        | (go_roundg (s.size + 1 - (k + 1))
           case rel => exact ⟨k + 1, n * 10 + (s[k].toNat - 48), by omega, by omega, congrArg (Value.int .u64) (by omega), by simp, rfl, HNX.out (by omega) (by omega) (by omega)⟩
           case measure => omega)
        | (go_ret2
           have hb := HBD.out (by omega)
           exact ⟨⟨0, by rw [hb]; rfl, by omega, fun u hu => by rw [hb] at hu; cases hu⟩, rfl⟩)
    · obtain rfl : k = s.size := by omega
      rw [show s.data.toList.take s.size = s.data.toList by rw [Lib.size_eq, List.take_length]] at hp
      have HP := Lib.hid hp; clear hp
      have HD := Lib.hid (fun w' => digits_any n (by omega) w')
      by_cases h0 : s = ⟨#[]⟩
      · subst h0
        have HR : Hid (rnum (⟨#[]⟩ : ByteArray).data.toList = none) := Lib.hid (by decide)
        go_wp2_with fail
        go_ret2
        have hb := HR.out
        exact ⟨⟨n, by rw [hb]; rfl, by omega, fun u hu => by rw [hb] at hu; cases hu⟩, rfl⟩
      · have hne : s.data.toList ≠ [] := fun e => h0 (by apply ByteArray.ext; apply Array.ext'; exact e)
        have hl0 : ¬ s.toList = [] := by rw [ByteArray.toList_eq]; exact hne
        have hr := rnum_of hne HP.out
        by_cases hd : Lib.decDigits n = s.data.toList
        · rw [if_pos hd] at hr
          have HR := Lib.hid hr
          have he : (⟨(Lib.decDigits n).toArray⟩ : ByteArray) = s := by apply ByteArray.ext; apply Array.ext'; simpa using hd
          clear hr hd hne
          go_wp2_with (go_at_call 42; refine (HD.out _).mono ?_; rintro e w1 ⟨rfl, hw1⟩; rw [hw1, he]; clear hw1)
          all_goals first
            | contradiction
            | (go_ret2
               have hb := HR.out
               exact ⟨⟨n, by rw [hb]; simp [hl0], by omega, fun u hu => by rw [hb] at hu; exact Option.some.inj hu⟩, rfl⟩)
        · rw [if_neg hd] at hr
          have HR := Lib.hid hr
          obtain ⟨T, hT⟩ : ∃ T : ByteArray, T = ⟨(Lib.decDigits n).toArray⟩ := ⟨_, rfl⟩
          have hTs : ¬ T.toList = s.toList := by rw [ByteArray.toList_eq, ByteArray.toList_eq, hT]; simpa using hd
          have HT := Lib.hid hT
          clear hr hd hne hT
          go_wp2_with (go_at_call 42; refine (HD.out _).mono ?_; rintro e w1 ⟨rfl, hw1⟩; rw [hw1, ← HT.out]; clear hw1)
          all_goals first
            | contradiction
            | (go_ret2
               have hb := HR.out
               exact ⟨⟨n, by rw [hb]; simp [hTs], by omega, fun u hu => by rw [hb] at hu; cases hu⟩, rfl⟩)
end Go.Proofs.YtmnmjekpndeemaaGreatDoor
