/- The walks of the document's own answer for layer 2: a number's digits, a node's part, where a ref is in a row. -/
import Derived.Test.YtmnmjekpndeemaaGreatDoorSd
namespace Go.Proofs.YtmnmjekpndeemaaGreatDoor
open Go.RowKit Go.Maps Go.Shelf

theorem dec_split {n : Nat} (h : ¬ n < 10) : (⟨(Lib.decDigits (n / 10)).toArray⟩ : ByteArray) ++ ⟨(Lib.decDigits (n % 10)).toArray⟩ = ⟨(Lib.decDigits n).toArray⟩ := by
  have e : Lib.decDigits n = Lib.decDigits (n / 10) ++ Lib.decDigits (n % 10) := by
    rw [Lib.decDigits_one (show n % 10 < 10 by omega)]
    conv => lhs; rw [Lib.decDigits, dif_neg h]
  rw [e]
  apply ByteArray.ext
  simp

set_option maxRecDepth 100000 in
set_option maxHeartbeats 1000000 in
theorem digits_any (n : Nat) (hn : n < 18446744073709551616) (w : World) :
    Calls Tryz.prog 42 #[.int .u64 n] w fun e w' => e = .returned (.string ⟨(Lib.decDigits n).toArray⟩) ∧ w' = w := by
  induction n using Nat.strongRecOn generalizing w with
  | ind n ih =>
    by_cases h : n < 10
    · have he := Lib.decDigits_one h
      rcases (show n = 0 ∨ n = 1 ∨ n = 2 ∨ n = 3 ∨ n = 4 ∨ n = 5 ∨ n = 6 ∨ n = 7 ∨ n = 8 ∨ n = 9 by omega) with rfl | rfl | rfl | rfl | rfl | rfl | rfl | rfl | rfl | rfl
      all_goals
        rw [he]
        clear he ih h
        go_enter Tryz.func42, Tryz.ntmps42
        go_wp2_with fail
        go_ret
        exact ⟨rfl, rfl⟩
    · have h1 := ih (n / 10) (by omega) (by omega) w
      have h2 := ih (n % 10) (by omega) (by omega) w
      have HS := Lib.hid (dec_split h)
      have e1 : ((n / 10 : Nat) : Int) = (n : Int) / 10 := by omega
      have e2 : ((n % 10 : Nat) : Int) = (n : Int) % 10 := by omega
      rw [e1] at h1
      rw [e2] at h2
      have HH1 := Lib.hid h1
      have HH2 := Lib.hid h2
      have h' : ¬ ((n : Int) < 10) := by omega
      have h'' : decide ((n : Int) < 10) = false := by simpa using h'
      have hlen : ¬ 9223372036854775807 < (Lib.decDigits (n / 10)).length + (Lib.decDigits (n % 10)).length := by
        have q1 := dec_len (u := n / 10) (by omega)
        have q2 := dec_len (u := n % 10) (by omega)
        omega
      clear ih h1 h2 e1 e2
      go_enter Tryz.func42, Tryz.ntmps42
      go_wp2_with (first
        | (go_at_call 42; have _hq := hw1; clear _hq; refine HH2.out.mono ?_; rintro e w2 ⟨rfl, hw2⟩; rw [hw2]; clear hw2)
        | (go_at_call 42; refine HH1.out.mono ?_; rintro e w1 ⟨rfl, hw1⟩; rw [hw1]))
      go_ret
      exact ⟨by rw [← HS.out]; rfl, rfl⟩

set_option maxRecDepth 100000 in
theorem part2_any (k n a b c i : Int) (w : World) :
    Calls Tryz.prog 44 #[.agg #[.int .i64 k, .int .u64 n, .int .i64 a, .int .i64 b, .int .i64 c], .int .i64 i] w fun e w' => e = .returned (.int .i64 (partZ i a b c)) ∧ w.alloc (.cells #[.int .i64 k, .int .u64 n, .int .i64 a, .int .i64 b, .int .i64 c] 48) = w' := by
  unfold partZ
  by_cases h0 : i = 0
  · subst h0
    go_enter Tryz.func44, Tryz.ntmps44
    go_wp2
    go_ret
    exact ⟨rfl, rfl⟩
  · rw [if_neg h0]
    have g0 : (i == 0) = false := by simpa using h0
    by_cases h1 : i = 1
    · subst h1
      go_enter Tryz.func44, Tryz.ntmps44
      go_wp2
      go_ret
      exact ⟨rfl, rfl⟩
    · rw [if_neg h1]
      have g1 : (i == 1) = false := by simpa using h1
      clear h0 h1
      go_enter Tryz.func44, Tryz.ntmps44
      go_wp2
      go_ret
      exact ⟨rfl, rfl⟩

/-- Where a ref is; -1: nowhere. -/
def atZ (l : List Int) (r : Int) : Int := match px r l with
  | some i => (i : Int)
  | none => -1
theorem px_skip {r : Int} : ∀ {l : List Int} {k : Nat}, (∀ j, j < k → l.getD j 0 ≠ r ∨ l.length ≤ j) → px r l = (px r (l.drop k)).map (· + k)
  | l, 0, _ => by cases h : px r l <;> simp [h]
  | [], k + 1, _ => by simp [px]
  | x :: l, k + 1, h => by
    have h0 := h 0 (by omega)
    simp only [List.getD_cons_zero, List.length_cons] at h0
    have hx : x ≠ r := by rcases h0 with e | e; exact e; omega
    have ih := px_skip (r := r) (l := l) (k := k) (fun j hj => by
      have := h (j + 1) (by omega)
      simpa using this)
    simp only [px, if_neg hx, List.drop_succ_cons, ih]
    cases px r (l.drop k) with
    | none => rfl
    | some i => simp; omega

set_option maxRecDepth 100000 in
set_option maxHeartbeats 1000000 in
theorem at_any (B : Nat) (v : Value) (l : List Int) (hl : l.length ≤ 65536) (r : Int) (w : World) (ho : w.ownsRow B 3 1 v l.length (l.map (Value.int .i64))) :
    Calls Tryz.prog 43 #[v, .int .i64 r] w fun e w' => e = .returned (.int .i64 (atZ l r)) ∧ w = w' := by
  obtain ⟨sp, cp, rfl⟩ := own_slice ho
  have HO := Lib.hid ho; clear ho
  go_enter Tryz.func43, Tryz.ntmps43
  go_wp2_with fail
  go_loopg [5] (l.length + 1) (fun q u5 wr => ∃ k : Nat, k + q = l.length + 1 ∧ k ≤ l.length ∧ u5 = .int .i64 k ∧ wr = w ∧ ∀ j, j < k → l.getD j 0 ≠ r)
  case atStart => exact ⟨0, by omega, by omega, rfl, rfl, fun j hj => by omega⟩
  case round =>
    obtain ⟨k, hkq, hkl, rfl, hw, hne⟩ := hrel
    subst hw
    by_cases hlt : k < l.length
    · obtain ⟨gq, rfl⟩ : ∃ gq, sp = some ⟨gq, 0, none⟩ := by
        rcases HO.out.2 with ⟨h1, h2⟩ | ⟨gq, _, _, h1, _⟩
        · omega
        · exact ⟨gq, by injection h1⟩
      have cX : wr.cell? ⟨gq, k, none⟩ = some (.int .i64 (l.getD k 0)) := by
        rw [HO.out.cellAt k (by omega)]
        simp [List.getD, List.getElem?_eq_getElem hlt]
      have hxe : px r l = (px r (l.drop k)).map (· + k) := px_skip (fun j hj => .inl (hne j hj))
      have hdr : l.drop k = l.getD k 0 :: l.drop (k + 1) := by rw [List.drop_eq_getElem_cons hlt, List.getD_eq_getElem?_getD, List.getElem?_eq_getElem hlt]; rfl
      obtain ⟨y, hy⟩ : ∃ y, y = l.getD k 0 := ⟨_, rfl⟩
      rw [← hy] at cX hdr
      by_cases hyr : y = r
      · have HA : Hid (atZ l r = (k : Int)) := Lib.hid (by unfold atZ; rw [hxe, hdr, px, if_pos hyr]; simp)
        have hb : (y == r) = true := by simpa using hyr
        clear hxe hdr hy hne
        go_wp2_with fail
        all_goals
          go_ret
          exact ⟨by rw [HA.out]; rfl, rfl⟩
      · have HNE : Hid (∀ j, j < k + 1 → l.getD j 0 ≠ r) := Lib.hid (fun j hj => by
          rcases Nat.lt_or_ge j k with h | h
          · exact hne j h
          · obtain rfl : j = k := by omega
            rw [← hy]; exact hyr)
        have hb : (y == r) = false := by simpa using hyr
        clear hxe hdr hy hne
        go_wp2_with fail
        all_goals
          go_roundg (l.length + 1 - (k + 1))
          case rel => exact ⟨k + 1, by omega, by omega, by simp, rfl, HNE.out⟩
          case measure => omega
    · have HA : Hid (atZ l r = -1) := Lib.hid (by
        have h1 := px_skip (r := r) (l := l) (k := k) (fun j hj => .inl (hne j hj))
        unfold atZ
        rw [h1, List.drop_of_length_le (by omega)]; rfl)
      have hk2 : ¬ (k : Int) < (l.length : Int) := by omega
      have hk3 : decide ((k : Int) < (l.length : Int)) = false := by simpa using hk2
      clear hne
      go_wp2_with fail
      all_goals
        go_ret
        exact ⟨by rw [HA.out]; rfl, rfl⟩
end Go.Proofs.YtmnmjekpndeemaaGreatDoor
