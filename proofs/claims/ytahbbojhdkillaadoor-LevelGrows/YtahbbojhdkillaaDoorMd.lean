/- Layer 5: walks of rightName and Right. -/
import Derived.Test.YtahbbojhdkillaaDoorMc
namespace Go.Proofs.YtahbbojhdkillaaDoor
open Go.RowKit

theorem name_all {l : List UInt8} {i : Nat} (h : i < l.length) (h1 : ((l.take i).all fun c => nmOk c.toNat) = true) (h2 : nmOk (l[i]).toNat = true) : ((l.take (i + 1)).all fun c => nmOk c.toNat) = true := by
  rw [List.take_succ_eq_append_getElem h, List.all_append, h1]
  simpa using h2
theorem name_not {l : List UInt8} {i : Nat} (h : i < l.length) (h2 : nmOk (l[i]).toNat = false) : nameOk l = false := by
  unfold nameOk
  have : (l.all fun c => nmOk c.toNat) = false := by
    rw [List.all_eq_false]
    exact ⟨l[i], List.getElem_mem h, by simpa using h2⟩
  rw [this]; simp
theorem nmOk_high {c : Nat} (h : 128 ≤ c) : nmOk c = false := by
  simp [nmOk]; omega
theorem iter_below (w : World) (s : ByteArray) (pos : Nat) : Below w.heap.size w (w.iter s pos) := (Below.refl _ _).alloc (Nat.le_refl _) _
theorem arr_size (l : List UInt8) : (⟨l.toArray⟩ : ByteArray).size = l.length := by simp [ByteArray.size]

set_option maxRecDepth 100000 in
set_option maxHeartbeats 4000000 in
theorem rightName_any (l : List UInt8) (w : World) : Calls Tryd.prog 51 #[.string ⟨l.toArray⟩] w fun e w' => e = .returned (.bool (nameOk l)) ∧ Below w.heap.size w w' := by
  obtain ⟨s, hs⟩ : ∃ s : ByteArray, s = ⟨l.toArray⟩ := ⟨_, rfl⟩
  have hsz : s.size = l.length := by rw [hs, arr_size]
  have HG : Hid (∀ i (h : i < s.size) (h' : i < l.length), s[i] = l[i]) := Lib.hid (by subst hs; intro i h h'; rfl)
  rw [← hs]
  clear hs
  by_cases hn : 1 ≤ l.length ∧ l.length ≤ 20
  · obtain ⟨n1, n2⟩ := hn
    have HM : Hid (nameOk l = l.all fun c => nmOk c.toNat) := Lib.hid (by simp [nameOk, n1, n2])
    have c1 : ¬ (s.size : Int) < 1 := by omega
    have c2 : ¬ (20 : Int) < s.size := by omega
    have HZ := Lib.hid hsz; clear hsz n1 n2
    go_enter Tryd.func51, Tryd.ntmps51
    go_wp2_with fail
    go_loopg [] s.size (fun q wr => ∃ i : Nat, i + q = s.size ∧ Aside (((l.take i).all fun c => nmOk c.toNat) = true) ∧ wr = w.iter s i)
    case atStart => exact ⟨0, by omega, rfl, rfl⟩
    case round =>
      obtain ⟨i, hiq, hall, rfl⟩ := hrel
      by_cases hlt : i < s.size
      · have hl : i < l.length := by have := HZ.out; omega
        have hgi := HG.out i hlt hl
        by_cases ha : (s[i]'hlt).toNat < 128
        · have hnx := fun ty => run_next_ascii (P := Tryd.prog) w s i ty hlt ha
          obtain ⟨x, hx⟩ : ∃ x, x = (s[i]'hlt).toNat := ⟨_, rfl⟩
          rw [← hx] at hnx
          have HX := Lib.hid (hx.trans (by rw [hgi])); clear hx
          clear ha hgi
          cases hk : nmOk x with
          | true =>
            have HK := Lib.hid hk; clear hk
            go_wp2_with (go_at_call 64; refine (inNames_any _ _).mono ?_; rintro e w' ⟨rfl, rfl⟩; rw [HK.out])
            go_roundg (s.size - (i + 1))
            case measure => omega
            case rel => exact ⟨i + 1, by omega, (show Aside _ from name_all hl hall.out (by rw [← HX.out]; exact HK.out)), rfl⟩
          | false =>
            have HK := Lib.hid hk; clear hk
            go_wp2_with (go_at_call 64; refine (inNames_any _ _).mono ?_; rintro e w' ⟨rfl, rfl⟩; rw [HK.out])
            go_ret
            exact ⟨by rw [name_not hl (by rw [← HX.out]; exact HK.out)]; rfl, iter_below w s _⟩
        · have hnx := fun ty => run_next_any (P := Tryd.prog) w s i ty hlt
          obtain ⟨hx, _⟩ := decode_high s i hlt (by omega)
          generalize (Utf8.decode s i).1 = x at *
          generalize i + (Utf8.decode s i).2 = j at *
          have HK := Lib.hid (nmOk_high hx)
          have HF := Lib.hid (name_not hl (by rw [← hgi]; exact nmOk_high (by omega)))
          clear ha hgi hx
          go_wp2_with (go_at_call 64; refine (inNames_any _ _).mono ?_; rintro e w' ⟨rfl, rfl⟩; rw [HK.out])
          go_ret
          exact ⟨by rw [HF.out]; rfl, iter_below w s _⟩
      · have hnx := fun ty => run_next_end (P := Tryd.prog) w s i ty hlt
        go_wp2_with fail
        go_ret
        have h3 := hall.out
        have : i = l.length := by have := HZ.out; omega
        rw [this, List.take_length] at h3
        exact ⟨by rw [HM.out, h3]; rfl, iter_below w s _⟩
  · have HM : Hid (nameOk l = false) := Lib.hid (by simp [nameOk]; omega)
    rcases Nat.lt_or_ge s.size 1 with h1 | h1
    · have c1 : (s.size : Int) < 1 := by omega
      clear hn hsz HG
      go_enter Tryd.func51, Tryd.ntmps51
      go_wp2_with fail
      go_ret
      exact ⟨by rw [HM.out]; rfl, Below.refl _ _⟩
    · have c1 : ¬ (s.size : Int) < 1 := by omega
      have c2 : (20 : Int) < s.size := by omega
      clear hn hsz HG
      go_enter Tryd.func51, Tryd.ntmps51
      go_wp2_with fail
      go_ret
      exact ⟨by rw [HM.out]; rfl, Below.refl _ _⟩
end Go.Proofs.YtahbbojhdkillaaDoor
