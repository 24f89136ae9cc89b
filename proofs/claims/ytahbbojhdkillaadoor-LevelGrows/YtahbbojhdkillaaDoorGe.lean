/- Layer 9: the walk of Mix. -/
import Derived.Test.YtahbbojhdkillaaDoorGd
namespace Go.Proofs.YtahbbojhdkillaaDoor
open Go.RowKit Go.Shelf

theorem trA_up (t : Tr) : ∀ i, i < 8 → (trA t).set! i (.bool true) = trA ⟨up t.f i, t.a, t.b⟩
  | 0, _ => rfl
  | 1, _ => rfl
  | 2, _ => rfl
  | 3, _ => rfl
  | 4, _ => rfl
  | 5, _ => rfl
  | 6, _ => rfl
  | 7, _ => rfl
  | i + 8, h => absurd h (by omega)
theorem trA_at (t : Tr) : ∀ i, i < 8 → (trA t)[i]? = some (.bool (t.f i))
  | 0, _ => rfl
  | 1, _ => rfl
  | 2, _ => rfl
  | 3, _ => rfl
  | 4, _ => rfl
  | 5, _ => rfl
  | 6, _ => rfl
  | 7, _ => rfl
  | i + 8, h => absurd h (by omega)
theorem tro_set {w : World} {b : Nat} {t : Tr} (h : w.heap[b]? = some (TrO t)) (i : Nat) (hi : i < 8) : (w.setCell ⟨b, i, none⟩ (.bool true)).heap[b]? = some (TrO ⟨up t.f i, t.a, t.b⟩) := by
  unfold TrO at h ⊢
  rw [← trA_up t i hi]
  simp only [World.setCell, Array.getElem?_modify, if_true, h]
  rfl
set_option maxRecDepth 100000 in
set_option maxHeartbeats 1000000 in
theorem mix_any (t : Tr) (s : Option Addr) (c : Nat) (l : List Int) (hl : l.length ≤ 65536) (w : World) (hi : IntsV w s l) : Calls Tryd.prog 21 #[trV t, .slice s l.length c] w fun e w' => e = .returned (trV (t.mix l)) ∧ Below w.heap.size w w' := by
  have HI := Lib.hid hi; clear hi
  have HT := Lib.hid (to_new w t (trA zTr) 54)
  obtain ⟨n, hn⟩ : ∃ n, n = l.length := ⟨_, rfl⟩
  rw [← hn]
  have hn65 : (n : Int) ≤ 65536 := by omega
  have HN := Lib.hid hn; clear hn hl
  unfold trV
  unfold trA at HT ⊢
  go_enter Tryd.func21, Tryd.ntmps21
  go_wp2_with fail
  go_loopg [6, 9] n (fun q _ u9 wr => ∃ i : Nat, i + q = n ∧ u9 = .int .i64 i ∧ Aside (To w (t.mix (l.take i)) (TrO zTr) wr))
  case atStart => exact ⟨0, by omega, rfl, (show Aside _ from by
    have := HT.out
    show To w (t.mix []) (TrO zTr) _
    unfold Tr.mix
    rw [mix_nil]
    exact this)⟩
  case round =>
    obtain ⟨i, hiq, rfl, hto⟩ := hrel
    have HR := Lib.hid hto.out; clear hto
    by_cases hlt : i < n
    · obtain ⟨g, o, rfl, hia⟩ := (HI.out.keep HR.out.bel) (by have := HN.out; omega)
      have hx := hia i (by have := HN.out; omega)
      clear hia
      obtain ⟨x, hxx⟩ : ∃ x, x = l.getD i 0 := ⟨_, rfl⟩
      rw [← hxx] at hx
      have HX := Lib.hid hxx; clear hxx
      have HIL := Lib.hid (show i < l.length by have := HN.out; omega)
      have hi2 : (i : Int) < n := by omega
      cases htk : isTok x with
      | true =>
        have HTK := Lib.hid htk
        have hb : (1 ≤ x) ∧ (x ≤ 7) := by simpa [isTok] using htk
        have HNX : Hid (To w (t.mix (l.take (i + 1))) (TrO zTr) (wr.setCell ⟨w.heap.size, x.toNat, none⟩ (.bool true))) := Lib.hid (by
          have e : t.mix (l.take (i + 1)) = ⟨up (t.mix (l.take i)).f x.toNat, (t.mix (l.take i)).a, (t.mix (l.take i)).b⟩ := by
            unfold Tr.mix
            rw [mix_yes HIL.out (by rw [← HX.out]; exact HTK.out), ← HX.out]
          rw [e]
          refine ⟨tro_set HR.out.tb _ (by omega), ?_, HR.out.bel.setCell (Nat.le_refl _) _⟩
          exact (Below.heap_setCell _ _ _ _ (by simp)).trans HR.out.res)
        obtain ⟨u, hu⟩ : ∃ u, wr.cell? ⟨w.heap.size, x.toNat, none⟩ = some (.bool u) := ⟨_, (cell_of_row wr _ _ _ _ _ HR.out.tb).trans (trA_at _ _ (by omega))⟩
        have hz : wr.frozen? ⟨w.heap.size, x.toNat, none⟩ = false := frozen_of_row _ _ _ _ _ HR.out.tb
        have hlb := lt_of_heap HR.out.tb
        obtain ⟨hx1, hx7⟩ := hb
        have hx8 : x < 8 := by omega
        have hx0 : 0 ≤ x := by omega
        clear htk
        go_wp2_with fail
        go_roundg (n - (i + 1))
        case measure => omega
        case rel => exact ⟨i + 1, by omega, by go_num, (show Aside _ from HNX.out)⟩
      | false =>
        have HTK := Lib.hid htk
        have HNX : Hid (To w (t.mix (l.take (i + 1))) (TrO zTr) wr) := Lib.hid (by
          have e : t.mix (l.take (i + 1)) = t.mix (l.take i) := by
            unfold Tr.mix
            rw [mix_no HIL.out (by rw [← HX.out]; exact HTK.out)]
          rw [e]; exact HR.out)
        by_cases h1 : 1 ≤ x
        · have h7 : ¬ x ≤ 7 := by
            intro h7
            have := HTK.out
            simp [isTok, h1, h7] at this
          clear htk
          go_wp2_with fail
          go_roundg (n - (i + 1))
          case measure => omega
          case rel => exact ⟨i + 1, by omega, by go_num, (show Aside _ from HNX.out)⟩
        · clear htk
          go_wp2_with fail
          go_roundg (n - (i + 1))
          case measure => omega
          case rel => exact ⟨i + 1, by omega, by go_num, (show Aside _ from HNX.out)⟩
    · have hi2 : ¬ (i : Int) < n := by omega
      have HF : Hid (To w (t.mix l) (TrO zTr) wr) := Lib.hid (by
        have := HR.out
        rwa [List.take_of_length_le (by have := HN.out; omega)] at this)
      obtain ⟨t2, ht2⟩ : ∃ t2, t2 = t.mix l := ⟨_, rfl⟩
      rw [← ht2] at HF
      have HT2 := Lib.hid ht2
      clear ht2
      obtain ⟨d0, d1, d2, d3, d4, d5, d6, d7, d8, d9⟩ := TrC.of HF.out.tb
      obtain ⟨q0, q1, q2, q3, q4, q5, q6, q7, q8, q9⟩ := TrC.of (t := zTr) HF.out.res
      have l1 := lt_of_heap HF.out.tb
      have l2 := lt_of_heap HF.out.res
      have z1 : ∀ j, wr.frozen? ⟨w.heap.size + 1, j, none⟩ = false := fun j => frozen_of_row _ _ _ _ _ HF.out.res
      go_wp2_with fail
      refine bodyPost_ret (v := .agg #[.bool (t2.f 0), .bool (t2.f 1), .bool (t2.f 2), .bool (t2.f 3), .bool (t2.f 4), .bool (t2.f 5), .bool (t2.f 6), .bool (t2.f 7), .int .i64 t2.a, .int .i64 t2.b]) (by simp [results, Tryd.results21, go_sem, q0, q1, q2, q3, q4, q5, q6, q7, q8, q9]) rfl ?_
      refine ⟨by rw [← HT2.out], ((((((((((HF.out.bel.setCell (Nat.le_succ _) _).setCell (Nat.le_succ _) _).setCell (Nat.le_succ _) _).setCell (Nat.le_succ _) _).setCell (Nat.le_succ _) _).setCell (Nat.le_succ _) _).setCell (Nat.le_succ _) _).setCell (Nat.le_succ _) _).setCell (Nat.le_succ _) _).setCell (Nat.le_succ _) _)⟩
end Go.Proofs.YtahbbojhdkillaaDoor
