/- Layer 9: the law LevelMixes. -/
import Derived.Test.YtahbbojhdkillaaDoorGi
namespace Go.Proofs.YtahbbojhdkillaaDoor
open Go.RowKit Go.Shelf

set_option maxRecDepth 100000 in
set_option maxHeartbeats 4000000 in
theorem mixes_long (t : Tr) (s : Option Addr) (c : Nat) (l : List Int) (h : 30 < l.length) (w : World) (hE : Ew w) : Calls Tryd.prog 6 #[trV t, .slice s l.length c] w fun e w' => e = .returned (.bool true) ∧ Below w.heap.size w w' := by
  have HA := Lib.hid (fun wx (hb : Below w.heap.size w wx) => awake9_any wx (hE.keep hb))
  have hi : (30 : Int) < l.length := by omega
  clear h hE
  have HB : Hid (∀ o, Below w.heap.size w (w.alloc o)) := Lib.hid (fun o => (Below.refl _ _).alloc (Nat.le_refl _) o)
  unfold trV trA
  go_enter Tryd.func6, Tryd.ntmps6
  go_wp2_with fail
  go_at_call 14
  refine (HA.out _ (HB.out _)).mono ?_
  rintro e w9 ⟨rfl, hb9⟩
  have HB9 := Lib.hid ((HB.out _).trans (hb9.mono (HB.out _).size))
  clear hb9
  go_wp2_with fail
  go_ret
  exact ⟨rfl, HB9.out⟩
/-- Two tracks in a law's boxes. -/
structure T2 (w : World) (t m : Tr) (M : Nat) (wr : World) : Prop where
  tb : wr.heap[w.heap.size]? = some (TrO t)
  mb : wr.heap[M]? = some (TrO m)
  bel : Below w.heap.size w wr
theorem T2.keep {w : World} {t m : Tr} {M : Nat} {wr wx : World} (h : T2 w t m M wr) (hb : Below wr.heap.size wr wx) : T2 w t m M wx :=
  ⟨(hb.block _ (lt_of_heap h.tb)).trans h.tb, (hb.block _ (lt_of_heap h.mb)).trans h.mb, h.bel.trans (hb.mono h.bel.size)⟩
theorem t2_new {w : World} {t : Tr} {w1 : World} (h : Below w.heap.size w w1) (hb : Below (w.alloc (.cells (trA t) 54)).heap.size (w.alloc (.cells (trA t) 54)) w1) (m : Tr) : T2 w t m w1.heap.size (w1.alloc (.cells (trA m) 54)) := by
  refine ⟨?_, heap_alloc_new w1 _, h.alloc h.size _⟩
  have h1 : w1.heap[w.heap.size]? = some (TrO t) := (hb.block _ (by simp)).trans (heap_alloc_new w _)
  rw [Below.heap_alloc _ _ _ (lt_of_heap h1)]
  exact h1
/-- Whether a number is met by the first tokens. -/
def wtB (t : Tr) (k : Nat) (l : List Int) : Bool := t.f k || (decide (1 ≤ k) && l.contains (k : Int))
theorem wt_next {t : Tr} {k : Nat} {l : List Int} {i : Nat} (h : i < l.length) : wtB t k (l.take (i + 1)) = (wtB t k (l.take i) || (decide (l.getD i 0 = k) && decide (1 ≤ k))) := by
  unfold wtB
  rw [take_nextI h]
  simp only [List.contains_eq_mem, List.mem_append, List.mem_singleton]
  cases t.f k <;> by_cases h1 : (1 : Nat) ≤ k <;> by_cases h2 : (k : Int) ∈ l.take i <;> by_cases h3 : l.getD i 0 = k <;> simp [h1, h2] <;> omega
set_option maxRecDepth 100000 in
set_option maxHeartbeats 4000000 in
theorem mixes_few (t : Tr) (s : Option Addr) (c : Nat) (l : List Int) (h : ¬ 30 < l.length) (w : World) (hE : Ew w) (hl : IntsV w s l) : Calls Tryd.prog 6 #[trV t, .slice s l.length c] w fun e w' => e = .returned (.bool true) ∧ Below w.heap.size w w' := by
  have HA := Lib.hid (fun wx (hb : Below w.heap.size w wx) => awake9_any wx (hE.keep hb))
  have HT := Lib.hid (to_new w t (trA zTr) 54)
  have HM := Lib.hid (fun t wx (hb : Below w.heap.size w wx) => mix_any t s c l (by omega) wx (hl.keep hb))
  have HL := Lib.hid hl
  obtain ⟨n, hn⟩ : ∃ n, n = l.length := ⟨_, rfl⟩
  rw [← hn] at HM ⊢
  have hn30 : ¬ (30 : Int) < n := by omega
  have HN := Lib.hid hn
  clear hn hE hl h
  have HM1 := Lib.hid (HM.out t)
  have HM2 := Lib.hid (HM.out (t.mix l))
  have hmm : (t.mix l).mix l = t.mix l := by unfold Tr.mix; rw [mix_twice]
  rw [hmm] at HM2
  have HF : Hid (∀ k, (t.mix l).f k = (t.f k || (decide (1 ≤ k) && decide (k ≤ 7) && l.contains (k : Int)))) := Lib.hid (fun k => rfl)
  have HAB : Hid ((t.mix l).a = t.a ∧ (t.mix l).b = t.b) := Lib.hid ⟨rfl, rfl⟩
  obtain ⟨m, hm⟩ : ∃ m, m = t.mix l := ⟨_, rfl⟩
  rw [← hm] at HM1 HM2 HF HAB
  clear hm hmm HM
  unfold trV at HM1 HM2 ⊢
  unfold trA at HM1 HM2 ⊢
  obtain ⟨c0, c1, c2, c3, c4, c5, c6, c7, c8, c9⟩ := TrC.of HT.out.tb
  go_enter Tryd.func6, Tryd.ntmps6
  have HB0 : Hid (Below w.heap.size w (w.alloc (.cells (trA t) 54))) := Lib.hid ((Below.refl _ _).alloc (Nat.le_refl _) _)
  go_wp2_with fail
  go_at_call 21
  refine (HM1.out _ HB0.out).mono ?_
  rintro e w1 ⟨rfl, hb1⟩
  have HT2 := Lib.hid (t2_new (HB0.out.trans (hb1.mono HB0.out.size)) hb1 m)
  clear hb1
  go_wp2_with fail
  obtain ⟨W2, hW⟩ : ∃ W2, W2 = w1.alloc (.cells #[.bool (m.f 0), .bool (m.f 1), .bool (m.f 2), .bool (m.f 3), .bool (m.f 4), .bool (m.f 5), .bool (m.f 6), .bool (m.f 7), .int .i64 m.a, .int .i64 m.b] 54) := ⟨_, rfl⟩
  have HTW : Hid (T2 w t m w1.heap.size W2) := Lib.hid (by rw [hW]; exact HT2.out)
  rw [← hW]
  clear hW HT2
  have HT2 := HTW
  clear HTW
  generalize w1.heap.size = M at *
  go_loopg [6, 7, 9, 17] 8 (fun q _ _ _ u17 wr => ∃ k : Nat, k + q = 8 ∧ u17 = .int .i64 k ∧ wr = W2)
  case atStart => exact ⟨0, by omega, rfl, rfl⟩
  case round =>
    obtain ⟨k, hkq, rfl, hwr⟩ := hrel
    subst hwr
    by_cases hk : k < 8
    · have hk2 : (k : Int) < 8 := by omega
      have hk0 : (0 : Int) ≤ k := by omega
      have hkn : (k : Int).toNat = k := by omega
      have a := (cell_of_row wr _ _ _ _ _ HT2.out.tb).trans (trA_at t k hk)
      have b := (cell_of_row wr _ _ _ _ _ HT2.out.mb).trans (trA_at m k hk)
      have la := lt_of_heap HT2.out.tb
      have lb := lt_of_heap HT2.out.mb
      have HW : Hid (wtB t k l = m.f k) := Lib.hid (by
        rw [HF.out k]; unfold wtB
        have : decide (k ≤ 7) = true := by simpa using (show k ≤ 7 by omega)
        rw [this, Bool.and_true])
      have HK8 := Lib.hid hk
      obtain ⟨mk, hmk⟩ : ∃ v, v = m.f k := ⟨_, rfl⟩
      rw [← hmk] at HW b
      clear hmk hk
      obtain ⟨tk, htk⟩ : ∃ v, v = t.f k := ⟨_, rfl⟩
      have HTK : Hid (wtB t k (l.take 0) = tk) := Lib.hid (by rw [htk]; unfold wtB; simp)
      rw [← htk] at a
      clear htk
      go_wp2_with fail
      obtain ⟨wo, hwo⟩ : ∃ wo, wo = wr := ⟨_, rfl⟩
      rw [← hwo] at HT2 a b la lb ⊢
      have HWO := Lib.hid hwo
      clear hwo
      go_loopg [7, 9, 26] n (fun q u7 _ u26 wx => ∃ i : Nat, ∃ v : Bool, i + q = n ∧ u7 = .bool v ∧ u26 = .int .i64 i ∧ wx = wo ∧ Aside (v = wtB t k (l.take i)))
      case atStart => exact ⟨0, tk, by omega, rfl, rfl, rfl, (show Aside _ from HTK.out.symm)⟩
      case round =>
        obtain ⟨i, v, hiq, rfl, rfl, hwx, hv⟩ := hrel
        subst hwx
        have HV := Lib.hid hv.out
        clear hv
        by_cases hlt : i < n
        · obtain ⟨g, o, rfl, hia⟩ := (HL.out.keep HT2.out.bel) (by have := HN.out; omega)
          have hx := hia i (by have := HN.out; omega)
          clear hia
          obtain ⟨x, hxx⟩ : ∃ x, x = l.getD i 0 := ⟨_, rfl⟩
          rw [← hxx] at hx
          have HNX := Lib.hid (wt_next (t := t) (k := k) (l := l) (i := i) (by have := HN.out; omega))
          rw [← HV.out, ← hxx] at HNX
          clear hxx
          have hi2 : (i : Int) < n := by omega
          cases v with
          | true =>
            go_wp2_with fail
            go_roundg (n - (i + 1))
            case measure => omega
            case rel => exact ⟨i + 1, true, by omega, by go_num, rfl, rfl, (show Aside _ from by rw [HNX.out]; rfl)⟩
          | false =>
            by_cases hxk : x = k
            · have hb : (x == (k : Int)) = true := by simpa using hxk
              by_cases h1 : (1 : Int) ≤ k
              · have HR : Hid (true = wtB t k (l.take (i + 1))) := Lib.hid (by rw [HNX.out]; simp [hxk]; omega)
                clear hxk
                go_wp2_with fail
                go_roundg (n - (i + 1))
                case measure => omega
                case rel => exact ⟨i + 1, true, by omega, by go_num, rfl, rfl, (show Aside _ from HR.out)⟩
              · have HR : Hid (false = wtB t k (l.take (i + 1))) := Lib.hid (by rw [HNX.out]; simp; omega)
                clear hxk
                go_wp2_with fail
                go_roundg (n - (i + 1))
                case measure => omega
                case rel => exact ⟨i + 1, false, by omega, by go_num, rfl, rfl, (show Aside _ from HR.out)⟩
            · have hb : (x == (k : Int)) = false := by simpa using hxk
              have HR : Hid (false = wtB t k (l.take (i + 1))) := Lib.hid (by rw [HNX.out]; simp [hxk])
              clear hxk
              go_wp2_with fail
              go_roundg (n - (i + 1))
              case measure => omega
              case rel => exact ⟨i + 1, false, by omega, by go_num, rfl, rfl, (show Aside _ from HR.out)⟩
        · have hi2 : ¬ (i : Int) < n := by omega
          have hvm : v = mk := by
            rw [HV.out, List.take_of_length_le (by have := HN.out; omega)]; exact HW.out
          subst hvm
          have hbb : (v == v) = true := beq_self_eq_true v
          go_wp2_with fail
          go_roundg (8 - (k + 1))
          case measure => have := HK8.out; omega
          case rel => exact ⟨k + 1, by have := HK8.out; omega, by go_num, HWO.out⟩
    · have hk2 : ¬ (k : Int) < 8 := by omega
      obtain ⟨d0, d1, d2, d3, d4, d5, d6, d7, d8, d9⟩ := TrC.of HT2.out.tb; obtain ⟨e0, e1, e2, e3, e4, e5, e6, e7, e8, e9⟩ := TrC.of HT2.out.mb; have dl := lt_of_heap HT2.out.tb; have el := lt_of_heap HT2.out.mb
      have hab := HAB.out
      obtain ⟨mf, ma, mb⟩ := m
      simp only at hab
      obtain ⟨rfl, rfl⟩ := hab
      have heq := fun w => trEq ⟨mf, t.a, t.b⟩ w
      have he2 := fun w => ar2Eq t.a t.b 9998 w
      unfold trV trA at heq
      simp only at heq HM1 HM2
      go_wp2_with fail
      go_region_held3 (fun w' => w'.cell? ⟨w.heap.size, 0, none⟩ = some (.bool (t.f 0)) ∧ w'.cell? ⟨w.heap.size, 1, none⟩ = some (.bool (t.f 1)) ∧ w'.cell? ⟨w.heap.size, 2, none⟩ = some (.bool (t.f 2)) ∧ w'.cell? ⟨w.heap.size, 3, none⟩ = some (.bool (t.f 3)) ∧ w'.cell? ⟨w.heap.size, 4, none⟩ = some (.bool (t.f 4)) ∧ w'.cell? ⟨w.heap.size, 5, none⟩ = some (.bool (t.f 5)) ∧ w'.cell? ⟨w.heap.size, 6, none⟩ = some (.bool (t.f 6)) ∧ w'.cell? ⟨w.heap.size, 7, none⟩ = some (.bool (t.f 7)) ∧ w'.cell? ⟨M, 0, none⟩ = some (.bool (mf 0)) ∧ w'.cell? ⟨M, 1, none⟩ = some (.bool (mf 1)) ∧ w'.cell? ⟨M, 2, none⟩ = some (.bool (mf 2)) ∧ w'.cell? ⟨M, 3, none⟩ = some (.bool (mf 3)) ∧ w'.cell? ⟨M, 4, none⟩ = some (.bool (mf 4)) ∧ w'.cell? ⟨M, 5, none⟩ = some (.bool (mf 5)) ∧ w'.cell? ⟨M, 6, none⟩ = some (.bool (mf 6)) ∧ w'.cell? ⟨M, 7, none⟩ = some (.bool (mf 7)) ∧ w'.cell? ⟨w.heap.size, 8, none⟩ = some (.int .i64 t.a) ∧ w'.cell? ⟨w.heap.size, 9, none⟩ = some (.int .i64 t.b) ∧ w'.cell? ⟨M, 8, none⟩ = some (.int .i64 t.a) ∧ w'.cell? ⟨M, 9, none⟩ = some (.int .i64 t.b)) (go_keep)
        ((first
          | (go_at_call 21; refine (HM2.out _ (HT2.out.bel.drew)).mono ?_; rintro e w5 ⟨rfl, hb5⟩; have HT5 := Lib.hid (HT2.out.keep ((Below.refl _ _).drew.trans hb5)); clear hb5; obtain ⟨f0, f1, f2, f3, f4, f5, f6, f7, f8, f9⟩ := TrC.of HT5.out.tb; obtain ⟨g0, g1, g2, g3, g4, g5, g6, g7, g8, g9⟩ := TrC.of HT5.out.mb; have fl := lt_of_heap HT5.out.tb; have gl := lt_of_heap HT5.out.mb)
          | (go_at_call 14; refine (HA.out _ HT5.out.bel).mono ?_; rintro e w6 ⟨rfl, hb6⟩; have HT6 := Lib.hid (HT5.out.keep hb6); clear hb6; obtain ⟨p0, p1, p2, p3, p4, p5, p6, p7, p8, p9⟩ := TrC.of HT6.out.tb; obtain ⟨q0, q1, q2, q3, q4, q5, q6, q7, q8, q9⟩ := TrC.of HT6.out.mb; have pl := lt_of_heap HT6.out.tb; have ql := lt_of_heap HT6.out.mb)))
      go_wp2_with fail
      go_ret
      exact ⟨rfl, HT6.out.bel⟩
theorem mixes_good (t : Tr) (s : Option Addr) (c : Nat) (l : List Int) (w : World) (hE : Ew w) (hl : IntsV w s l) : Calls Tryd.prog 6 #[trV t, .slice s l.length c] w fun e w' => e = .returned (.bool true) ∧ Below w.heap.size w w' := by
  by_cases h : 30 < l.length
  · exact mixes_long t s c l h w hE
  · exact mixes_few t s c l h w hE hl
end Go.Proofs.YtahbbojhdkillaaDoor
