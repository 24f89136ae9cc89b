/- Layer 9: the law LevelTable. -/
import Derived.Test.YtahbbojhdkillaaDoorLEnds
namespace Go.Proofs.YtahbbojhdkillaaDoor
open Go.RowKit Go.Shelf

theorem ints_new (w : World) (l : List Int) : intsAt (w.alloc (.cells (l.map (Value.int .i64)).toArray 3)) w.heap.size 0 l := fun i hi => by
  rw [Nat.zero_add, cell_of_row _ _ i _ _ _ (heap_alloc_new w _), List.getElem?_toArray, List.getElem?_map, List.getElem?_eq_getElem hi, List.getD_eq_getElem?_getD, List.getElem?_eq_getElem hi]
  rfl
set_option maxRecDepth 100000 in
set_option maxHeartbeats 4000000 in
theorem rtab_any (k : Nat) (hk : k < 15) (w : World) : Calls Tryd.prog 11 #[.string (tb (2 * k))] w fun e w' => ∃ g, e = .returned (.slice (some ⟨g, 0, none⟩) (tabL.getD k []).length (tabL.getD k []).length) ∧ intsAt w' g 0 (tabL.getD k []) ∧ Below w.heap.size w w' := by
  have hk15 : k = 0 ∨ k = 1 ∨ k = 2 ∨ k = 3 ∨ k = 4 ∨ k = 5 ∨ k = 6 ∨ k = 7 ∨ k = 8 ∨ k = 9 ∨ k = 10 ∨ k = 11 ∨ k = 12 ∨ k = 13 ∨ k = 14 := by omega
  clear hk
  rcases hk15 with rfl | rfl | rfl | rfl | rfl | rfl | rfl | rfl | rfl | rfl | rfl | rfl | rfl | rfl | rfl
  · rw [show tb (2 * 0) = ⟨#[78]⟩ from rfl, show tabL.getD 0 [] = [0, 2] from rfl]
    go_enter Tryd.func11, Tryd.ntmps11
    go_wp2_with fail
    go_ret
    exact ⟨w.heap.size, rfl, ints_new w [0, 2], (Below.refl _ _).alloc (Nat.le_refl _) _⟩
  · rw [show tb (2 * 1) = ⟨#[75]⟩ from rfl, show tabL.getD 1 [] = [1, 2] from rfl]
    go_enter Tryd.func11, Tryd.ntmps11
    go_wp2_with fail
    go_ret
    exact ⟨w.heap.size, rfl, ints_new w [1, 2], (Below.refl _ _).alloc (Nat.le_refl _) _⟩
  · rw [show tb (2 * 2) = ⟨#[88]⟩ from rfl, show tabL.getD 2 [] = [1, 2] from rfl]
    go_enter Tryd.func11, Tryd.ntmps11
    go_wp2_with fail
    go_ret
    exact ⟨w.heap.size, rfl, ints_new w [1, 2], (Below.refl _ _).alloc (Nat.le_refl _) _⟩
  · rw [show tb (2 * 3) = ⟨#[78, 78]⟩ from rfl, show tabL.getD 3 [] = [0, 0, 0, 1, 0, 1] from rfl]
    go_enter Tryd.func11, Tryd.ntmps11
    go_wp2_with fail
    go_ret
    exact ⟨w.heap.size, rfl, ints_new w [0, 0, 0, 1, 0, 1], (Below.refl _ _).alloc (Nat.le_refl _) _⟩
  · rw [show tb (2 * 4) = ⟨#[78, 75]⟩ from rfl, show tabL.getD 4 [] = [0, 2, 2, 1, 0, 5] from rfl]
    go_enter Tryd.func11, Tryd.ntmps11
    go_wp2_with fail
    go_ret
    exact ⟨w.heap.size, rfl, ints_new w [0, 2, 2, 1, 0, 5], (Below.refl _ _).alloc (Nat.le_refl _) _⟩
  · rw [show tb (2 * 5) = ⟨#[78, 88]⟩ from rfl, show tabL.getD 5 [] = [0, 0, 2, 1, 0, 5] from rfl]
    go_enter Tryd.func11, Tryd.ntmps11
    go_wp2_with fail
    go_ret
    exact ⟨w.heap.size, rfl, ints_new w [0, 0, 2, 1, 0, 5], (Below.refl _ _).alloc (Nat.le_refl _) _⟩
  · rw [show tb (2 * 6) = ⟨#[88, 78]⟩ from rfl, show tabL.getD 6 [] = [0, 0, 0, 1, 2, 1, 0, 5] from rfl]
    go_enter Tryd.func11, Tryd.ntmps11
    go_wp2_with fail
    go_ret
    exact ⟨w.heap.size, rfl, ints_new w [0, 0, 0, 1, 2, 1, 0, 5], (Below.refl _ _).alloc (Nat.le_refl _) _⟩
  · rw [show tb (2 * 7) = ⟨#[88, 75]⟩ from rfl, show tabL.getD 7 [] = [0, 2, 2, 1, 2, 5, 2, 5] from rfl]
    go_enter Tryd.func11, Tryd.ntmps11
    go_wp2_with fail
    go_ret
    exact ⟨w.heap.size, rfl, ints_new w [0, 2, 2, 1, 2, 5, 2, 5], (Below.refl _ _).alloc (Nat.le_refl _) _⟩
  · rw [show tb (2 * 8) = ⟨#[88, 88]⟩ from rfl, show tabL.getD 8 [] = [0, 0, 2, 1, 2, 5, 2, 5] from rfl]
    go_enter Tryd.func11, Tryd.ntmps11
    go_wp2_with fail
    go_ret
    exact ⟨w.heap.size, rfl, ints_new w [0, 0, 2, 1, 2, 5, 2, 5], (Below.refl _ _).alloc (Nat.le_refl _) _⟩
  · rw [show tb (2 * 9) = ⟨#[75, 78]⟩ from rfl, show tabL.getD 9 [] = [0, 0, 0, 3, 2, 1, 0, 5] from rfl]
    go_enter Tryd.func11, Tryd.ntmps11
    go_wp2_with fail
    go_ret
    exact ⟨w.heap.size, rfl, ints_new w [0, 0, 0, 3, 2, 1, 0, 5], (Below.refl _ _).alloc (Nat.le_refl _) _⟩
  · rw [show tb (2 * 10) = ⟨#[75, 75]⟩ from rfl, show tabL.getD 10 [] = [1, 2, 2, 4, 2, 5, 2, 5] from rfl]
    go_enter Tryd.func11, Tryd.ntmps11
    go_wp2_with fail
    go_ret
    exact ⟨w.heap.size, rfl, ints_new w [1, 2, 2, 4, 2, 5, 2, 5], (Below.refl _ _).alloc (Nat.le_refl _) _⟩
  · rw [show tb (2 * 11) = ⟨#[75, 88]⟩ from rfl, show tabL.getD 11 [] = [0, 0, 2, 3, 2, 5, 2, 5] from rfl]
    go_enter Tryd.func11, Tryd.ntmps11
    go_wp2_with fail
    go_ret
    exact ⟨w.heap.size, rfl, ints_new w [0, 0, 2, 3, 2, 5, 2, 5], (Below.refl _ _).alloc (Nat.le_refl _) _⟩
  · rw [show tb (2 * 12) = ⟨#[73, 78]⟩ from rfl, show tabL.getD 12 [] = [0, 0, 0, 3, 2, 1, 0, 5] from rfl]
    go_enter Tryd.func11, Tryd.ntmps11
    go_wp2_with fail
    go_ret
    exact ⟨w.heap.size, rfl, ints_new w [0, 0, 0, 3, 2, 1, 0, 5], (Below.refl _ _).alloc (Nat.le_refl _) _⟩
  · rw [show tb (2 * 13) = ⟨#[73, 75]⟩ from rfl, show tabL.getD 13 [] = [1, 2, 2, 4, 2, 5, 2, 5] from rfl]
    go_enter Tryd.func11, Tryd.ntmps11
    go_wp2_with fail
    go_ret
    exact ⟨w.heap.size, rfl, ints_new w [1, 2, 2, 4, 2, 5, 2, 5], (Below.refl _ _).alloc (Nat.le_refl _) _⟩
  · rw [show tb (2 * 14) = ⟨#[73, 88]⟩ from rfl, show tabL.getD 14 [] = [0, 0, 2, 3, 2, 5, 2, 5] from rfl]
    go_enter Tryd.func11, Tryd.ntmps11
    go_wp2_with fail
    go_ret
    exact ⟨w.heap.size, rfl, ints_new w [0, 0, 2, 3, 2, 5, 2, 5], (Below.refl _ _).alloc (Nat.le_refl _) _⟩
set_option maxRecDepth 100000 in
set_option maxHeartbeats 4000000 in
theorem table_nat (a : Nat) (ha : a < 256) (w : World) (hE : Ew w) : Calls Tryd.prog 3 #[.int .u8 a] w fun e w' => e = .returned (.bool true) ∧ Below w.heap.size w w' := by
  have HE := Lib.hid hE; clear hE
  have HA := Lib.hid (fun wx (hb : Below w.heap.size w wx) => awake9_any wx (HE.out.keep hb))
  have ha2 : (a : Int) < 256 := by omega
  have ha0 : (0 : Int) ≤ a := by omega
  have hcm : (IntKind.i64.wrap (a : Int)).tmod 5 = (a : Int) % 5 := by rw [wrap_small (by omega) (by omega)]; exact Int.tmod_eq_emod_of_nonneg (by omega)
  go_enter Tryd.func3, Tryd.ntmps3
  go_wp2_with fail
  go_at_call 10
  refine (refNames_any _).mono ?_
  rintro e w1 ⟨rfl, hn1, hb1⟩
  have HB1 := Lib.hid hb1
  have HN1 := Lib.hid hn1
  clear hn1 hb1
  go_wp2_with fail
  have HST : Hid (Below w.heap.size w w1 ∧ w1.heap[w.heap.size]? = some namesO) := Lib.hid ⟨HB1.out, HN1.out⟩
  clear HB1 HN1
  go_loopg [4, 5, 6, 7, 8, 9, 10, 11, 12, 15] 15 (fun q _ _ _ _ _ _ _ _ _ u15 wr => ∃ k : Nat, k + q = 15 ∧ u15 = .int .i64 k ∧ Aside (Below w.heap.size w wr ∧ wr.heap[w.heap.size]? = some namesO))
  case atStart => exact ⟨0, by omega, rfl, HST.out⟩
  case round =>
    obtain ⟨k, hkq, rfl, hr⟩ := hrel
    have HR := Lib.hid hr.out
    clear hr HST
    by_cases hk : k < 15
    · have hk2 : (k : Int) < 15 := by omega
      have n1 := names_at HR.out.2 hk
      have ln := lt_of_heap HR.out.2
      have HBS := Lib.hid (fun wx (hb : Below w.heap.size w wx) => base_nm hk wx (HE.out.keep hb).ev.eb)
      have HRT := Lib.hid (fun wx => rtab_any k hk wx)
      have htl := tab_len k hk
      have HTV := Lib.hid (base_tab k hk)
      have HTB := Lib.hid (fun n hn x wx (hb : Below w.heap.size w wx) (hp : PatA wx x (basePs.getD k zP)) => table_ok x (basePs.getD k zP) n hn (base_ck k hk) wx hp (HE.out.keep hb))
      obtain ⟨p, hp⟩ : ∃ p, p = basePs.getD k zP := ⟨_, rfl⟩
      rw [← hp] at HBS HTV HTB
      obtain ⟨T, hT⟩ : ∃ T, T = tb (2 * k) := ⟨_, rfl⟩
      rw [← hT] at n1 HBS HRT
      obtain ⟨R, hR⟩ : ∃ R, R = tabL.getD k [] := ⟨_, rfl⟩
      rw [← hR] at htl HTV HRT
      have hr8 : (R.length : Int) ≤ 8 := by omega
      have hr0 : (0 : Int) ≤ R.length := by omega
      have HRL := Lib.hid htl
      have HK := Lib.hid hk
      clear hp hT hR htl hk
      unfold patV at HBS HTB
      go_wp2_with fail
      go_at_call 11
      refine (HRT.out _).mono ?_
      rintro e w2 ⟨gr, rfl, hi2, hb2⟩
      have HS2 : Hid (Below w.heap.size w w2 ∧ w2.heap[w.heap.size]? = some namesO ∧ intsAt w2 gr 0 R) := Lib.hid ⟨HR.out.1.trans (hb2.mono HR.out.1.size), (hb2.block _ (lt_of_heap HR.out.2)).trans HR.out.2, hi2⟩
      clear hi2 hb2 n1 ln
      go_wp2_with fail
      go_at_call 12
      refine (HBS.out _ HS2.out.1).mono ?_
      rintro e w3 ⟨x, rfl, hx3, hb3⟩
      have hba := hb3.alloc hb3.size (.cells #[.string ⟨p.nm.toArray⟩, .slice x.s0 p.p0.length x.c0, .slice x.s1 p.p1.length x.c1, .slice x.s2 p.ms.length x.c2] 29)
      have HS3 : Hid (PatA (w3.alloc (.cells #[.string ⟨p.nm.toArray⟩, .slice x.s0 p.p0.length x.c0, .slice x.s1 p.p1.length x.c1, .slice x.s2 p.ms.length x.c2] 29)) x p ∧ Below w.heap.size w (w3.alloc (.cells #[.string ⟨p.nm.toArray⟩, .slice x.s0 p.p0.length x.c0, .slice x.s1 p.p1.length x.c1, .slice x.s2 p.ms.length x.c2] 29)) ∧ (w3.alloc (.cells #[.string ⟨p.nm.toArray⟩, .slice x.s0 p.p0.length x.c0, .slice x.s1 p.p1.length x.c1, .slice x.s2 p.ms.length x.c2] 29)).heap[w.heap.size]? = some namesO ∧ intsAt (w3.alloc (.cells #[.string ⟨p.nm.toArray⟩, .slice x.s0 p.p0.length x.c0, .slice x.s1 p.p1.length x.c1, .slice x.s2 p.ms.length x.c2] 29)) gr 0 R) := Lib.hid ⟨hx3.keep ((Below.refl _ _).alloc (Nat.le_refl _) _), HS2.out.1.trans (hba.mono HS2.out.1.size), (hba.block _ (lt_of_heap HS2.out.2.1)).trans HS2.out.2.1, fun i hi => by
        have h := HS2.out.2.2 i hi
        rw [hba.cell (p := ⟨gr, 0 + i, none⟩) (World.block_lt_of_cell? _ _ h)]; exact h⟩
      clear hx3 hb3 hba
      obtain ⟨N, hN⟩ : ∃ N, N = min (a % 5) (R.length / 2) := ⟨_, rfl⟩
      have hc : min ((a : Int) % 5) ((R.length : Int) / 2) = (N : Int) := by omega
      have HNL : Hid (2 * N ≤ R.length ∧ N ≤ 4) := Lib.hid (by have := HRL.out; omega)
      have hn4 : (N : Int) ≤ 4 := by omega
      have hn2 : 2 * (N : Int) ≤ R.length := by omega
      have HC := Lib.hid hc
      clear hN hc
      go_wp2_with fail
      rw [HC.out]
      go_at_call 13
      refine (HTB.out N (by have := HNL.out; omega) x _ HS3.out.2.1 HS3.out.1).mono ?_
      rintro e w4 ⟨s, c, rfl, hl4, hb4⟩
      have HS4 : Hid (Below w.heap.size w w4 ∧ w4.heap[w.heap.size]? = some namesO ∧ intsAt w4 gr 0 R ∧ LvR w4 s N p) := Lib.hid ⟨HS3.out.2.1.trans (hb4.mono HS3.out.2.1.size), (hb4.block _ (lt_of_heap HS3.out.2.2.1)).trans HS3.out.2.2.1, fun i hi => by
        have h := HS3.out.2.2.2 i hi
        rw [hb4.cell (p := ⟨gr, 0 + i, none⟩) (World.block_lt_of_cell? _ _ h)]; exact h, hl4⟩
      clear hl4 hb4
      go_wp2_with fail
      go_loopg [11, 12, 53] N (fun q _ _ u53 wx => ∃ i : Nat, i + q = N ∧ u53 = .int .i64 i ∧ Aside (Below w.heap.size w wx ∧ wx.heap[w.heap.size]? = some namesO ∧ intsAt wx gr 0 R ∧ LvR wx s N p))
      case atStart => exact ⟨0, by omega, rfl, HS4.out⟩
      case round =>
        obtain ⟨i, hiq, rfl, hs⟩ := hrel
        have HS := Lib.hid hs.out
        clear hs HS4
        by_cases hlt : i < N
        · have hi2 : (i : Int) < N := by omega
          have hi0 : (0 : Int) ≤ i := by omega
          obtain ⟨g, rfl, hg⟩ := HS.out.2.2.2 (by omega)
          obtain ⟨a0, a1⟩ := hg i hlt
          have he := HTV.out i (by have := HNL.out; omega) (by have := HNL.out; omega)
          rw [he] at a0 a1
          have la := World.block_lt_of_cell? _ _ a0
          simp only at la
          have d0 := HS.out.2.2.1 (2 * i) (by have := HNL.out; omega)
          have d1 := HS.out.2.2.1 (2 * i + 1) (by have := HNL.out; omega)
          rw [Nat.zero_add] at d0 d1
          have ld := World.block_lt_of_cell? _ _ d0
          simp only at ld
          have hi3 : 2 * (i : Int) < R.length := by omega
          have hi4 : 2 * (i : Int) + 1 < R.length := by have := HRL.out; omega
          have hn0 : (2 * (i : Int)).toNat = 2 * i := by omega
          have hn1 : (2 * (i : Int) + 1).toNat = 2 * i + 1 := by omega
          generalize R.getD (2 * i) 0 = z0 at a0 d0
          generalize R.getD (2 * i + 1) 0 = z1 at a1 d1
          have HBX : Hid (∀ o, Below wr.heap.size wr (wr.alloc o)) := Lib.hid (fun o => (Below.refl _ _).alloc (Nat.le_refl _) o)
          have HNX : Hid (∀ wy, Below wr.heap.size wr wy → Below w.heap.size w wy ∧ wy.heap[w.heap.size]? = some namesO ∧ intsAt wy gr 0 R ∧ LvR wy (some ⟨g, 0, none⟩) N p) := Lib.hid (fun wy hb => ⟨HS.out.1.trans (hb.mono HS.out.1.size), (hb.block _ (lt_of_heap HS.out.2.1)).trans HS.out.2.1, fun j hj => by
            have h := HS.out.2.2.1 j hj
            rw [hb.cell (p := ⟨gr, 0 + j, none⟩) (World.block_lt_of_cell? _ _ h)]; exact h, HS.out.2.2.2.keep hb⟩)
          clear hg he
          go_wp2_with fail
          go_quiet (fail)
          go_wp2_with fail
          go_roundg (N - (i + 1))
          case measure => omega
          case rel => exact ⟨i + 1, by omega, by go_num, (show Aside _ from HNX.out _ (belowN (HBX.out _)))⟩
        · have hi2 : ¬ (i : Int) < N := by omega
          go_wp2_with fail
          go_roundg (15 - (k + 1))
          case measure => have := HK.out; omega
          case rel => exact ⟨k + 1, by have := HK.out; omega, by go_num, HS.out.1, HS.out.2.1⟩
    · have hk2 : ¬ (k : Int) < 15 := by omega
      go_wp2_with fail
      go_at_call 14
      refine (HA.out _ HR.out.1).mono ?_
      rintro e w9 ⟨rfl, hb9⟩
      have HX9 := Lib.hid (HR.out.1.trans (hb9.mono HR.out.1.size))
      clear hb9
      go_wp2_with fail
      go_ret
      exact ⟨rfl, HX9.out⟩
theorem table_good (a : Int) (ha : (Lit.int .u8 a).wf = true) (w : World) (hE : Ew w) : Calls Tryd.prog 3 #[.int .u8 a] w fun e w' => e = .returned (.bool true) ∧ Below w.heap.size w w' := by
  have hb : 0 ≤ a ∧ a < 256 := by
    have h : (decide (IntKind.u8.min ≤ a) && decide (a ≤ IntKind.u8.max)) = true := ha
    simp only [Bool.and_eq_true, decide_eq_true_eq] at h
    have h0 : IntKind.u8.min = 0 := by decide
    have h1 : IntKind.u8.max = 255 := by decide
    omega
  obtain ⟨n, rfl⟩ : ∃ n : Nat, a = (n : Int) := ⟨a.toNat, by omega⟩
  exact table_nat n (by omega) w hE
end Go.Proofs.YtahbbojhdkillaaDoor
