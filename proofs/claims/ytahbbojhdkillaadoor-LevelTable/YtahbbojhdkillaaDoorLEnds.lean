/- Layer 9: the law LevelEnds. -/
import Derived.Test.YtahbbojhdkillaaDoorGh
import Derived.Test.YtahbbojhdkillaaDoorGn
namespace Go.Proofs.YtahbbojhdkillaaDoor
open Go.RowKit Go.Shelf

theorem bs_self : ∀ k, k < 15 → bsAt (basePs.getD k zP).nm basePs = some (basePs.getD k zP) := by decide
theorem base_ln : ∀ k, k < 15 → (basePs.getD k zP).ms.length ≤ 3 := by decide
/-- What a base pattern's name gives. -/
theorem base_nm {k : Nat} (hk : k < 15) (w : World) (hE : Eb w) : Calls Tryd.prog 12 #[.string (tb (2 * k))] w fun e w' => ∃ x, e = .returned (.tuple #[patV x (basePs.getD k zP), .int .i64 0]) ∧ PatA w' x (basePs.getD k zP) ∧ Below w.heap.size w w' := by
  have h := base_any (tb (2 * k)) w hE
  rw [tb_data hk] at h
  have e : bsP (basePs.getD k zP).nm = basePs.getD k zP ∧ bsE (basePs.getD k zP).nm = 0 := by unfold bsP bsE; rw [bs_self k hk]; exact ⟨rfl, rfl⟩
  rw [e.1, e.2] at h
  exact h
set_option maxRecDepth 100000 in
set_option maxHeartbeats 4000000 in
theorem ends_nat (a : Nat) (ha : a < 256) (w : World) (hE : Ew w) : Calls Tryd.prog 9 #[.int .u8 a] w fun e w' => e = .returned (.bool true) ∧ Below w.heap.size w w' := by
  have HE := Lib.hid hE; clear hE
  have HA := Lib.hid (fun wx (hb : Below w.heap.size w wx) => awake9_any wx (HE.out.keep hb))
  have ha2 : (a : Int) < 256 := by omega
  have ha0 : (0 : Int) ≤ a := by omega
  have hcm : (IntKind.i64.wrap (a : Int)).tmod 9 = (a : Int) % 9 := by rw [wrap_small (by omega) (by omega)]; exact Int.tmod_eq_emod_of_nonneg (by omega)
  go_enter Tryd.func9, Tryd.ntmps9
  go_wp2_with fail
  go_at_call 10
  refine (refNames_any _).mono ?_
  rintro e w1 ⟨rfl, hn1, hb1⟩
  have HB1 := Lib.hid hb1
  have HN1 := Lib.hid hn1
  clear hn1 hb1
  go_wp2_with fail
  have HST : Hid (Below w.heap.size w w1 ∧ w1.heap[w.heap.size]? = some namesO) := Lib.hid ⟨HB1.out, HN1.out⟩
  clear HB1 HN1
  go_loopg [4, 5, 6, 7, 8, 9, 10, 13] 15 (fun q _ _ _ _ _ _ _ u13 wr => ∃ k : Nat, k + q = 15 ∧ u13 = .int .i64 k ∧ Aside (Below w.heap.size w wr ∧ wr.heap[w.heap.size]? = some namesO))
  case atStart => exact ⟨0, by omega, rfl, HST.out⟩
  case round =>
    obtain ⟨k, hkq, rfl, hr⟩ := hrel
    have HR := Lib.hid hr.out
    clear hr HST
    by_cases hk : k < 15
    · have hk2 : (k : Int) < 15 := by omega
      have n1 := names_at HR.out.2 hk
      have ln := lt_of_heap HR.out.2
      have HBS := Lib.hid (base_nm hk wr (HE.out.keep HR.out.1).ev.eb)
      have hln := base_ln k hk
      have HEN := Lib.hid (base_ends k hk)
      have HTB := Lib.hid (fun n hn x wx (hb : Below w.heap.size w wx) (hp : PatA wx x (basePs.getD k zP)) => table_ok x (basePs.getD k zP) n hn (base_ck k hk) wx hp (HE.out.keep hb))
      obtain ⟨p, hp⟩ : ∃ p, p = basePs.getD k zP := ⟨_, rfl⟩
      rw [← hp] at HBS hln HEN HTB
      obtain ⟨T, hT⟩ : ∃ T, T = tb (2 * k) := ⟨_, rfl⟩
      rw [← hT] at n1 HBS
      have hl3 : (p.ms.length : Int) ≤ 3 := by omega
      have hl0 : (0 : Int) ≤ p.ms.length := by omega
      have hm : ((p.ms.length : Int) + 4 + (a : Int) % 9) = ((p.ms.length + 4 + a % 9 : Nat) : Int) := by omega
      have HTB := Lib.hid (HTB.out (p.ms.length + 4 + a % 9) (by omega))
      rw [← hm] at HTB
      have HK := Lib.hid hk
      clear hp hT hln hk hm
      unfold patV at HBS HTB
      go_wp2_with fail
      go_at_call 12
      refine HBS.out.mono ?_
      rintro e w2 ⟨x, rfl, hx2, hb2⟩
      have HX2 := Lib.hid (bx_more (HR.out.1.trans (hb2.mono HR.out.1.size)) x p)
      have HY2 := Lib.hid (hx2.keep ((Below.refl _ _).alloc (Nat.le_refl _) (.cells #[.string ⟨p.nm.toArray⟩, .slice x.s0 p.p0.length x.c0, .slice x.s1 p.p1.length x.c1, .slice x.s2 p.ms.length x.c2] 29)))
      have HN2 : Hid ((w2.alloc (.cells #[.string ⟨p.nm.toArray⟩, .slice x.s0 p.p0.length x.c0, .slice x.s1 p.p1.length x.c1, .slice x.s2 p.ms.length x.c2] 29)).heap[w.heap.size]? = some namesO) := Lib.hid (by
        have h2 := (hb2.block _ (lt_of_heap HR.out.2)).trans HR.out.2
        rw [Below.heap_alloc _ _ _ (lt_of_heap h2)]; exact h2)
      clear hx2 hb2 n1 ln
      go_wp2_with fail
      go_at_call 13
      refine (HTB.out x _ HX2.out.bel HY2.out).mono ?_
      rintro e w3 ⟨s, c, rfl, hl3, hb3⟩
      have HS3 : Hid (Below w.heap.size w w3 ∧ w3.heap[w.heap.size]? = some namesO ∧ LvR w3 s (p.ms.length + 4 + a % 9) p) := Lib.hid ⟨HX2.out.bel.trans (hb3.mono HX2.out.bel.size), (hb3.block _ (lt_of_heap HN2.out)).trans HN2.out, hl3⟩
      clear hl3 hb3
      obtain ⟨N, hN⟩ : ∃ N, N = p.ms.length + 4 + a % 9 := ⟨_, rfl⟩
      rw [← hN] at HS3 ⊢
      have hN20 : N < 20 := by omega
      have hN0 : p.ms.length + 4 ≤ N := by omega
      have HNN := Lib.hid (And.intro hN20 hN0)
      clear hN hN0
      have hN20i : (N : Int) < 20 := by omega
      clear hN20
      go_wp2_with fail
      go_loopg [10] (N - (p.ms.length + 4)) (fun q u10 wx => ∃ i : Nat, i + q = N ∧ p.ms.length + 4 ≤ i ∧ u10 = .int .i64 i ∧ Aside (Below w.heap.size w wx ∧ wx.heap[w.heap.size]? = some namesO ∧ LvR wx s N p))
      case atStart => exact ⟨p.ms.length + 4, by have := HNN.out; omega, Nat.le_refl _, rfl, HS3.out⟩
      case round =>
        obtain ⟨i, hiq, hi4, rfl, hs⟩ := hrel
        have HS := Lib.hid hs.out
        clear hs
        by_cases hlt : i < N
        · have hi2 : (i : Int) < N := by omega
          have hi3 : (2 : Int) ≤ i := by omega
          have hi20 : (i : Int) < 20 := by omega
          obtain ⟨g, rfl, hg⟩ := HS.out.2.2 (by omega)
          obtain ⟨a0, a1⟩ := hg i hlt
          obtain ⟨d0, d1⟩ := hg (i - 2) (by omega)
          have he := HEN.out i (by omega) hi4
          rw [he] at a0 a1
          have la := World.block_lt_of_cell? _ _ a0
          simp only at la
          have hsub : ((i : Int) - 2).toNat = i - 2 := by omega
          have hs0 : (0 : Int) ≤ (i : Int) - 2 := by omega
          have hs1 : (i : Int) - 2 < N := by omega
          generalize (lvl p (i - 2)).1 = z0 at a0 d0
          generalize (lvl p (i - 2)).2 = z1 at a1 d1
          have HI4 := Lib.hid hi4
          clear hg he hi4
          go_wp2_with fail
          go_quiet (fail)
          go_wp2_with fail
          go_roundg (N - (i + 1))
          case measure => omega
          case rel => exact ⟨i + 1, by omega, by have := HI4.out; omega, by go_num, (show Aside _ from ⟨belowN HS.out.1, HS.out.2.1, HS.out.2.2.keep (belowN (Below.refl _ _))⟩)⟩
        · have hi2 : ¬ (i : Int) < N := by omega
          go_wp2_with fail
          go_roundg (15 - (k + 1))
          case measure => have := HK.out; omega
          case rel => exact ⟨k + 1, by have := HK.out; omega, by go_num, HS.out.1, HS.out.2.1⟩
    · have hk2 : ¬ (k : Int) < 15 := by omega
      go_wp2_with fail
      go_at_call 14
      refine (HA.out _ HR.out.1).mono ?_
      rintro e w9 ⟨rfl, hb9⟩
      have HX9 := Lib.hid (HR.out.1.trans (hb9.mono HR.out.1.size))
      clear hb9
      go_wp2_with fail
      go_ret
      exact ⟨rfl, HX9.out⟩
theorem ends_good (a : Int) (ha : (Lit.int .u8 a).wf = true) (w : World) (hE : Ew w) : Calls Tryd.prog 9 #[.int .u8 a] w fun e w' => e = .returned (.bool true) ∧ Below w.heap.size w w' := by
  have hb : 0 ≤ a ∧ a < 256 := by
    have h : (decide (IntKind.u8.min ≤ a) && decide (a ≤ IntKind.u8.max)) = true := ha
    simp only [Bool.and_eq_true, decide_eq_true_eq] at h
    have h0 : IntKind.u8.min = 0 := by decide
    have h1 : IntKind.u8.max = 255 := by decide
    omega
  obtain ⟨n, rfl⟩ : ∃ n : Nat, a = (n : Int) := ⟨a.toNat, by omega⟩
  exact ends_nat n (by omega) w hE
end Go.Proofs.YtahbbojhdkillaaDoor
