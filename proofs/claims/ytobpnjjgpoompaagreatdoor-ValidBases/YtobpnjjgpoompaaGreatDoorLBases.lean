/- Layer 7: the law ValidBases. -/
import Derived.Test.YtobpnjjgpoompaaGreatDoorCm
namespace Go.Proofs.YtobpnjjgpoompaaGreatDoor
open Go.RowKit Go.Shelf

set_option maxRecDepth 100000 in
theorem nmVs_lit : (nmVs 15).toArray = #[.string ⟨#[78]⟩, .string ⟨#[75]⟩, .string ⟨#[88]⟩, .string ⟨#[78, 78]⟩, .string ⟨#[78, 75]⟩, .string ⟨#[78, 88]⟩, .string ⟨#[88, 78]⟩, .string ⟨#[88, 75]⟩, .string ⟨#[88, 88]⟩, .string ⟨#[75, 78]⟩, .string ⟨#[75, 75]⟩, .string ⟨#[75, 88]⟩, .string ⟨#[73, 78]⟩, .string ⟨#[73, 75]⟩, .string ⟨#[73, 88]⟩] := by rfl
/-- A row of the names. -/
def namesO : Obj := .cells (nmVs 15).toArray 9 (0, 0)
theorem names_at {w : World} {g k : Nat} (h : w.heap[g]? = some namesO) (hk : k < 15) : w.cell? ⟨g, k, none⟩ = some (.string (tb (2 * k))) := by
  rw [cell_of_row w g k _ _ _ h, List.getElem?_toArray]; exact nmVs_at hk
set_option maxRecDepth 100000 in
set_option maxHeartbeats 1000000 in
theorem refNames_any (w : World) : Calls Tryz.prog 15 #[] w fun e w' => e = .returned (.slice (some ⟨w.heap.size, 0, none⟩) 15 15) ∧ w'.heap[w.heap.size]? = some namesO ∧ Below w.heap.size w w' := by
  go_enter Tryz.func15, Tryz.ntmps15
  go_wp2
  go_ret
  refine ⟨rfl, ?_, (Below.refl _ _).alloc (Nat.le_refl _) _⟩
  unfold namesO
  rw [nmVs_lit]
  exact heap_alloc_new w _
theorem tb_data {k : Nat} (h : k < 15) : (tb (2 * k)).data.toList = (basePs.getD k zP).nm := by unfold tb; rw [tb_nm k h]
theorem bs_self : ∀ k, k < 15 → bsAt (basePs.getD k zP).nm basePs = some (basePs.getD k zP) := by decide
theorem bases_ok : ∀ j, j < 15 → ckE (basePs.getD j zP) = 0 := by decide
theorem bases_psk4 : ∀ j, j < 15 → ∀ k, k < 4 → pskE (basePs.getD j zP) ((k : Nat) : Int) = 0 → ckE (pskP (basePs.getD j zP) ((k : Nat) : Int)) = 0 ∨ ckR (pskP (basePs.getD j zP) ((k : Nat) : Int)) = 6 := by decide
theorem bases_len : ∀ j, j < 15 → (basePs.getD j zP).ms.length ≤ 3 := by decide
theorem bases_psk {j : Nat} (hj : j < 15) {n : Int} (h : pskE (basePs.getD j zP) n = 0) : ckE (pskP (basePs.getD j zP) n) = 0 ∨ ckR (pskP (basePs.getD j zP) n) = 6 := by
  have h1 := (psk_ok h).2
  have h2 := bases_len j hj
  simp only [pskOk, Bool.and_eq_true, decide_eq_true_eq] at h1
  obtain ⟨k, rfl⟩ : ∃ k : Nat, n = (k : Int) := ⟨n.toNat, by omega⟩
  exact bases_psk4 j hj k (by omega) h
set_option maxRecDepth 100000 in
set_option maxHeartbeats 2000000 in
theorem bases_good (n : Int) (w : World) (hE : Ev w) : Calls Tryz.prog 4 #[.int .i64 n] w fun e w' => e = .returned (.bool true) ∧ Below w.heap.size w w' := by
  have HE := Lib.hid hE; clear hE
  go_enter Tryz.func4, Tryz.ntmps4
  go_wp2_with fail
  go_at_call 15
  refine (refNames_any _).mono ?_
  rintro e w1 ⟨rfl, hn1, hb1⟩
  have HN1 := Lib.hid hn1
  have HB1 := Lib.hid hb1
  clear hn1 hb1
  go_wp2_with fail
  go_loopg [17] 15 (fun g u17 wr => ∃ j : Nat, j + g = 15 ∧ u17 = .int .i64 j ∧ Aside (Below w.heap.size w wr ∧ wr.heap[w.heap.size]? = some namesO))
  case atStart => exact ⟨0, rfl, rfl, (show _ ∧ _ from ⟨HB1.out, HN1.out⟩)⟩
  case round =>
    obtain ⟨j, hjg, rfl, hr⟩ := hrel
    have HR := Lib.hid hr.out
    clear hr
    by_cases hlt : j < 15
    · have hj2 : (j : Int) < 15 := by omega
      have hnm := names_at HR.out.2 hlt
      have lnm := lt_of_heap HR.out.2
      obtain ⟨T, hT⟩ : ∃ T, T = tb (2 * j) := ⟨_, rfl⟩
      rw [← hT] at hnm
      obtain ⟨p, hp⟩ : ∃ p, p = basePs.getD j zP := ⟨_, rfl⟩
      have hbs := bs_self j hlt
      have htd := tb_data hlt
      rw [← hT, ← hp] at htd
      rw [← hp] at hbs
      have HBS := Lib.hid (fun wx (hb : Below w.heap.size w wx) => base_any T wx (HE.out.eb.keep hb))
      have hb0 : bsP T.data.toList = p ∧ bsE T.data.toList = 0 := by rw [htd]; unfold bsP bsE; rw [hbs]; exact ⟨rfl, rfl⟩
      rw [hb0.1, hb0.2] at HBS
      have hck : ckE p = 0 := by rw [hp]; exact bases_ok j hlt
      have HC := Lib.hid (fun x wx (hb : Below w.heap.size w wx) (h : PatA wx x p) => check_any x p wx h (HE.out.ky.keep hb))
      rw [hck] at HC
      obtain ⟨q, hq⟩ : ∃ q, q = pskP p n := ⟨_, rfl⟩
      obtain ⟨g, hg⟩ : ∃ g, g = pskE p n := ⟨_, rfl⟩
      have HPK := Lib.hid (fun x wx (h : PatA wx x p) => psk_any x p n wx h)
      rw [← hq, ← hg] at HPK
      have HCQ := Lib.hid (fun x wx (hb : Below w.heap.size w wx) (h : PatA wx x q) => check_any x q wx h (HE.out.ky.keep hb))
      have HQ : Hid (g = 0 → ckE q = 0 ∨ ckR q = 6) := Lib.hid (fun h => by
        rw [hq, hp]; rw [hg, hp] at h; exact bases_psk hlt h)
      unfold patV at HBS HC HPK HCQ
      generalize ckR p = a0 at HC
      generalize ckI p = a1 at HC
      clear hT hp hbs htd hb0 hck hq hg
      go_wp2_with fail
      go_at_call 16
      refine (HBS.out _ HR.out.1).mono ?_
      rintro e w2 ⟨x, rfl, hx2, hb2⟩
      have hba := hb2.alloc hb2.size (.cells #[.string ⟨p.nm.toArray⟩, .slice x.s0 p.p0.length x.c0, .slice x.s1 p.p1.length x.c1, .slice x.s2 p.ms.length x.c2] 26)
      have HB2 := Lib.hid (HR.out.1.trans (hba.mono HR.out.1.size))
      have HX2 := Lib.hid (hx2.keep ((Below.refl _ _).alloc (Nat.le_refl _) (.cells #[.string ⟨p.nm.toArray⟩, .slice x.s0 p.p0.length x.c0, .slice x.s1 p.p1.length x.c1, .slice x.s2 p.ms.length x.c2] 26)))
      have HP2 := Lib.hid (heap_alloc_new w2 (.cells #[.string ⟨p.nm.toArray⟩, .slice x.s0 p.p0.length x.c0, .slice x.s1 p.p1.length x.c1, .slice x.s2 p.ms.length x.c2] 26))
      have HN2 := Lib.hid ((hba.block _ lnm).trans HR.out.2)
      clear hx2 hb2 hba hnm lnm
      go_wp2_with fail
      go_at_call 11
      refine (HC.out x _ HB2.out HX2.out).mono ?_
      rintro e w3 ⟨rfl, hb3⟩
      have HB3 := Lib.hid (HB2.out.trans (hb3.mono HB2.out.size))
      have HX3 := Lib.hid (HX2.out.keep hb3)
      have HP3 := Lib.hid ((hb3.block _ (lt_of_heap HP2.out)).trans HP2.out)
      have HN3 := Lib.hid ((hb3.block _ (lt_of_heap HN2.out)).trans HN2.out)
      clear hb3
      obtain ⟨b0, b1, b2, b3, -⟩ := box4c HP3.out
      go_wp2_with fail
      go_at_call 17
      refine (HPK.out x _ HX3.out).mono ?_
      rintro e w4 ⟨y, rfl, hy4, hb4⟩
      have hbb := hb4.alloc hb4.size (.cells #[.string ⟨q.nm.toArray⟩, .slice y.s0 q.p0.length y.c0, .slice y.s1 q.p1.length y.c1, .slice y.s2 q.ms.length y.c2] 26)
      have HB4 := Lib.hid (HB3.out.trans (hbb.mono HB3.out.size))
      have HY4 := Lib.hid (hy4.keep ((Below.refl _ _).alloc (Nat.le_refl _) (.cells #[.string ⟨q.nm.toArray⟩, .slice y.s0 q.p0.length y.c0, .slice y.s1 q.p1.length y.c1, .slice y.s2 q.ms.length y.c2] 26)))
      have HN4 := Lib.hid ((hbb.block _ (lt_of_heap HN3.out)).trans HN3.out)
      clear hy4 hb4 hbb b0 b1 b2 b3
      by_cases hg0 : g = 0
      · have HQ2 := Lib.hid (HQ.out hg0)
        subst hg0
        generalize ckI q = c1 at HCQ
        obtain ⟨c0, hc0⟩ : ∃ c, c = ckR q := ⟨_, rfl⟩
        obtain ⟨c2, hc2⟩ : ∃ c, c = ckE q := ⟨_, rfl⟩
        rw [← hc0, ← hc2] at HCQ HQ2
        clear hc0 hc2
        go_wp2_with fail
        go_at_call 11
        refine (HCQ.out y _ HB4.out HY4.out).mono ?_
        rintro e w5 ⟨rfl, hb5⟩
        have HB5 := Lib.hid (HB4.out.trans (hb5.mono HB4.out.size))
        have HN5 := Lib.hid ((hb5.block _ (lt_of_heap HN4.out)).trans HN4.out)
        clear hb5
        by_cases hz : c2 = 0
        · subst hz
          go_wp2_with fail
          go_roundg (15 - (j + 1))
          case measure => omega
          case rel => exact ⟨j + 1, by omega, by go_num, (show _ ∧ _ from ⟨HB5.out, HN5.out⟩)⟩
        · have h6 : c0 = 6 := by rcases HQ2.out with h | h; exact absurd h hz; exact h
          subst h6
          have hzb : (c2 != 0) = true := by simpa using hz
          clear hz
          go_wp2_with fail
          go_roundg (15 - (j + 1))
          case measure => omega
          case rel => exact ⟨j + 1, by omega, by go_num, (show _ ∧ _ from ⟨HB5.out, HN5.out⟩)⟩
      · have hgb : (g != 0) = true := by simpa using hg0
        clear hg0
        go_wp2_with fail
        go_roundg (15 - (j + 1))
        case measure => omega
        case rel => exact ⟨j + 1, by omega, by go_num, (show _ ∧ _ from ⟨HB4.out, HN4.out⟩)⟩
    · have hj2 : ¬ (j : Int) < 15 := by omega
      have HA := Lib.hid (awake_any _ (HE.out.keep HR.out.1))
      go_wp2_with (go_at_call 10; refine HA.out.mono ?_; rintro e w9 ⟨rfl, hb9⟩; have HB9 := Lib.hid (HR.out.1.trans (hb9.mono HR.out.1.size)); clear hb9)
      go_ret
      exact ⟨rfl, HB9.out⟩
end Go.Proofs.YtobpnjjgpoompaaGreatDoor
