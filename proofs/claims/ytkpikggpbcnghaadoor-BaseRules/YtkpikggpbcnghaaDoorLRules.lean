/- The law BaseRules. -/
import Derived.Test.YtkpikggpbcnghaaDoorLTable
namespace Go.Proofs.YtkpikggpbcnghaaDoor
open Go.RowKit Go.Shelf

theorem rules_all : ∀ j, j < 15 → ∀ k, k < (basePs.getD j zP).ms.length → ((basePs.getD j zP).ms.getD k default).fr = ((k % 2 : Nat) : Int) ∧ ((basePs.getD j zP).ms.getD k default).t.all (fun t => decide (t ≠ 7)) = true := by decide
set_option maxRecDepth 100000 in
set_option maxHeartbeats 2000000 in
theorem rules_nat (a : Nat) (ha : a < 256) (w : World) (hE : Eb w) : Calls Tryd.prog 7 #[.int .u8 a] w fun e w' => e = .returned (.bool true) ∧ Below w.heap.size w w' := by
  have HE := Lib.hid hE; clear hE
  have HA := Lib.hid (fun wx (hb : Below w.heap.size w wx) => awake_any wx (HE.out.keep hb))
  have ha2 : (a : Int) < 256 := by omega
  have ha0 : (0 : Int) ≤ a := by omega
  have hj15 : a % 15 < 15 := by omega
  obtain ⟨p, hp⟩ : ∃ p, p = basePs.getD (a % 15) zP := ⟨_, rfl⟩
  have hrt := base_right _ hj15
  have hbs := bs_self _ hj15
  have htd := tb_data hj15
  have hal := rules_all _ hj15
  rw [← hp] at hrt hbs htd hal
  obtain ⟨T, hT⟩ : ∃ T, T = tb (2 * (a % 15)) := ⟨_, rfl⟩
  rw [← hT] at htd
  have HBS := Lib.hid (fun wx (hb : Below w.heap.size w wx) => base_any T wx (HE.out.keep hb))
  have hb0 : bsP T.data.toList = p ∧ bsE T.data.toList = 0 := by rw [htd]; unfold bsP bsE; rw [hbs]; exact ⟨rfl, rfl⟩
  rw [hb0.1, hb0.2] at HBS
  have HRT := Lib.hid (fun wx y (h : PatA wx y p) => right_any y p wx h)
  rw [hrt] at HRT
  have hqs : (⟨p.nm.toArray⟩ : ByteArray) = T := by rw [← htd]
  unfold patV at HBS HRT
  rw [hqs] at HBS HRT
  have HAL := Lib.hid hal
  have HL6 := Lib.hid (first_len hrt)
  have HNC : Hid (∀ gn (wr : World), (∃ cur, wr.heap[gn]? = some (.cells cur 9 (0, 0)) ∧ ∀ k, k < 15 → cur[k]? = some (.string (tb (2 * k)))) → wr.cell? ⟨gn, a % 15, none⟩ = some (.string T)) := Lib.hid (fun gn wr ⟨cur, h1, h2⟩ => by rw [cell_of_row wr gn _ _ _ _ h1, h2 _ hj15, hT])
  clear hp hrt hbs htd hal hb0 hqs hT
  have hj15i : (a : Int) % 15 < 15 := by omega
  have hi0 : (0 : Int) ≤ (a : Int) % 15 := by omega
  have hcm : (IntKind.i64.wrap (a : Int)).tmod 15 = (a : Int) % 15 := by rw [wrap_small (by omega) (by omega)]; exact Int.tmod_eq_emod_of_nonneg (by omega)
  have hnt : ((a : Int) % 15).toNat = a % 15 := by omega
  go_enter Tryd.func7, Tryd.ntmps7
  go_wp2_with (first
      | (go_at_call 9; refine (names_any _ HE.out).mono ?_; rintro e w1 ⟨s1, c1, rfl, hn1, hb1⟩; obtain ⟨gn, hs1, hn⟩ := names_row hn1; subst hs1; have HN1 := Lib.hid hn; have HB1 := Lib.hid hb1; clear hn1 hb1 hn; have n1 := HNC.out gn w1 HN1.out)
      | (go_at_call 11; refine (HBS.out _ HB1.out).mono ?_; rintro e w2 ⟨y, rfl, hy2, hb2⟩; have HY2 := Lib.hid hy2; have HB2 := Lib.hid hb2; clear hy2 hb2 n1)
      | (go_at_call 17; refine (HRT.out _ y (HY2.out.keep ((Below.refl _ _).alloc (Nat.le_refl _) _))).mono ?_; rintro e w3 ⟨rfl, hb3⟩; have HB3 := Lib.hid hb3; clear hb3; obtain ⟨a0, a1, a2, a3, hbw⟩ := box4 HB3.out; have HB4 := Lib.hid hbw; clear hbw))
  have HST : Hid (Below w.heap.size w w3 ∧ w3.heap[w2.heap.size]? = some (.cells #[.string T, .slice y.s0 p.p0.length y.c0, .slice y.s1 p.p1.length y.c1, .slice y.s2 p.ms.length y.c2] 29 (0, 0)) ∧ PatA w3 y p ∧ w3.cell? ⟨gn, a % 15, none⟩ = some (.string T)) := Lib.hid (by
    have h1 := HB1.out.trans (HB2.out.mono HB1.out.size)
    have h2 := h1.trans (HB4.out.mono h1.size)
    refine ⟨h2, (HB3.out.block _ (by simp)).trans (heap_alloc_new w2 _), HY2.out.keep HB4.out, ?_⟩
    have h3 := HNC.out gn w1 HN1.out
    have h4 := HB2.out.trans (HB4.out.mono HB2.out.size)
    rw [h4.cell (p := ⟨gn, a % 15, none⟩) (World.block_lt_of_cell? _ _ h3)]; exact h3)
  clear a0 a1 a2 a3 HB1 HB2 HB3 HB4 HY2 HN1 HNC HBS HRT
  go_loopg [6, 7, 9, 34] p.ms.length (fun g _ _ _ u34 wr => ∃ k : Nat, k + g = p.ms.length ∧ u34 = .int .i64 k ∧ Aside (Below w.heap.size w wr ∧ wr.heap[w2.heap.size]? = some (.cells #[.string T, .slice y.s0 p.p0.length y.c0, .slice y.s1 p.p1.length y.c1, .slice y.s2 p.ms.length y.c2] 29 (0, 0)) ∧ PatA wr y p ∧ wr.cell? ⟨gn, a % 15, none⟩ = some (.string T)))
  case atStart => exact ⟨0, by omega, rfl, HST.out⟩
  case round =>
    obtain ⟨k, hkq, rfl, hr⟩ := hrel
    have HR := Lib.hid hr.out
    clear hr HST
    by_cases hlt : k < p.ms.length
    · have hk2 : (k : Int) < p.ms.length := by omega
      have hl6 : (p.ms.length : Int) ≤ 6 := by have := HL6.out.1.2; omega
      obtain ⟨g, o, hy2, hms⟩ := HR.out.2.2.1.im (by omega)
      obtain ⟨m0, sx, cx, m1, m2⟩ := hms k hlt
      clear hms
      obtain ⟨hfr, hat⟩ := HAL.out k hlt
      have htl := HL6.out.2.2 k hlt
      obtain ⟨t, ht⟩ : ∃ t, t = (p.ms.getD k default).t := ⟨_, rfl⟩
      rw [← ht] at m1 m2 hat htl
      rw [hfr] at m0
      obtain ⟨gl, ol, hsx, hci⟩ := m2 (by omega)
      subst hsx
      have HCI := Lib.hid hci
      have HAT := Lib.hid hat
      have HTL := Lib.hid htl
      have hmod : (((k % 2 : Nat) : Int) == (k : Int) % 2) = true := by simp
      have ht12 : (t.length : Int) ≤ 12 := by omega
      have lg := World.block_lt_of_cell? _ _ m0
      have lt0 : gl < wr.heap.size := World.block_lt_of_cell? _ _ (hci 0 (by omega))
      clear ht hci hat htl hfr m2
      rw [hy2]
      go_wp2_with fail
      have HWB : Hid (Below wr.heap.size wr (wr.alloc (.cells #[.int .i64 ((k : Int) % 2), .slice (some ⟨gl, ol, none⟩) t.length cx] 42))) := Lib.hid ((Below.refl _ _).alloc (Nat.le_refl _) _)
      generalize wr.alloc (.cells #[.int .i64 ((k : Int) % 2), .slice (some ⟨gl, ol, none⟩) t.length cx] 42) = WI at *
      have HCW : Hid (∀ i, i < t.length → WI.cell? ⟨gl, ol + i, none⟩ = some (.int .i64 (t.getD i 0))) := Lib.hid (fun i hli => by
        have := HCI.out i hli
        rw [HWB.out.cell (p := ⟨gl, ol + i, none⟩) (World.block_lt_of_cell? _ _ this)]; exact this)
      clear m0 m1 lg lt0 hmod
      go_loopg [9, 47] t.length (fun g' _ u47 wx => ∃ i : Nat, i + g' = t.length ∧ u47 = .int .i64 i ∧ wx = WI)
      case atStart => exact ⟨0, by omega, rfl, rfl⟩
      case round =>
        obtain ⟨i, hiq, rfl, hwx⟩ := hrel
        subst hwx
        by_cases hli : i < t.length
        · have hi2 : (i : Int) < t.length := by omega
          have ci := HCW.out i hli
          have c7 : t.getD i 0 ≠ 7 := by
            have := List.all_eq_true.1 HAT.out (t.getD i 0) (by rw [List.getD_eq_getElem?_getD, List.getElem?_eq_getElem hli]; simp)
            simpa using this
          obtain ⟨tv, htv⟩ : ∃ tv, tv = t.getD i 0 := ⟨_, rfl⟩
          rw [← htv] at ci c7
          have c7b : (tv == 7) = false := by simpa using c7
          clear htv c7
          go_wp2_with fail
          go_roundg (t.length - (i + 1))
          case measure => omega
          case rel => exact ⟨i + 1, by omega, by go_num, rfl⟩
        · have hi2 : ¬ (i : Int) < t.length := by omega
          go_wp2_with fail
          rw [← hy2]
          go_roundg (p.ms.length - (k + 1))
          case measure => omega
          case rel => exact ⟨k + 1, by omega, by go_num, (show _ ∧ _ from ⟨HR.out.1.trans (HWB.out.mono HR.out.1.size), (HWB.out.block _ (lt_of_heap HR.out.2.1)).trans HR.out.2.1, HR.out.2.2.1.keep HWB.out, by rw [HWB.out.cell (p := ⟨gn, a % 15, none⟩) (World.block_lt_of_cell? _ _ HR.out.2.2.2)]; exact HR.out.2.2.2⟩)⟩
    · have hk2 : ¬ (k : Int) < p.ms.length := by omega
      obtain ⟨a0, a1, a2, a3, -⟩ := box4c HR.out.2.1
      have n1 := HR.out.2.2.2
      have HKE : Hid (∀ wx, Below wr.heap.size wr wx → wx.cell? ⟨w2.heap.size, 0, none⟩ = some (.string T) ∧ wx.cell? ⟨gn, a % 15, none⟩ = some (.string T)) := Lib.hid (fun wx hb => keep2 hb a0 n1)
      go_wp2_with fail
      have l1 := World.block_lt_of_cell? _ _ a0
      have l2 := World.block_lt_of_cell? _ _ n1
      go_region_law (go_simp; go_at_call 8; refine (HA.out _ HR.out.1.drew).mono ?_; rintro e w9 ⟨rfl, hb9⟩; obtain ⟨f0, f1⟩ := HKE.out w9 ((Below.refl _ _).drew.trans hb9))
      all_goals
        go_wp2_with fail
        go_ret
        exact ⟨rfl, HR.out.1.trans (((Below.refl _ _).drew.trans hb9).mono HR.out.1.size)⟩
theorem rules_good (a : Int) (ha : (Lit.int .u8 a).wf = true) (w : World) (hE : Eb w) : Calls Tryd.prog 7 #[.int .u8 a] w fun e w' => e = .returned (.bool true) ∧ Below w.heap.size w w' := by
  have hb : 0 ≤ a ∧ a < 256 := by
    have h : (decide (IntKind.u8.min ≤ a) && decide (a ≤ IntKind.u8.max)) = true := ha
    simp only [Bool.and_eq_true, decide_eq_true_eq] at h
    have h0 : IntKind.u8.min = 0 := by decide
    have h1 : IntKind.u8.max = 255 := by decide
    omega
  obtain ⟨n, rfl⟩ : ∃ n : Nat, a = (n : Int) := ⟨a.toNat, by omega⟩
  exact rules_nat n (by omega) w hE
end Go.Proofs.YtkpikggpbcnghaaDoor
