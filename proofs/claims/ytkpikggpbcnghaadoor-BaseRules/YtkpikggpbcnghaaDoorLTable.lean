/- The law BaseTable. -/
import Derived.Test.YtkpikggpbcnghaaDoorLc6
namespace Go.Proofs.YtkpikggpbcnghaaDoor
open Go.RowKit Go.Shelf

/-- Both rows of names, in memory. -/
structure Nr (w : World) (gn gw : Nat) (wr : World) : Prop where
  bel : Below w.heap.size w wr
  nr : ∃ cur, wr.heap[gn]? = some (.cells cur 9 (0, 0)) ∧ ∀ k, k < 15 → cur[k]? = some (.string (tb (2 * k)))
  wn : wr.heap[gw]? = some namesO
theorem Nr.keep {w : World} {gn gw : Nat} {wr wx : World} (h : Nr w gn gw wr) (hb : Below wr.heap.size wr wx) : Nr w gn gw wx := by
  obtain ⟨cur, h1, h2⟩ := h.nr
  exact ⟨h.bel.trans (hb.mono h.bel.size), ⟨cur, (hb.block _ (lt_of_heap h1)).trans h1, h2⟩, (hb.block _ (lt_of_heap h.wn)).trans h.wn⟩
theorem Nr.at_ {w : World} {gn gw : Nat} {wr : World} (h : Nr w gn gw wr) {k : Nat} (hk : k < 15) : wr.cell? ⟨gn, k, none⟩ = some (.string (tb (2 * k))) ∧ wr.cell? ⟨gw, k, none⟩ = some (.string (tb (2 * k))) ∧ gn < wr.heap.size ∧ gw < wr.heap.size := by
  obtain ⟨cur, h1, h2⟩ := h.nr
  exact ⟨(cell_of_row wr gn k _ _ _ h1).trans (h2 k hk), names_at h.wn hk, lt_of_heap h1, lt_of_heap h.wn⟩
theorem names_row {w w1 : World} {s : Option Addr} {c : Nat} (h : w1.ownsRow w.heap.size 9 1 (.slice s 15 c) 15 (nmVs 15)) : ∃ gn, s = some ⟨gn, 0, none⟩ ∧ ∃ cur, w1.heap[gn]? = some (.cells cur 9 (0, 0)) ∧ ∀ k, k < 15 → cur[k]? = some (.string (tb (2 * k))) := by
  obtain ⟨_, ⟨_, e⟩ | ⟨g, cap, cur, e, _, hg, _, _, _, ht⟩⟩ := h
  · cases e
  · have es : s = some ⟨g, 0, none⟩ := by simpa using (Value.slice.inj e).1
    refine ⟨g, es, cur, hg, fun k hk => ?_⟩
    have := nmVs_at hk
    rw [← ht, List.getElem?_take, if_pos (by omega), Array.getElem?_toList] at this
    exact this

set_option maxRecDepth 100000 in
set_option maxHeartbeats 2000000 in
theorem table_good (s : ByteArray) (w : World) (hE : Eb w) : Calls Tryd.prog 3 #[.string s] w fun e w' => e = .returned (.bool true) ∧ Below w.heap.size w w' := by
  have HE := Lib.hid hE; clear hE
  have HA := Lib.hid (fun wx (hb : Below w.heap.size w wx) => awake_any wx (HE.out.keep hb))
  by_cases h40 : 40 < s.size
  · have h40i : (40 : Int) < s.size := by omega
    clear h40
    go_enter Tryd.func3, Tryd.ntmps3
    go_wp2_with (go_at_call 8; refine (HA.out _ (Below.refl _ _)).mono ?_; rintro e w9 ⟨rfl, hb9⟩; have HB9 := Lib.hid hb9; clear hb9)
    go_ret
    exact ⟨rfl, HB9.out⟩
  · have h40i : ¬ (40 : Int) < s.size := by omega
    clear h40
    go_enter Tryd.func3, Tryd.ntmps3
    go_wp2_with (first
      | (go_at_call 9; refine (names_any _ HE.out).mono ?_; rintro e w1 ⟨s1, c1, rfl, hn1, hb1⟩; obtain ⟨gn, hs1, hn⟩ := names_row hn1; subst hs1; have HN1 := Lib.hid hn; have HB1 := Lib.hid hb1; clear hn1 hb1 hn)
      | (go_at_call 10; refine (refNames_any _).mono ?_; rintro e w2 ⟨rfl, hn2, hb2⟩; have HNR : Hid (Nr w gn w1.heap.size w2) := Lib.hid (by
          obtain ⟨cur, h1, h2⟩ := HN1.out
          exact ⟨HB1.out.trans (hb2.mono HB1.out.size), ⟨cur, (hb2.block _ (lt_of_heap h1)).trans h1, h2⟩, hn2⟩); clear hn2 hb2))
    go_loopg [5, 6, 7, 8, 9, 25] 15 (fun g _ _ _ _ _ u25 wr => ∃ k : Nat, k + g = 15 ∧ u25 = .int .i64 k ∧ Aside (Nr w gn w1.heap.size wr))
    case atStart => exact ⟨0, by omega, rfl, HNR.out⟩
    case round =>
      obtain ⟨k, hkq, rfl, hr⟩ := hrel
      have HR := Lib.hid hr.out
      clear hr HNR HN1
      by_cases hlt : k < 15
      · have hk2 : (k : Int) < 15 := by omega
        obtain ⟨p, hp⟩ : ∃ p, p = basePs.getD k zP := ⟨_, rfl⟩
        have hrt := base_right k hlt
        have hbs := bs_self k hlt
        have htx := txt_at hlt
        have htd := tb_data hlt
        rw [← hp] at hrt hbs htx htd
        obtain ⟨T, hT⟩ : ∃ T, T = tb (2 * k) := ⟨_, rfl⟩
        rw [← hT] at htd
        have HAT : Hid (∀ wx, Below wr.heap.size wr wx → wx.cell? ⟨gn, k, none⟩ = some (.string T) ∧ wx.cell? ⟨w1.heap.size, k, none⟩ = some (.string T) ∧ gn < wx.heap.size ∧ w1.heap.size < wx.heap.size) := Lib.hid (fun wx hb => by rw [hT]; exact (HR.out.keep hb).at_ hlt)
        have HBS := Lib.hid (base_any T wr (HE.out.keep HR.out.bel))
        have hb0 : bsP T.data.toList = p ∧ bsE T.data.toList = 0 := by rw [htd]; unfold bsP bsE; rw [hbs]; exact ⟨rfl, rfl⟩
        rw [hb0.1, hb0.2] at HBS
        obtain ⟨S, hS⟩ : ∃ S : ByteArray, S = ⟨(prn p).toArray⟩ := ⟨_, rfl⟩
        have HPR := Lib.hid (fun wx y (h : PatA wx y p) (hE : En wx) => print_any y p wx h hE)
        have hpr : prnR p = prn p ∧ prnE p = 0 := by unfold prnR prnE; rw [hrt]; exact ⟨rfl, rfl⟩
        rw [hpr.1, hpr.2, ← hS] at HPR
        have HTX := Lib.hid (fun wx => refText_any T wx)
        rw [htd, htx, ← hS] at HTX
        obtain ⟨n1, n2, l1, l2⟩ := HAT.out wr (Below.refl _ _)
        unfold patV at HBS HPR
        clear hp hrt hbs htx htd hT hb0 hS hpr
        go_wp2_with (first
          | (go_at_call 11; refine HBS.out.mono ?_; rintro e w3 ⟨y, rfl, hy3, hb3⟩; have HY3 := Lib.hid hy3; have HB3 := Lib.hid hb3; clear hy3 hb3)
          | (go_at_call 12; refine (HPR.out _ y (HY3.out.keep ((Below.refl _ _).alloc (Nat.le_refl _) _)) ((HE.out.keep HR.out.bel).en.keep (HB3.out.alloc HB3.out.size _))).mono ?_; rintro e w4 ⟨rfl, hb4⟩; have HB4 := Lib.hid (HB3.out.trans ((((Below.refl _ _).alloc (Nat.le_refl _) _).trans (hb4.mono (by simp))).mono HB3.out.size)); clear hb4 n1 n2 l1 l2; obtain ⟨n1, n2, l1, l2⟩ := HAT.out w4 HB4.out))
        go_quiet ((go_at_call 13; first | exact Calls.quiet_of_same ((HTX.out _).mono fun _ _ ⟨he, hw⟩ => ⟨he, hw.symm⟩) | exact Calls.quiet_of_same ((HTX.out _).mono fun _ _ ⟨he, hw⟩ => ⟨he, hw⟩)))
        go_wp2_with fail
        go_roundg (15 - (k + 1))
        case measure => omega
        case rel => exact ⟨k + 1, by omega, by go_num, HR.out.keep (belowN HB4.out)⟩
      · have hk2 : ¬ (k : Int) < 15 := by omega
        have HBS := Lib.hid (base_any s wr (HE.out.keep HR.out.bel))
        have HTX := Lib.hid (fun wx => refText_any s wx)
        by_cases hb : bsE s.data.toList = 0
        · obtain ⟨hr, hn⟩ := bs_right hb
          obtain ⟨p, hp⟩ : ∃ p, p = bsP s.data.toList := ⟨_, rfl⟩
          rw [← hp] at hr hn
          rw [hb, ← hp] at HBS
          have htx : txtY s.data.toList = prn p := by
            unfold txtY
            unfold bsE at hb
            unfold bsP at hp
            cases e : bsAt s.data.toList basePs with
            | none => rw [e] at hb; simp at hb
            | some v => rw [e] at hp; rw [hp]; rfl
          obtain ⟨S, hS⟩ : ∃ S : ByteArray, S = ⟨(prn p).toArray⟩ := ⟨_, rfl⟩
          rw [htx, ← hS] at HTX
          have hne : (S.toList == []) = false := by
            rw [hS, ByteArray.toList_eq]
            obtain ⟨c, r, e, _⟩ := prn_first hr
            show (prn p == []) = false
            rw [e]; rfl
          have hqs : (⟨p.nm.toArray⟩ : ByteArray) = s := by rw [hn]
          unfold patV at HBS
          rw [hqs] at HBS
          clear hb hr hn hp htx hS hqs
          go_wp2_with (first
            | (go_at_call 11; refine HBS.out.mono ?_; rintro e w3 ⟨y, rfl, hy3, hb3⟩; have HB3 := Lib.hid (HR.out.bel.trans (hb3.mono HR.out.bel.size)); clear hy3 hb3)
            | (go_at_call 13; refine (HTX.out _).mono ?_; rintro e w5 ⟨rfl, rfl⟩)
            | (go_at_call 8; refine (HA.out _ (HB3.out.alloc HB3.out.size _)).mono ?_; rintro e w9 ⟨rfl, hb9⟩; have HB9 := Lib.hid ((HB3.out.alloc HB3.out.size _).trans (hb9.mono (HB3.out.alloc HB3.out.size _).size)); clear hb9))
          go_ret
          exact ⟨rfl, HB9.out⟩
        · have hb4 : bsE s.data.toList = 4 ∧ bsP s.data.toList = zP ∧ txtY s.data.toList = [] := by
            unfold bsE at hb ⊢
            unfold bsP txtY
            cases e : bsAt s.data.toList basePs with
            | none => exact ⟨rfl, rfl, rfl⟩
            | some v => rw [e] at hb; exact absurd rfl hb
          rw [hb4.1, hb4.2.1] at HBS
          rw [hb4.2.2] at HTX
          clear hb hb4
          go_wp2_with (first
            | (go_at_call 11; refine HBS.out.mono ?_; rintro e w3 ⟨y, rfl, hy3, hb3⟩; have HB3 := Lib.hid (HR.out.bel.trans (hb3.mono HR.out.bel.size)); have HY3 := Lib.hid hy3; clear hy3 hb3; simp only [patV, zP, List.length_nil])
            | (go_at_call 13; refine (HTX.out _).mono ?_; rintro e w5 ⟨rfl, rfl⟩)
            | (go_at_call 14; refine (same_zero y _ (HY3.out.keep ((Below.refl _ _).alloc (Nat.le_refl _) _))).mono ?_; rintro e w6 ⟨rfl, hb6⟩; have HB6 := Lib.hid (HB3.out.trans ((((Below.refl _ _).alloc (Nat.le_refl _) _).trans (hb6.mono (by simp))).mono HB3.out.size)); clear hb6)
            | (go_at_call 8; refine (HA.out _ HB6.out).mono ?_; rintro e w9 ⟨rfl, hb9⟩; have HB9 := Lib.hid (HB6.out.trans (hb9.mono HB6.out.size)); clear hb9))
          go_ret
          exact ⟨rfl, HB9.out⟩
end Go.Proofs.YtkpikggpbcnghaaDoor
