/- Layer 6: the walk of Named, its loop. -/
import Derived.Test.YtobpnjjgpoompaaGreatDoorBq
namespace Go.Proofs.YtobpnjjgpoompaaGreatDoor
open Go.RowKit Go.Shelf

set_option maxRecDepth 100000 in
set_option maxHeartbeats 2000000 in
theorem named_any (s : ByteArray) (w : World) (hE : Eb w) : Calls Tryz.prog 22 #[.string s] w fun e w' => ∃ y, e = .returned (.tuple #[patV y (nmP s.data.toList), .int .i64 (nmE s.data.toList)]) ∧ PatA w' y (nmP s.data.toList) ∧ Below w.heap.size w w' := by
  by_cases h20 : 20 < s.size
  · have HP : Hid (nmP s.data.toList = zP ∧ nmE s.data.toList = 4) := Lib.hid (by
      have he : nmE s.data.toList = 4 := by unfold nmE; rw [if_pos (by rw [← Lib.size_eq]; exact h20)]
      exact ⟨nm_zero (by rw [he]; decide), he⟩)
    have h20i : (20 : Int) < s.size := by omega
    rw [HP.out.1, HP.out.2]
    clear h20
    go_enter Tryz.func22, Tryz.ntmps22
    go_wp2_with fail
    refine bodyPost_ret (v := .tuple #[.agg #[.string ⟨#[]⟩, .slice none 0 0, .slice none 0 0, .slice none 0 0], .int .i64 4]) (by rw [results_cell_tmp rfl]; go_simp) rfl ?_
    exact ⟨nilS, rfl, patA_zero _, (Below.refl _ _).alloc (Nat.le_refl _) _⟩
  · have h20i : ¬ (20 : Int) < s.size := by omega
    obtain ⟨R, hR⟩ : ∃ R : ByteArray, R = ⟨(nmR s.data.toList).toArray⟩ := ⟨_, rfl⟩
    obtain ⟨H, hH⟩ : ∃ H : ByteArray, H = ⟨(nmH s.data.toList).toArray⟩ := ⟨_, rfl⟩
    have HTL := Lib.hid (fun wx => trimLeft_any s wx)
    rw [← hR] at HTL
    have hRd : R.data.toList = nmR s.data.toList := by rw [hR]
    have HTS := Lib.hid (fun wx => trimSuf_any s R (by omega) wx)
    have hHe : (⟨(Lib.trimSuffix s.data.toList R.data.toList).toArray⟩ : ByteArray) = H := by rw [hRd, hH]; rfl
    rw [hHe] at HTS
    have hHd : H.data.toList = nmH s.data.toList := by rw [hH]
    have HBS := Lib.hid (fun wx (hb : Below w.heap.size w wx) => base_any H wx (hE.keep hb))
    rw [hHd] at HBS
    have HS20 : Hid (¬ 20 < s.data.toList.length ∧ R.data.toList = nmR s.data.toList) := Lib.hid ⟨by rw [← Lib.size_eq]; exact h20, hRd⟩
    clear hR hH hRd hHe hHd h20
    unfold upB upperL at HTL
    by_cases hb : bsE (nmH s.data.toList) = 0
    · obtain ⟨hbr, hbn⟩ := bs_right hb
      obtain ⟨p0, hp0⟩ : ∃ p, p = bsP (nmH s.data.toList) := ⟨_, rfl⟩
      rw [hb, ← hp0] at HBS
      have HX : Hid (nmE s.data.toList = (nmLoop 40 0 p0 R.data.toList).2 ∧ R.data.toList.length < 40) := Lib.hid (by
        refine ⟨?_, ?_⟩
        · unfold nmE nmX; rw [if_neg HS20.out.1, if_neg (by rw [hb]; decide), HS20.out.2, ← hp0]
        · rw [HS20.out.2]
          have := congrArg List.length (nm_split s.data.toList).1
          rw [List.length_append] at this
          have := HS20.out.1
          omega)
      have HXP : Hid ((nmLoop 40 0 p0 R.data.toList).2 = 0 → nmP s.data.toList = ⟨s.data.toList, (nmLoop 40 0 p0 R.data.toList).1.p0, (nmLoop 40 0 p0 R.data.toList).1.p1, (nmLoop 40 0 p0 R.data.toList).1.ms⟩) := Lib.hid (fun h => by
        unfold nmP; rw [if_pos (HX.out.1.trans h)]; unfold nmX; rw [HS20.out.2, ← hp0])
      clear hb hbr hbn hp0
      unfold patV at *
      go_enter Tryz.func22, Tryz.ntmps22
      go_wp2_with (first
        | (go_at_call 37; refine (HTL.out _).mono ?_; rintro e w1 ⟨rfl, hb1⟩; have HB1 := Lib.hid hb1; clear hb1)
        | (go_at_call 38; refine (HTS.out _).mono ?_; rintro e w2 ⟨rfl, rfl⟩)
        | (go_at_call 16; refine (HBS.out _ ((((Below.refl _ _).alloc (Nat.le_refl _) _).trans (HB1.out.mono (by simp))).alloc (by have := HB1.out.size; simp at this; omega) _)).mono ?_; rintro e w2 ⟨y, rfl, hy, hb2⟩; have HNM := Lib.hid (nm_new HB1.out hb2 hy); have HRS := Lib.hid (nm_res HB1.out hb2); have HBW := Lib.hid (nm_bel HB1.out hb2); clear hb2 hy; obtain ⟨r0, r1, r2, r3, y0, y1, y2, y3⟩ := box4c HRS.out; have lr2 := lt_of_heap HRS.out))
      clear r0 r1 r2 r3 y0 y1 y2 y3 lr2 HRS
      obtain ⟨rb, hrb⟩ : ∃ rb, rb = w1.heap.size := ⟨_, rfl⟩
      obtain ⟨pb, hpb⟩ : ∃ pb, pb = w2.heap.size := ⟨_, rfl⟩
      rw [← hrb, ← hpb] at HNM ⊢
      generalize w2.alloc (.cells #[.string ⟨p0.nm.toArray⟩, .slice y.s0 p0.p0.length y.c0, .slice y.s1 p0.p1.length y.c1, .slice y.s2 p0.ms.length y.c2] 26) = W at *
      obtain ⟨A, hA⟩ : ∃ A, A = nmLoop 40 0 p0 R.data.toList := ⟨_, rfl⟩
      rw [← hA] at HX HXP
      have HA := Lib.hid hA
      clear hA hrb hpb HB1 HBS HTL HTS HS20
      go_loopg [6, 8] 40 (fun q u6 u8 wr => ∃ (i : Nat) (r : ByteArray) (z : Sl) (p : Pt), i + q = 40 ∧ u6 = .int .i64 0 ∧ u8 = .int .i64 i ∧ Aside (A = nmLoop q i p r.data.toList ∧ r.data.toList.length < q ∧ Nm w rb pb r z p wr))
      case atStart => exact ⟨0, R, y, p0, by omega, rfl, rfl, ⟨HA.out, HX.out.2, HNM.out⟩⟩
      case round =>
        obtain ⟨i, r, z, p, hiq, rfl, rfl, hr⟩ := hrel
        have HR := Lib.hid hr.out
        clear hr HNM
        obtain ⟨q, rfl⟩ : ∃ q, gk = q + 1 := ⟨gk - 1, by have := HR.out.2.1; omega⟩
        obtain ⟨k0, kz⟩ := rest_cell HR.out.2.2.rc
        obtain ⟨a0, a1, a2, a3, b0, b1, b2, b3⟩ := box4c HR.out.2.2.px
        obtain ⟨r0, r1, r2, r3, y0, y1, y2, y3⟩ := box4c HR.out.2.2.res
        have l1 := HR.out.2.2.l1
        have l2 := HR.out.2.2.l2
        by_cases hz : r.data.toList = []
        · obtain rfl : r = ⟨#[]⟩ := by
            obtain ⟨⟨l⟩⟩ := r
            simp at hz; subst hz; rfl
          have HAE : Hid (A = (p, 0)) := Lib.hid (by rw [HR.out.1]; unfold nmLoop; rw [if_pos rfl])
          have HF : Hid (nmE s.data.toList = 0 ∧ nmP s.data.toList = ⟨s.data.toList, p.p0, p.p1, p.ms⟩) := Lib.hid (by
            rw [HAE.out] at HX HXP; exact ⟨HX.out.1, HXP.out rfl⟩)
          have n1 : ¬ pb = w.heap.size := by omega
          have n2 : ¬ w.heap.size = pb := by omega
          clear hz
          go_wp2_with fail
          refine bodyPost_ret (v := .tuple #[.agg #[.string s, .slice z.s0 p.p0.length z.c0, .slice z.s1 p.p1.length z.c1, .slice z.s2 p.ms.length z.c2], .int .i64 0]) (by rw [results_cell_tmp rfl]; go_simp) rfl ?_
          obtain ⟨f1, f2⟩ := nm_fin HR.out.2.2 s (.string s) (.slice z.s0 p.p0.length z.c0) (.slice z.s1 p.p1.length z.c1) (.slice z.s2 p.ms.length z.c2)
          rw [HF.out.1, HF.out.2]
          exact ⟨z, rfl, f1, f2⟩
        · have hne : (r.toList == []) = false := by rw [ByteArray.toList_eq]; simpa using hz
          by_cases hi0 : i = 0
          · subst hi0
            have HAE : Hid (A = if (modY p r.data.toList).2.1 ≠ 0 then (zP, (modY p r.data.toList).2.1) else nmLoop q (0 + 1) (modY p r.data.toList).1 (modY p r.data.toList).2.2) := Lib.hid (by
              rw [HR.out.1]; conv => lhs; unfold nmLoop
              rw [if_neg hz, if_neg (fun h => absurd h.1 (by omega))]; rfl)
            have HMO := Lib.hid (modify_any z p rb r wr HR.out.2.2.pat HR.out.2.2.rc)
            obtain ⟨m, hm⟩ : ∃ m, m = modY p r.data.toList := ⟨_, rfl⟩
            have hmE := @modY_zero p r.data.toList
            have hmO := @modY_ok p r.data.toList
            rw [← hm] at HMO HAE hmE hmO
            obtain ⟨mp, me, mr⟩ := m
            simp only at HMO HAE hmE hmO
            unfold patV takeV MdPost at HMO
            simp only at HMO
            have n1 : ¬ pb = w.heap.size := by omega
            have n2 : ¬ w.heap.size = pb := by omega
            have HMZ := Lib.hid hmE
            have HMK := Lib.hid hmO
            clear hm hmE hmO hz
            by_cases he : me = 0
            · subst he
              have HAF : Hid (A = nmLoop q (0 + 1) mp mr) := Lib.hid (by rw [HAE.out]; rfl)
              go_wp2_with (first
                | (go_at_call 41; refine HMO.out.mono ?_; rintro e w3 ⟨z3, rfl, hz3, hr3, hg3⟩; unfold patV; obtain ⟨hpx, hrs, hbw, hnm⟩ := HR.out.2.2.mod hz3 hr3 hg3; have HPX := Lib.hid hpx; have HRS := Lib.hid hrs; have HNN := Lib.hid hnm; have HW3 := Lib.hid hbw; clear hz3 hr3 hg3 hpx hrs hnm hbw a0 a1 a2 a3 b0 b1 b2 b3 r0 r1 r2 r3 y0 y1 y2 y3; obtain ⟨a0, a1, a2, a3, b0, b1, b2, b3⟩ := box4c HPX.out; obtain ⟨r0, r1, r2, r3, y0, y1, y2, y3⟩ := box4c HRS.out))
              go_roundg q
              case measure => omega
              case rel => exact ⟨0 + 1, ⟨mr.toArray⟩, z3, mp, by omega, rfl, by go_num, (show _ ∧ _ from ⟨HAF.out, by have h1 := (HMK.out trivial).2.1; have h2 := HR.out.2.1; simp only; omega, HNN.out⟩)⟩
            · have heb : (me == 0) = false := by simpa using he
              have HAF : Hid (A = (zP, me)) := Lib.hid (by rw [HAE.out, if_pos he])
              have HF : Hid (nmE s.data.toList = me ∧ nmP s.data.toList = zP) := Lib.hid (by
                have h1 : nmE s.data.toList = me := by rw [HX.out.1, HAF.out]
                exact ⟨h1, nm_zero (by rw [h1]; exact he)⟩)
              go_wp2_with (first
                | (go_at_call 41; refine HMO.out.mono ?_; rintro e w3 ⟨z3, rfl, hz3, hr3, hg3⟩; unfold patV; obtain ⟨hpx, hrs, hbw, hnm⟩ := HR.out.2.2.mod hz3 hr3 hg3; have HPX := Lib.hid hpx; have HRS := Lib.hid hrs; have HNN := Lib.hid hnm; have HW3 := Lib.hid hbw; clear hz3 hr3 hg3 hpx hrs hnm hbw a0 a1 a2 a3 b0 b1 b2 b3 r0 r1 r2 r3 y0 y1 y2 y3; obtain ⟨a0, a1, a2, a3, b0, b1, b2, b3⟩ := box4c HPX.out; obtain ⟨r0, r1, r2, r3, y0, y1, y2, y3⟩ := box4c HRS.out))
              refine bodyPost_ret (v := .tuple #[.agg #[.string ⟨#[]⟩, .slice none 0 0, .slice none 0 0, .slice none 0 0], .int .i64 me]) (by rw [results_cell_tmp rfl]; go_simp) rfl ?_
              rw [HF.out.1, HF.out.2]
              refine ⟨nilS, rfl, patA_zero _, ?_⟩
              exact set4_below (set4_below HW3.out (show w.heap.size ≤ pb by omega) _ _ _ _) (Nat.le_refl _) _ _ _ _
          · have hi1 : (0 : Int) < i := by omega
            have hi1n : 0 < i := by omega
            have hi40 : (i : Int) < 40 := by omega
            have HTK := Lib.hid (take_any ⟨#[43]⟩ r rb wr HR.out.2.2.rc)
            cases hpl : Lib.hasPrefix r.data.toList [43] with
            | true =>
              obtain ⟨T, hT⟩ : ∃ T, T = trimB r ⟨#[43]⟩ := ⟨_, rfl⟩
              have hTd : T.data.toList = plusL i r.data.toList := by
                rw [hT]; unfold trimB plusL; rw [if_pos hi1n]
              rw [← hT, show Lib.hasPrefix r.data.toList (⟨#[43]⟩ : ByteArray).data.toList = true from hpl] at HTK
              have HAE : Hid (A = if (modY p T.data.toList).2.1 ≠ 0 then (zP, (modY p T.data.toList).2.1) else nmLoop q (i + 1) (modY p T.data.toList).1 (modY p T.data.toList).2.2) := Lib.hid (by
                rw [hTd, HR.out.1]; conv => lhs; unfold nmLoop
                rw [if_neg hz, if_neg (fun h => by rw [hpl] at h; exact absurd h.2 (by decide))])
              have HTL : Hid (T.data.toList.length ≤ r.data.toList.length) := Lib.hid (by
                rw [hT]; unfold trimB Lib.trimPrefix; split <;> simp)
              have HNT := Lib.hid (HR.out.2.2.set T)
              clear hT hTd hpl
              have HMO := Lib.hid (modify_any z p rb T (wr.setCell ⟨rb, 0, none⟩ (.string T)) HNT.out.pat HNT.out.rc)
              obtain ⟨m, hm⟩ : ∃ m, m = modY p T.data.toList := ⟨_, rfl⟩
              have hmE := @modY_zero p T.data.toList
              have hmO := @modY_ok p T.data.toList
              rw [← hm] at HMO HAE hmE hmO
              obtain ⟨mp, me, mr⟩ := m
              simp only at HMO HAE hmE hmO
              unfold patV takeV MdPost at HMO
              simp only at HMO
              have n1 : ¬ pb = w.heap.size := by omega
              have n2 : ¬ w.heap.size = pb := by omega
              have HMZ := Lib.hid hmE
              have HMK := Lib.hid hmO
              clear hm hmE hmO hz
              by_cases he : me = 0
              · subst he
                have HAF : Hid (A = nmLoop q (i + 1) mp mr) := Lib.hid (by rw [HAE.out]; rfl)
                go_wp2_with (first
                  | (go_at_call 39; refine HTK.out.mono ?_; rintro e w4 ⟨rfl, rfl⟩)
                  | (go_at_call 41; refine HMO.out.mono ?_; rintro e w3 ⟨z3, rfl, hz3, hr3, hg3⟩; unfold patV; obtain ⟨hpx, hrs, hbw, hnm⟩ := HNT.out.mod hz3 hr3 hg3; have HPX := Lib.hid hpx; have HRS := Lib.hid hrs; have HNN := Lib.hid hnm; have HW3 := Lib.hid hbw; clear hz3 hr3 hg3 hpx hrs hnm hbw a0 a1 a2 a3 b0 b1 b2 b3 r0 r1 r2 r3 y0 y1 y2 y3; obtain ⟨a0, a1, a2, a3, b0, b1, b2, b3⟩ := box4c HPX.out; obtain ⟨r0, r1, r2, r3, y0, y1, y2, y3⟩ := box4c HRS.out))
                go_roundg q
                case measure => omega
                case rel => exact ⟨i + 1, ⟨mr.toArray⟩, z3, mp, by omega, rfl, by go_num, (show _ ∧ _ from ⟨HAF.out, by have h1 := (HMK.out trivial).2.1; have h2 := HR.out.2.1; have h3 := HTL.out; simp only; omega, HNN.out⟩)⟩
              · have heb : (me == 0) = false := by simpa using he
                have HAF : Hid (A = (zP, me)) := Lib.hid (by rw [HAE.out, if_pos he])
                have HF : Hid (nmE s.data.toList = me ∧ nmP s.data.toList = zP) := Lib.hid (by
                  have h1 : nmE s.data.toList = me := by rw [HX.out.1, HAF.out]
                  exact ⟨h1, nm_zero (by rw [h1]; exact he)⟩)
                go_wp2_with (first
                  | (go_at_call 39; refine HTK.out.mono ?_; rintro e w4 ⟨rfl, rfl⟩)
                  | (go_at_call 41; refine HMO.out.mono ?_; rintro e w3 ⟨z3, rfl, hz3, hr3, hg3⟩; unfold patV; obtain ⟨hpx, hrs, hbw, hnm⟩ := HNT.out.mod hz3 hr3 hg3; have HPX := Lib.hid hpx; have HRS := Lib.hid hrs; have HNN := Lib.hid hnm; have HW3 := Lib.hid hbw; clear hz3 hr3 hg3 hpx hrs hnm hbw a0 a1 a2 a3 b0 b1 b2 b3 r0 r1 r2 r3 y0 y1 y2 y3; obtain ⟨a0, a1, a2, a3, b0, b1, b2, b3⟩ := box4c HPX.out; obtain ⟨r0, r1, r2, r3, y0, y1, y2, y3⟩ := box4c HRS.out))
                refine bodyPost_ret (v := .tuple #[.agg #[.string ⟨#[]⟩, .slice none 0 0, .slice none 0 0, .slice none 0 0], .int .i64 me]) (by rw [results_cell_tmp rfl]; go_simp) rfl ?_
                rw [HF.out.1, HF.out.2]
                refine ⟨nilS, rfl, patA_zero _, ?_⟩
                exact set4_below (set4_below HW3.out (show w.heap.size ≤ pb by omega) _ _ _ _) (Nat.le_refl _) _ _ _ _
            | false =>
              have hT : trimB r ⟨#[43]⟩ = r := trim_no hpl
              rw [hT, show Lib.hasPrefix r.data.toList (⟨#[43]⟩ : ByteArray).data.toList = false from hpl] at HTK
              have HAF : Hid (A = (zP, 4)) := Lib.hid (by
                rw [HR.out.1]; unfold nmLoop; rw [if_neg hz, if_pos ⟨hi1n, hpl⟩])
              have HF : Hid (nmE s.data.toList = 4 ∧ nmP s.data.toList = zP) := Lib.hid (by
                have h1 : nmE s.data.toList = 4 := by rw [HX.out.1, HAF.out]
                exact ⟨h1, nm_zero (by rw [h1]; decide)⟩)
              have HNT := Lib.hid (HR.out.2.2.set r)
              have n1 : ¬ rb = w.heap.size := by omega
              have n2 : ¬ w.heap.size = rb := by omega
              clear hT hpl hz
              go_wp2_with (go_at_call 39; refine HTK.out.mono ?_; rintro e w4 ⟨rfl, rfl⟩)
              refine bodyPost_ret (v := .tuple #[.agg #[.string ⟨#[]⟩, .slice none 0 0, .slice none 0 0, .slice none 0 0], .int .i64 4]) (by rw [results_cell_tmp rfl]; go_simp) rfl ?_
              rw [HF.out.1, HF.out.2]
              exact ⟨nilS, rfl, patA_zero _, set4_below HNT.out.bel (Nat.le_refl _) _ _ _ _⟩
    · have hb4 : bsE (nmH s.data.toList) = 4 := by unfold bsE at hb ⊢; split at hb <;> simp_all
      have HP : Hid (nmP s.data.toList = zP ∧ nmE s.data.toList = 4) := Lib.hid (by
        have he : nmE s.data.toList = 4 := by unfold nmE; rw [if_neg HS20.out.1, if_pos hb]
        exact ⟨nm_zero (by rw [he]; decide), he⟩)
      rw [HP.out.1, HP.out.2]
      rw [hb4] at HBS
      clear hb hb4
      unfold patV at *
      go_enter Tryz.func22, Tryz.ntmps22
      go_wp2_with (first
        | (go_at_call 37; refine (HTL.out _).mono ?_; rintro e w1 ⟨rfl, hb1⟩; have HB1 := Lib.hid hb1; clear hb1)
        | (go_at_call 38; refine (HTS.out _).mono ?_; rintro e w2 ⟨rfl, rfl⟩)
        | (go_at_call 16; refine (HBS.out _ ((((Below.refl _ _).alloc (Nat.le_refl _) _).trans (HB1.out.mono (by simp))).alloc (by have := HB1.out.size; simp at this; omega) _)).mono ?_; rintro e w2 ⟨y, rfl, hy, hb2⟩; have HNM := Lib.hid (nm_new HB1.out hb2 hy); have HRS := Lib.hid (nm_res HB1.out hb2); have HBW := Lib.hid (nm_bel HB1.out hb2); clear hb2 hy; obtain ⟨r0, r1, r2, r3, y0, y1, y2, y3⟩ := box4c HRS.out; have lr2 := lt_of_heap HRS.out))
      refine bodyPost_ret (v := .tuple #[.agg #[.string ⟨#[]⟩, .slice none 0 0, .slice none 0 0, .slice none 0 0], .int .i64 4]) (by rw [results_cell_tmp rfl]; go_simp) rfl ?_
      exact ⟨nilS, rfl, patA_zero _, (set4_below HBW.out (Nat.le_refl _) _ _ _ _).alloc (set4_below HBW.out (Nat.le_refl _) _ _ _ _).size _⟩
end Go.Proofs.YtobpnjjgpoompaaGreatDoor
