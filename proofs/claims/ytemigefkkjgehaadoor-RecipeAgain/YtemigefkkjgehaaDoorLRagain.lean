/- The walk of RecipeAgain: a recipe makes the same, when it is run again, and nothing new. -/
import Derived.Test.YtemigefkkjgehaaDoorEp
namespace Go.Proofs.YtemigefkkjgehaaDoor
open Go.RowKit Go.Maps

set_option maxRecDepth 100000 in
set_option maxHeartbeats 1000000 in
theorem again_long (s sr ss : Option Addr) (n m k c cr cs : Nat) (hn : 30 < n ∨ 30 < k ∨ 30 < m) (w : World) (hs : Shp w) (hR : Rsh w) : Calls Tryd.prog 11 #[.slice s n c, .slice sr m cr, .slice ss k cs] w fun e w' => e = .returned (.bool true) ∧ Below w.heap.size w w' := by
  have HA := Lib.hid (awake4_any w hs hR)
  clear hs hR
  rcases (show ((30 : Int) < n) ∨ (¬ (30 : Int) < n ∧ (30 : Int) < m) ∨ (¬ (30 : Int) < n ∧ ¬ (30 : Int) < m ∧ (30 : Int) < k) by omega) with h | ⟨h, h2⟩ | ⟨h, h2, h3⟩
  all_goals
    clear hn
    go_enter Tryd.func11, Tryd.ntmps11
    go_wp2_with (go_at_call 23; refine HA.out.mono ?_; rintro e w2 ⟨rfl, hb2⟩)
    go_ret
    exact ⟨rfl, hb2⟩
set_option maxRecDepth 100000 in
set_option maxHeartbeats 4000000 in
theorem again_good (s sr ss : Option Addr) (c cr cs : Nat) (ns : List Nd) (refs : List Int) (steps : List Sp) (hn : ns.length ≤ 30) (hm : refs.length ≤ 30) (hl : steps.length ≤ 30) (w : World) (hs : Shp w) (hR : Rsh w) (hB : BuiltAt w (.slice s ns.length c) ns) (hI : IntsV w sr refs) (hSt : StepsV w ss steps) : Calls Tryd.prog 11 #[.slice s ns.length c, .slice sr refs.length cr, .slice ss steps.length cs] w fun e w' => e = .returned (.bool true) ∧ Below w.heap.size w w' := by
  have HKI := Lib.hid (kitchen_any s sr c cr ns refs 300 300 rfl hm w hB hI w (Below.refl _ _))
  have HAw := Lib.hid (fun w1 (h : Below w.heap.size w w1) => awake4_any w1 (hs.below h) (hR.below h))
  have HSH := Lib.hid hs
  have HRS := Lib.hid hR
  have HST := Lib.hid hSt
  obtain ⟨L, hLe⟩ : ∃ L, L = bld 300 ns := ⟨_, rfl⟩
  rw [← hLe] at HKI
  have h1 : ¬ (30 : Int) < ns.length := by omega
  have h2 : ¬ (30 : Int) < refs.length := by omega
  have h3 : ¬ (30 : Int) < steps.length := by omega
  have HM := Lib.hid hm
  have HLL := Lib.hid hl
  clear hs hR hB hI hn hm hl hLe hSt
  go_enter Tryd.func11, Tryd.ntmps11
  go_wp2_with fail
  go_at_call 24
  refine HKI.out.mono ?_
  rintro e w1 ⟨bk, b, g, bm, cap, gr, capr, mk, hv, K, rfl, hK1, hA1, hr1, hl1⟩
  obtain ⟨H, hHe⟩ : ∃ H, H = refs.filter fun x => hasB L.length x := ⟨_, rfl⟩
  rw [← hHe] at hK1
  have HK1 := Lib.hid hK1
  have HHK : Hid (∀ x ∈ H, K x = true) := Lib.hid (fun x hx => by
    rw [hHe] at hx
    obtain ⟨hx1, hx2⟩ := List.mem_filter.1 hx
    exact (hl1 x).2 (cl_in ⟨hx1, hx2⟩))
  have HHL : Hid (H.length ≤ 30) := Lib.hid (by rw [hHe]; exact Nat.le_trans (List.length_filter_le _ _) HM.out)
  clear hK1 hA1 hr1 hl1 hHe
  have HRUN := Lib.hid (fun wx (hb : Below w1.heap.size w1 wx) => run_kz (HK1.out.keep hb) HSH.out HRS.out (by have := HHL.out; omega) HHK.out (by omega) ss cs steps (HST.out.keep (HK1.out.keep hb).st.bel) (steps_apart (HK1.out.keep hb).st HST.out) (by have := HLL.out; omega))
  have HAG := Lib.hid ((runY_again (lim := 300) (by omega) steps L [] 0 HK1.out.kn.ar.wf HK1.out.kn.ar.len (fun x hx => HK1.out.kn.kh x (HHK.out x hx)) (fun y hy => by simp at hy)).2)
  have HHD := Lib.hid (fun wx (hb : Below w1.heap.size w1 wx) => heard_any (HK1.out.keep hb).kn (by have := HHL.out; omega))
  unfold HdC at HHD
  have HYL : Hid ((runY 300 H steps L [] 0).Y.length ≤ 30) := Lib.hid (by
    by_cases he : (runY 300 H steps L [] 0).e = 0
    · rw [runY_len steps L [] 0 he]; have := HLL.out; simpa using this
    · rw [runY_bad steps L [] 0 he]; simp)
  obtain ⟨R, hRe⟩ : ∃ R, R = runY 300 H steps L [] 0 := ⟨_, rfl⟩
  rw [← hRe] at HRUN HAG HYL
  clear hRe
  have hh30 : (H.length : Int) ≤ 30 := by have := HHL.out; omega
  have hy30 : (R.Y.length : Int) ≤ 30 := by have := HYL.out; omega
  go_wp2_with fail
  go_at_call 17
  refine (HHD.out _ (by first | exact Below.refl _ _ | exact (Below.refl _ _).alloc (Nat.le_refl _) _)).mono ?_
  rintro e w2 ⟨sh, ch, rfl, -, -, hb2⟩
  have hb12 : Below w1.heap.size w1 w2 := by first | exact hb2 | exact ((Below.refl _ _).alloc (Nat.le_refl _) _).trans (hb2.mono (by simp))
  have HRN := Lib.hid (HRUN.out w2 hb12)
  have HK2 := Lib.hid (HK1.out.keep hb12)
  clear hb2 hb12 HRUN HHD
  unfold RunP at HRN
  go_wp2_with fail
  go_at_call 25
  refine HRN.out.mono ?_
  rintro e w3 ⟨sy, cy, g', cap', M, rfl, hM, hwf, hK3, hi3, hp3, hg3, hk3⟩
  have HK3 := Lib.hid hK3
  have HI3 := Lib.hid hi3
  have HP3 : Hid (∀ p, sy = some p → p.block ≠ b ∧ p.block ≠ g' ∧ p.block ≠ bm) := Lib.hid (fun p hp => by
    have h1 := (hp3 p hp)
    have h2 := HK2.out.kn.ar.blt
    have h3 := HK2.out.kn.ar.mlt
    refine ⟨by omega, h1.2.1, by omega⟩)
  clear hK3 hi3 hp3 hg3 hk3 HRN
  have HWF := Lib.hid hwf
  have HAG3 : Hid (runY 300 H steps (L ++ M) [] 0 = R) := Lib.hid (by rw [← hM]; exact HAG.out)
  have HRL : Hid (R.L = L ++ M) := Lib.hid hM
  clear hwf hM HAG
  generalize L ++ M = LM at *
  have HLEN := Lib.hid (fun wx ga ca (h : Kx w wx bk b ga bm ca 300 LM mk hv H K) => len_any b (some ⟨ga, 0, none⟩) LM.length ca wx ((cell_of_row wx b 0 _ _ _ h.kn.ar.box).trans rfl))
  have hlm : (LM.length : Int) ≤ 300 := by have := HK3.out.kn.ar.len; omega
  go_wp2_with fail
  go_at_call 31
  refine (HLEN.out _ _ _ HK3.out).mono ?_
  rintro e w4 ⟨rfl, rfl⟩
  have HRN2 := Lib.hid (run_kz HK3.out HSH.out HRS.out (by have := HHL.out; omega) HHK.out (by omega) ss cs steps (HST.out.keep HK3.out.st.bel) (steps_apart HK3.out.st HST.out) (by have := HLL.out; omega))
  rw [HAG3.out] at HRN2
  unfold RunP at HRN2
  go_wp2_with fail
  go_at_call 25
  refine HRN2.out.mono ?_
  rintro e w5 ⟨sz, cz, g2, cap2, M2, rfl, hM2, hwf2, hK5, hi5, hp5, hg5, hk5⟩
  obtain rfl : M2 = [] := List.append_cancel_left ((hM2.symm.trans HRL.out).trans (List.append_nil LM).symm)
  rw [List.append_nil] at hK5
  have HK5 := Lib.hid hK5
  have HI5 := Lib.hid hi5
  have HI4 : Hid (IntsV w5 sy R.Y) := Lib.hid (fun h0 => by
    obtain ⟨gl, ol, e, h1, h2⟩ := HI3.out h0
    obtain ⟨q1, q2, q3⟩ := HP3.out _ e
    exact ⟨gl, ol, e, Nat.lt_of_lt_of_le h1 hk5.size, h2.keep (hk5.block gl h1 q1 q2 q3)⟩)
  clear hK5 hi5 hp5 hg5 hk5 HRN2 hM2 hwf2 HP3 HI3 HAG3 HRL
  have HHD5 := Lib.hid (fun wx (hb : Below w5.heap.size w5 wx) => heard_any (HK5.out.keep hb).kn (by have := HHL.out; omega))
  unfold HdC at HHD5
  go_wp2_with fail
  go_at_call 31
  refine (HLEN.out _ _ _ HK5.out).mono ?_
  rintro e w6 ⟨rfl, rfl⟩
  go_wp2_with fail
  go_at_call 17
  refine (HHD5.out _ (Below.refl _ _)).mono ?_
  rintro e w7 ⟨sh7, ch7, rfl, -, -, hb7⟩
  have HR7 : Hid (Below w.heap.size w w7 ∧ IntsV w7 sy R.Y ∧ IntsV w7 sz R.Y) := Lib.hid ⟨HK5.out.st.bel.trans (hb7.mono HK5.out.st.bel.size), HI4.out.keep hb7, HI5.out.keep hb7⟩
  clear hb7 HHD5
  go_wp2_with fail
  clear HLEN HI4 HI5
  generalize R.Y = Y at *
  go_loopg [93] Y.length (fun q u93 wr => ∃ i : Nat, i + q = Y.length ∧ u93 = .int .i64 i ∧ Aside (Below w.heap.size w wr ∧ IntsV wr sy Y ∧ IntsV wr sz Y))
  case atStart => exact ⟨0, by omega, rfl, HR7.out⟩
  case round =>
    obtain ⟨i, hiq, rfl, hr⟩ := hrel
    have HR := Lib.hid hr.out; clear hr
    by_cases hlt : i < Y.length
    · have hlt2 : (i : Int) < Y.length := by omega
      have hi0 : (0 : Int) ≤ i := by omega
      obtain ⟨gl, ol, rfl, hgl, hia⟩ := HR.out.2.1 (by omega)
      obtain ⟨gz, oz, rfl, hgz, hiz⟩ := HR.out.2.2 (by omega)
      have hx := hia i hlt
      have hz := hiz i hlt
      clear hia hiz
      generalize Y.getD i 0 = x at hx hz
      go_wp2_with fail
      go_quiet (fail)
      have HR4 : Hid (Below w.heap.size w (wr.drewN nq) ∧ IntsV (wr.drewN nq) (some ⟨gl, ol, none⟩) Y ∧ IntsV (wr.drewN nq) (some ⟨gz, oz, none⟩) Y) := Lib.hid (by
        have hb : Below wr.heap.size wr (wr.drewN nq) := ⟨rfl, rfl, rfl, Nat.le_refl _, fun _ _ => rfl⟩
        exact ⟨HR.out.1.trans (hb.mono HR.out.1.size), HR.out.2.1.keep hb, HR.out.2.2.keep hb⟩)
      go_wp2_with fail
      go_roundg (Y.length - (i + 1))
      case measure => omega
      case rel => exact ⟨i + 1, by omega, by go_num, (show _ ∧ _ from HR4.out)⟩
    · have hlt2 : ¬ (i : Int) < Y.length := by omega
      go_wp2_with fail
      go_at_call 23
      refine (HAw.out _ HR.out.1).mono ?_
      rintro e w9 ⟨rfl, hb9⟩
      have HB9 := Lib.hid (HR.out.1.trans (hb9.mono HR.out.1.size))
      clear hb9
      go_wp2_with fail
      go_ret
      exact ⟨rfl, HB9.out⟩
end Go.Proofs.YtemigefkkjgehaaDoor
