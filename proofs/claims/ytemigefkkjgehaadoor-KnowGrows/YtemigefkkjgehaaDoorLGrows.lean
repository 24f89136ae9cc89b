/- The walk of KnowGrows: what can be made can be made still, when more is learned; learning what can be made makes nothing more. -/
import Derived.Test.YtemigefkkjgehaaDoorLk
namespace Go.Proofs.YtemigefkkjgehaaDoor
open Go.RowKit Go.Maps

set_option maxRecDepth 100000 in
set_option maxHeartbeats 1000000 in
theorem grows_long (s sr : Option Addr) (n m c cr : Nat) (x : Int) (hn : 30 < n ∨ 30 < m) (w : World) (hs : Shp w) : Calls Tryd.prog 4 #[.slice s n c, .slice sr m cr, .int .i64 x] w fun e w' => e = .returned (.bool true) ∧ Below w.heap.size w w' := by
  have HA := Lib.hid (awake_any w hs)
  have HF := Lib.hid (few_any s sr n m c cr w)
  rw [few_no hn] at HF
  clear hs hn
  go_enter Tryd.func4, Tryd.ntmps4
  go_wp2_with (first
    | (go_at_call 12; refine HF.out.mono ?_; rintro e w1 ⟨rfl, rfl⟩)
    | (go_at_call 13; refine HA.out.mono ?_; rintro e w2 ⟨rfl, hb2⟩))
  go_ret
  exact ⟨rfl, hb2⟩
theorem wrap_sm {x : Int} (h0 : 0 ≤ x) (h1 : x ≤ 1000) : IntKind.i64.wrap x = x := by
  have h : x % (2 ^ IntKind.i64.bits : Int) = x := Int.emod_eq_of_lt h0 (Int.lt_of_le_of_lt h1 (by decide))
  unfold IntKind.wrap
  simp only [h]
  rw [if_neg]
  have : (2 ^ (IntKind.i64.bits - 1) : Int) > 1000 := by decide
  simp only [Bool.and_eq_true, decide_eq_true_eq]
  omega
theorem bool_is (p : Prop) : ∃ z : Bool, z = true ↔ p := by
  by_cases h : p
  · exact ⟨true, fun _ => h, fun _ => rfl⟩
  · exact ⟨false, fun e => (by cases e), fun e => absurd e h⟩
set_option maxRecDepth 100000 in
set_option maxHeartbeats 8000000 in
theorem grows_good (s sr : Option Addr) (c cr : Nat) (ns : List Nd) (refs : List Int) (x : Int) (hn : ns.length ≤ 30) (hm : refs.length ≤ 30) (w : World) (hs : Shp w) (hB : BuiltAt w (.slice s ns.length c) ns) (hI : IntsV w sr refs) : Calls Tryd.prog 4 #[.slice s ns.length c, .slice sr refs.length cr, .int .i64 x] w fun e w' => e = .returned (.bool true) ∧ Below w.heap.size w w' := by
  have HF := Lib.hid (few_any s sr ns.length refs.length c cr w)
  rw [few_yes hn hm] at HF
  have HLD := Lib.hid (learned_any canF s sr c cr ns refs hm w hB hI w (Below.refl _ _))
  have HAw := Lib.hid (fun w1 (h : Below w.heap.size w w1) => awake_any w1 (hs.below h))
  obtain ⟨L, hLe⟩ : ∃ L, L = bld 100 ns := ⟨_, rfl⟩
  have HB := Lib.hid (fun W (h : Below w.heap.size w W) => hB 100 100 rfl W h)
  unfold BuiltPost at HB
  have HM := Lib.hid hm
  rw [← hLe] at HLD HB
  clear hs hB hI hLe
  go_enter Tryd.func4, Tryd.ntmps4
  go_wp2_with fail
  go_at_call 12
  refine HF.out.mono ?_
  rintro e w1 ⟨rfl, rfl⟩
  go_wp2_with fail
  go_at_call 14
  refine HLD.out.mono ?_
  rintro e w2 ⟨bk, b, g, bm, cap, gr, capr, mk, hv, K, gn, co, rfl, hKx, hag, hrow, -, -, hKl⟩
  have hL100 : L.length ≤ 100 := hKx.kn.ar.len
  have HWF := Lib.hid hKx.kn.ar.wf
  obtain ⟨H, hHe⟩ : ∃ H, H = refs.filter fun x => hasB L.length x := ⟨_, rfl⟩
  rw [← hHe] at hKx
  have HHL : Hid (H.length ≤ 30) := Lib.hid (by rw [hHe]; exact Nat.le_trans (List.length_filter_le _ _) HM.out)
  have hB2 : Below w2.heap.size w2 (w2.alloc (.cells #[.int .i64 100, .slice (some ⟨gr, 0, none⟩) L.length capr] 29)) := (Below.refl _ _).alloc (Nat.le_refl _) _
  have hbx : (w2.alloc (.cells #[.int .i64 100, .slice (some ⟨gr, 0, none⟩) L.length capr] 29)).heap[w2.heap.size]? = some (.cells #[.int .i64 100, .slice (some ⟨gr, 0, none⟩) L.length capr] 29 (0, 0)) := heap_alloc_new _ _
  have HK3 := Lib.hid (hKx.keep hB2)
  have HBX := Lib.hid hbx
  obtain ⟨z0, z1⟩ : (w2.alloc (.cells #[.int .i64 100, .slice (some ⟨gr, 0, none⟩) L.length capr] 29)).cell? ⟨w2.heap.size, 0, none⟩ = some (.int .i64 100) ∧ (w2.alloc (.cells #[.int .i64 100, .slice (some ⟨gr, 0, none⟩) L.length capr] 29)).cell? ⟨w2.heap.size, 1, none⟩ = some (.slice (some ⟨gr, 0, none⟩) L.length capr) := ⟨(cell_of_row _ _ 0 _ _ _ hbx).trans rfl, (cell_of_row _ _ 1 _ _ _ hbx).trans rfl⟩
  have lz := lt_of_heap hbx
  clear hKx hag hrow hHe hB2 HLD HF hKl hbx
  have HHS := Lib.hid (fun w' => refHas_any 100 (some ⟨gr, 0, none⟩) L.length capr x w')
  cases hh : hasB L.length x with
  | false =>
    rw [hh] at HHS
    clear hh
    go_wp2_with fail
    go_at_call 18
    refine (HHS.out _).mono ?_
    rintro e w3 ⟨rfl, rfl⟩
    have HB4 := Lib.hid (HK3.out.st.bel.alloc HK3.out.st.bel.size (.cells #[.int .i64 100, .slice (some ⟨gr, 0, none⟩) L.length capr] 29))
    go_wp2_with fail
    go_at_call 13
    refine (HAw.out _ HB4.out).mono ?_
    rintro e w9 ⟨rfl, hb9⟩
    have HB9 := Lib.hid (HB4.out.trans (hb9.mono HB4.out.size))
    clear hb9
    go_wp2_with fail
    go_ret
    exact ⟨rfl, HB9.out⟩
  | true =>
    rw [hh] at HHS
    have HX := Lib.hid hh
    clear hh
    go_wp2_with fail
    go_at_call 18
    refine (HHS.out _).mono ?_
    rintro e w3 ⟨rfl, hw3⟩
    have hb3 : Below (w2.alloc (.cells #[.int .i64 100, .slice (some ⟨gr, 0, none⟩) L.length capr] 29)).heap.size (w2.alloc (.cells #[.int .i64 100, .slice (some ⟨gr, 0, none⟩) L.length capr] 29)) w3 := by rw [← hw3]; exact (Below.refl _ _).alloc (Nat.le_refl _) _
    have HK4 := Lib.hid (HK3.out.keep hb3)
    have HBX4 := Lib.hid ((hb3.block _ lz).trans HBX.out)
    clear hw3 hb3 z0 z1 lz HK3 HBX HHS
    go_wp2_with fail
    go_at_call 19
    refine (HB.out _ HK4.out.st.bel).mono ?_
    rintro e w4 ⟨b2, g2, bm2, cap2, gr2, capr2, rfl, hP⟩
    have HP := Lib.hid hP
    have HK5 := Lib.hid (HK4.out.keep hP.st.bel)
    have HBX5 := Lib.hid ((hP.st.bel.block _ (lt_of_heap HBX4.out)).trans HBX4.out)
    have HO1 : Hid (bk < w3.heap.size ∧ b < w3.heap.size ∧ g < w3.heap.size ∧ bm < w3.heap.size ∧ mk < w3.heap.size ∧ ∀ k, hv.ownBlock = some k → k < w3.heap.size) := Lib.hid (by
      have hk := HK4.out.kn
      exact ⟨lt_of_heap hk.box, hk.ar.blt, hk.ar.glt, hk.ar.mlt, hk.kn.lt, fun k e => (hk.own.lt k e).2⟩)
    have HLE : Hid (w.heap.size ≤ w3.heap.size) := Lib.hid HK4.out.st.bel.size
    clear hP HB
    have HCP := Lib.hid (fun wx (hb : Below w4.heap.size w4 wx) => kcopy_any (HK5.out.keep hb).kn (by have := HHL.out; omega) (HP.out.st.ar.below hb))
    go_wp2_with fail
    go_at_call 20
    refine (HCP.out _ (by first | exact Below.refl _ _ | exact (Below.refl _ _).alloc (Nat.le_refl _) _)).mono ?_
    rintro e w5 ⟨bk2, mk2, hv2, rfl, hK6, l1, l2, l3, hb5⟩
    have hb45 : Below w4.heap.size w4 w5 := by first | exact hb5 | exact ((Below.refl _ _).alloc (Nat.le_refl _) _).trans (hb5.mono (by simp))
    have HKD : Hid (Kd w w5 w3.heap.size bk b g bm cap mk hv H K bk2 b2 g2 bm2 cap2 mk2 hv2 H K L) := Lib.hid (by
      have hs4 := HP.out.st.bel.size
      have l1 : w4.heap.size ≤ bk2 := by first | exact l1 | (simp at l1; omega)
      have l2 : w4.heap.size ≤ mk2 := by first | exact l2 | (simp at l2; omega)
      exact ⟨HK5.out.keep hb45, hK6, HLE.out, HO1.out, ⟨by omega, HP.out.st.hb, HP.out.st.hg, HP.out.st.hm, by omega, fun k hk => by
        have l4 := l3 k hk
        have : w4.heap.size ≤ k := by first | exact l4 | (simp at l4; omega)
        omega⟩⟩)
    have HBX6 := Lib.hid ((hb45.block _ (lt_of_heap HBX5.out)).trans HBX5.out)
    have HS5 : Hid (w3.heap.size ≤ w5.heap.size) := Lib.hid (Nat.le_trans HP.out.st.bel.size hb45.size)
    have HSP : Hid (w2.heap.size < w3.heap.size) := Lib.hid (lt_of_heap HBX4.out)
    clear hK6 l1 l2 l3 hb5 hb45 HCP HK5 HBX5 HP HK4 HBX4
    obtain ⟨cd, hcd⟩ := bool_is (Can L (fun y => K y = true) x)
    have HCD := Lib.hid hcd
    have HCA : Hid (∀ wq, Kd w wq w3.heap.size bk b g bm cap mk hv H K bk2 b2 g2 bm2 cap2 mk2 hv2 H K L → Calls Tryd.prog 21 #[.pointer (some ⟨bk, 0, none⟩), .int .i64 x] wq fun e w' => e = .returned (.bool cd) ∧ Kno w' bk b g bm cap 100 L mk hv H K ∧ Kp wq w' mk) := Lib.hid (fun wq hq => (can_any HWF.out hq.k1.kn x HX.out).mono (by
      rintro e w' ⟨d, rfl, hd, hN, hP⟩
      have e1 : d = cd := by rw [Bool.eq_iff_iff]; exact hd.trans HCD.out.symm
      exact ⟨by rw [e1], hN, hP⟩))
    clear hcd
    go_wp2_with fail
    go_at_call 21
    refine (HCA.out _ HKD.out).mono ?_
    rintro e w6 ⟨rfl, hN6, hP6⟩
    have HK6 := Lib.hid (HKD.out.can1 hN6 hP6)
    have HS6 : Hid (w3.heap.size ≤ w6.heap.size) := Lib.hid (Nat.le_trans HS5.out hP6.size)
    have HBX7 : Hid (w6.heap[w2.heap.size]? = some (.cells #[.int .i64 100, .slice (some ⟨gr, 0, none⟩) L.length capr] 29 (0, 0))) := Lib.hid (by
      obtain ⟨es, cc, ho⟩ := HKD.out.k1.kn.kn.obj
      have hb := HBX6.out
      exact (hP6.kept _ (lt_of_heap hb) (fun e => by rw [e, ho] at hb; cases hb)).trans hb)
    clear hN6 hP6 HCA HKD HBX6 HS5
    have HLN := Lib.hid (learn_any HK6.out.k2 (by have := HHL.out; omega) x HX.out)
    unfold LPost at HLN
    go_wp2_with fail
    go_at_call 22
    refine HLN.out.mono ?_
    rintro e w7 ⟨hv3, K3, rfl, hN7, hC7, hL7⟩
    have HK7 := Lib.hid (HK6.out.learn2 hN7 hL7 HS6.out)
    have HBX8 : Hid (w7.heap[w2.heap.size]? = some (.cells #[.int .i64 100, .slice (some ⟨gr, 0, none⟩) L.length capr] 29 (0, 0))) := Lib.hid (by
      have hb := HBX7.out
      obtain ⟨c1, c2, c3, c4, c5, c6⟩ := HK6.out.o2
      have hs := HSP.out
      exact (hL7.kept _ (lt_of_heap hb) (by omega) (by omega) (fun e => by have := c6 _ e; omega)).trans hb)
    have HC7 := Lib.hid hC7
    clear hN7 hL7 hC7 HLN HK6 HBX7 HS6
    have HSUB : Hid (∀ y, Can L (fun z => K z = true) y → Can L (fun z => K3 z = true) y) := Lib.hid (fun y hy => hy.mono fun z hz => (HC7.out z).2 (cl_in (.inl hz)))
    have HKX : Hid (K3 x = true) := Lib.hid ((HC7.out x).2 (cl_in (.inr rfl)))
    have HCUT : Hid (cd = true → ∀ y, Can L (fun z => K3 z = true) y → Can L (fun z => K z = true) y) := Lib.hid (fun h y hy => by
      have e : (fun z => K3 z = true) = cl L fun z => K z = true ∨ z = x := funext fun z => propext (HC7.out z)
      rw [e] at hy
      exact can_cut HWF.out HK7.out.k1.kn.sh (fun z hz => HK7.out.k1.kn.kh z hz) (HCD.out.1 h) hy)
    obtain ⟨z0, z1⟩ : w7.cell? ⟨w2.heap.size, 0, none⟩ = some (.int .i64 100) ∧ w7.cell? ⟨w2.heap.size, 1, none⟩ = some (.slice (some ⟨gr, 0, none⟩) L.length capr) := ⟨(cell_of_row _ _ 0 _ _ _ HBX8.out).trans rfl, (cell_of_row _ _ 1 _ _ _ HBX8.out).trans rfl⟩
    have lz := lt_of_heap HBX8.out
    clear HC7 HCD HBX8 HSP HLE HO1
    generalize w3.heap.size = S at *
    go_wp2_with fail
    go_loopg [62] L.length (fun q u62 wq => ∃ k : Nat, k + q = L.length ∧ u62 = .int .i64 k ∧ Aside (Kd w wq S bk b g bm cap mk hv H K bk2 b2 g2 bm2 cap2 mk2 hv3 (H ++ [x]) K3 L))
    case atStart => exact ⟨0, by omega, rfl, HK7.out⟩
    case round =>
      clear HK7 z0 z1 lz
      obtain ⟨k, hkq, rfl, hkd⟩ := hrel
      have HKD := Lib.hid hkd.out
      clear hkd
      by_cases hlt : k < L.length
      · have hhas : hasB L.length (k : Int) = true := hasB_iff.2 ⟨by omega, by omega⟩
        have hlt' : (k : Int) < L.length := by omega
        obtain ⟨z, hz⟩ := bool_is (Can L (fun y => K y = true) (k : Int))
        obtain ⟨y, hy⟩ := bool_is (Can L (fun y => K3 y = true) (k : Int))
        have HZY : Hid ((z = true → y = true) ∧ (cd = true → y = z)) := Lib.hid ⟨fun h => hy.2 (HSUB.out _ (hz.1 h)), fun h => by
          rw [Bool.eq_iff_iff]
          exact ⟨fun h2 => hz.2 (HCUT.out h _ (hy.1 h2)), fun h2 => hy.2 (HSUB.out _ (hz.1 h2))⟩⟩
        have HC1 : Hid (∀ wq, Kd w wq S bk b g bm cap mk hv H K bk2 b2 g2 bm2 cap2 mk2 hv3 (H ++ [x]) K3 L → Calls Tryd.prog 21 #[.pointer (some ⟨bk, 0, none⟩), .int .i64 (k : Int)] wq fun e w' => e = .returned (.bool z) ∧ Kno w' bk b g bm cap 100 L mk hv H K ∧ Kp wq w' mk) := Lib.hid (fun wq hq => (can_any HWF.out hq.k1.kn (k : Int) hhas).mono (by
          rintro e w' ⟨d, rfl, hd, hN, hP⟩
          have e1 : d = z := by rw [Bool.eq_iff_iff]; exact hd.trans hz.symm
          exact ⟨by rw [e1], hN, hP⟩))
        have HC2 : Hid (∀ wq, Kd w wq S bk b g bm cap mk hv H K bk2 b2 g2 bm2 cap2 mk2 hv3 (H ++ [x]) K3 L → Calls Tryd.prog 21 #[.pointer (some ⟨bk2, 0, none⟩), .int .i64 (k : Int)] wq fun e w' => e = .returned (.bool y) ∧ Kno w' bk2 b2 g2 bm2 cap2 100 L mk2 hv3 (H ++ [x]) K3 ∧ Kp wq w' mk2) := Lib.hid (fun wq hq => (can_any HWF.out hq.k2 (k : Int) hhas).mono (by
          rintro e w' ⟨d, rfl, hd, hN, hP⟩
          have e1 : d = y := by rw [Bool.eq_iff_iff]; exact hd.trans hy.symm
          exact ⟨by rw [e1], hN, hP⟩))
        clear hhas hy hz
        have HD0 := HKD
        cases z with
        | true =>
          obtain rfl : y = true := HZY.out.1 rfl
          cases cd with
          | true =>
            go_wp2_with fail
            go_at_call 21
            refine (HC1.out _ HD0.out).mono ?_
            rintro e v1 ⟨rfl, hN, hP⟩
            have HD1 := Lib.hid (HD0.out.can1 hN hP)
            clear hN hP
            go_wp2_with fail
            go_at_call 21
            refine (HC2.out _ HD1.out).mono ?_
            rintro e v2 ⟨rfl, hN, hP⟩
            have HD2 := Lib.hid (HD1.out.can2 hN hP)
            clear hN hP
            go_wp2_with fail
            go_at_call 21
            refine (HC2.out _ HD2.out).mono ?_
            rintro e v3 ⟨rfl, hN, hP⟩
            have HD3 := Lib.hid (HD2.out.can2 hN hP)
            clear hN hP
            go_wp2_with fail
            go_at_call 21
            refine (HC1.out _ HD3.out).mono ?_
            rintro e v4 ⟨rfl, hN, hP⟩
            have HD4 := Lib.hid (HD3.out.can1 hN hP)
            clear hN hP
            go_wp2_with fail
            go_roundg (L.length - (k + 1))
            case rel => exact ⟨k + 1, by omega, by go_num, (show Aside _ from HD4.out)⟩
            case measure => omega
          | false =>
            go_wp2_with fail
            go_at_call 21
            refine (HC1.out _ HD0.out).mono ?_
            rintro e v1 ⟨rfl, hN, hP⟩
            have HD1 := Lib.hid (HD0.out.can1 hN hP)
            clear hN hP
            go_wp2_with fail
            go_at_call 21
            refine (HC2.out _ HD1.out).mono ?_
            rintro e v2 ⟨rfl, hN, hP⟩
            have HD2 := Lib.hid (HD1.out.can2 hN hP)
            clear hN hP
            go_wp2_with fail
            go_roundg (L.length - (k + 1))
            case rel => exact ⟨k + 1, by omega, by go_num, (show Aside _ from HD2.out)⟩
            case measure => omega
        | false =>
          cases cd with
          | true =>
            obtain rfl : y = false := HZY.out.2 rfl
            go_wp2_with fail
            go_at_call 21
            refine (HC1.out _ HD0.out).mono ?_
            rintro e v1 ⟨rfl, hN, hP⟩
            have HD1 := Lib.hid (HD0.out.can1 hN hP)
            clear hN hP
            go_wp2_with fail
            go_at_call 21
            refine (HC2.out _ HD1.out).mono ?_
            rintro e v2 ⟨rfl, hN, hP⟩
            have HD2 := Lib.hid (HD1.out.can2 hN hP)
            clear hN hP
            go_wp2_with fail
            go_at_call 21
            refine (HC1.out _ HD2.out).mono ?_
            rintro e v3 ⟨rfl, hN, hP⟩
            have HD3 := Lib.hid (HD2.out.can1 hN hP)
            clear hN hP
            go_wp2_with fail
            go_roundg (L.length - (k + 1))
            case rel => exact ⟨k + 1, by omega, by go_num, (show Aside _ from HD3.out)⟩
            case measure => omega
          | false =>
            go_wp2_with fail
            go_at_call 21
            refine (HC1.out _ HD0.out).mono ?_
            rintro e v1 ⟨rfl, hN, hP⟩
            have HD1 := Lib.hid (HD0.out.can1 hN hP)
            clear hN hP
            go_wp2_with fail
            go_roundg (L.length - (k + 1))
            case rel => exact ⟨k + 1, by omega, by go_num, (show Aside _ from HD1.out)⟩
            case measure => omega
      · obtain rfl : k = L.length := by omega
        have hlt' : ¬ ((L.length : Nat) : Int) < ((L.length : Nat) : Int) := by omega
        have hxi : i64ok x := by
          have := hasB_iff.1 HX.out
          exact ⟨by omega, by omega⟩
        have HXI := Lib.hid hxi
        clear hxi
        have HCX : Hid (∀ wq, Kd w wq S bk b g bm cap mk hv H K bk2 b2 g2 bm2 cap2 mk2 hv3 (H ++ [x]) K3 L → Calls Tryd.prog 21 #[.pointer (some ⟨bk2, 0, none⟩), .int .i64 x] wq fun e w' => e = .returned (.bool true) ∧ Kno w' bk2 b2 g2 bm2 cap2 100 L mk2 hv3 (H ++ [x]) K3 ∧ Kp wq w' mk2) := Lib.hid (fun wq hq => (can_any HWF.out hq.k2 x HX.out).mono (by
          rintro e w' ⟨d, rfl, hd, hN, hP⟩
          exact ⟨by rw [hd.2 (.known HX.out HKX.out)], hN, hP⟩))
        have HNX : Hid (∀ wq, Kd w wq S bk b g bm cap mk hv H K bk2 b2 g2 bm2 cap2 mk2 hv3 (H ++ [x]) K3 L → Calls Tryd.prog 16 #[.pointer (some ⟨bk2, 0, none⟩), .int .i64 x] wq fun e w' => e = .returned (.bool true) ∧ Below wq.heap.size wq w') := Lib.hid (fun wq hq => by
          have := knows_any x HXI.out wq hq.k2.kw
          rw [HKX.out] at this; exact this)
        have HH2 : Hid (∀ wq, Kd w wq S bk b g bm cap mk hv H K bk2 b2 g2 bm2 cap2 mk2 hv3 (H ++ [x]) K3 L → Calls Tryd.prog 17 #[.pointer (some ⟨bk2, 0, none⟩)] wq fun e w' => ∃ sh ch, e = .returned (.slice sh (H.length + 1) ch) ∧ Below wq.heap.size wq w') := Lib.hid (fun wq hq => by
          have h := heard_any hq.k2 (by rw [List.length_append]; have := HHL.out; simp; omega)
          unfold HdC at h
          refine h.mono ?_
          rintro e w' ⟨sh, ch, rfl, -, -, hb⟩
          exact ⟨sh, ch, by rw [List.length_append]; rfl, hb⟩)
        have HH1 : Hid (∀ wq, Kd w wq S bk b g bm cap mk hv H K bk2 b2 g2 bm2 cap2 mk2 hv3 (H ++ [x]) K3 L → Calls Tryd.prog 17 #[.pointer (some ⟨bk, 0, none⟩)] wq fun e w' => ∃ sh ch, e = .returned (.slice sh H.length ch) ∧ Below wq.heap.size wq w') := Lib.hid (fun wq hq => by
          have h := heard_any hq.k1.kn (by have := HHL.out; omega)
          unfold HdC at h
          refine h.mono ?_
          rintro e w' ⟨sh, ch, rfl, -, -, hb⟩
          exact ⟨sh, ch, rfl, hb⟩)
        have hh30 : (H.length : Int) ≤ 30 := by have := HHL.out; omega
        have hwr : IntKind.i64.wrap ((H.length : Int) + 1) = (H.length : Int) + 1 := wrap_sm (by omega) (by omega)
        go_wp2_with fail
        go_at_call 21
        refine (HCX.out _ HKD.out).mono ?_
        rintro e v1 ⟨rfl, hN, hP⟩
        have HD1 := Lib.hid (HKD.out.can2 hN hP)
        clear hN hP
        go_wp2_with fail
        go_at_call 16
        refine (HNX.out _ HD1.out).mono ?_
        rintro e v2 ⟨rfl, hb2⟩
        have HD2 := Lib.hid (HD1.out.keep hb2)
        clear hb2
        go_wp2_with fail
        go_at_call 17
        refine (HH2.out _ HD2.out).mono ?_
        rintro e v3 ⟨sh3, ch3, rfl, hb3⟩
        have HD3 := Lib.hid (HD2.out.keep hb3)
        clear hb3
        go_wp2_with fail
        go_at_call 17
        refine (HH1.out _ HD3.out).mono ?_
        rintro e v4 ⟨sh4, ch4, rfl, hb4⟩
        have HD4 := Lib.hid (HD3.out.keep hb4)
        clear hb4
        go_wp2_with fail
        go_at_call 13
        refine (HAw.out _ HD4.out.k1.st.bel).mono ?_
        rintro e v5 ⟨rfl, hb5⟩
        have HB5 := Lib.hid (HD4.out.k1.st.bel.trans (hb5.mono HD4.out.k1.st.bel.size))
        clear hb5
        go_wp2_with fail
        go_ret
        exact ⟨rfl, HB5.out⟩
end Go.Proofs.YtemigefkkjgehaaDoor
