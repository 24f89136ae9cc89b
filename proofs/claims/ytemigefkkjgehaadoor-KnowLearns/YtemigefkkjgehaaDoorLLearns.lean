/- The walk of KnowLearns: behind any refs that are learned the document's terms are known, and no others; what was heard is told in order. -/
import Derived.Test.YtemigefkkjgehaaDoorLf
import Derived.Test.YtemigefkkjgehaaDoorEm
import Derived.Test.YtemigefkkjgehaaDoorYk
import Derived.Test.YtemigefkkjgehaaDoorLj
namespace Go.Proofs.YtemigefkkjgehaaDoor
open Go.RowKit Go.Maps

set_option maxRecDepth 100000 in
set_option maxHeartbeats 1000000 in
theorem learns_long (s sr : Option Addr) (n m c cr : Nat) (hn : 30 < n ∨ 30 < m) (w : World) (hs : Shp w) : Calls Tryd.prog 3 #[.slice s n c, .slice sr m cr] w fun e w' => e = .returned (.bool true) ∧ Below w.heap.size w w' := by
  have HA := Lib.hid (awake_any w hs)
  have HF := Lib.hid (few_any s sr n m c cr w)
  rw [few_no hn] at HF
  clear hs hn
  go_enter Tryd.func3, Tryd.ntmps3
  go_wp2_with (first
    | (go_at_call 12; refine HF.out.mono ?_; rintro e w1 ⟨rfl, rfl⟩)
    | (go_at_call 13; refine HA.out.mono ?_; rintro e w2 ⟨rfl, hb2⟩))
  go_ret
  exact ⟨rfl, hb2⟩

set_option maxRecDepth 100000 in
set_option maxHeartbeats 8000000 in
theorem learns_good (s sr : Option Addr) (c cr : Nat) (ns : List Nd) (refs : List Int) (hn : ns.length ≤ 30) (hm : refs.length ≤ 30) (w : World) (hs : Shp w) (hB : BuiltAt w (.slice s ns.length c) ns) (hI : IntsV w sr refs) : Calls Tryd.prog 3 #[.slice s ns.length c, .slice sr refs.length cr] w fun e w' => e = .returned (.bool true) ∧ Below w.heap.size w w' := by
  have HF := Lib.hid (few_any s sr ns.length refs.length c cr w)
  rw [few_yes hn hm] at HF
  have HLD := Lib.hid (learned_any canF s sr c cr ns refs hm w hB hI w (Below.refl _ _))
  have HAw := Lib.hid (fun w1 (h : Below w.heap.size w w1) => awake_any w1 (hs.below h))
  obtain ⟨L, hLe⟩ : ∃ L, L = bld 100 ns := ⟨_, rfl⟩
  have HIV := Lib.hid hI
  have HM := Lib.hid hm
  rw [← hLe] at HLD
  clear hs hB hI hLe
  go_enter Tryd.func3, Tryd.ntmps3
  go_wp2_with fail
  go_at_call 12
  refine HF.out.mono ?_
  rintro e w1 ⟨rfl, rfl⟩
  go_wp2_with fail
  go_at_call 14
  refine HLD.out.mono ?_
  rintro e w2 ⟨bk, b, g, bm, cap, gr, capr, mk, hv, K, gn, co, rfl, hKx, hag, hrow, han, hob, hKl⟩
  have hL100 : L.length ≤ 100 := hKx.kn.ar.len
  have HWF := Lib.hid hKx.kn.ar.wf
  obtain ⟨H, hHe⟩ : ∃ H, H = refs.filter fun x => hasB L.length x := ⟨_, rfl⟩
  rw [← hHe] at hKx
  have HHE := Lib.hid hHe
  have HHL : Hid (H.length ≤ 30) := Lib.hid (by rw [hHe]; exact Nat.le_trans (List.length_filter_le _ _) HM.out)
  obtain ⟨rl, hrl⟩ : ∃ rl, rl = rlearn L refs (List.replicate L.length false) := ⟨_, rfl⟩
  have HRN : Hid (rl.length = L.length) := Lib.hid (by rw [hrl, rlearn_len, List.length_replicate])
  have HRK : Hid (∀ k : Nat, k < L.length → rl.getD k false = K k) := Lib.hid (fun k hk => by
    have h1 := rlearn_any HWF.out refs (k : Int)
    have h2 := hKl (k : Int)
    rw [← hrl] at h1
    rw [Bool.eq_iff_iff, h2, ← h1]
    unfold knB
    simp)
  rw [← hrl] at hob
  have HKX := Lib.hid hKx
  have HOB := Lib.hid hob
  have HSO : Hid ((∀ x, K x = true → 0 ≤ x ∧ x < L.length)) := Lib.hid (fun x hx => by have := hasB_iff.1 (hKx.kn.kh x hx); omega)
  have hB2 : Below w2.heap.size w2 (w2.alloc (.cells #[.int .i64 100, .slice (some ⟨gr, 0, none⟩) L.length capr] 29)) := (Below.refl _ _).alloc (Nat.le_refl _) _
  have hbx : (w2.alloc (.cells #[.int .i64 100, .slice (some ⟨gr, 0, none⟩) L.length capr] 29)).heap[w2.heap.size]? = some (.cells #[.int .i64 100, .slice (some ⟨gr, 0, none⟩) L.length capr] 29 (0, 0)) := heap_alloc_new _ _
  have HK3 := Lib.hid (hKx.keep hB2)
  have HOB3 := Lib.hid (hob.keep (hB2.block _ han.lt))
  have HBX := Lib.hid hbx
  have HKD := Lib.hid (known_any HK3.out.kn (by omega))
  unfold KdC at HKD
  clear hKx hag hrow han hob hKl hHe hrl HLD HF hB2 hbx HKX HOB
  go_wp2_with fail
  go_at_call 15
  refine HKD.out.mono ?_
  rintro e w3 ⟨v, ss, rfl, hsp, hsm, hsr, hb3⟩
  obtain ⟨sv, cv, rfl, hsi, hsb⟩ := own_sl hsr
  have HK4 := Lib.hid (HK3.out.keep hb3)
  have HOB4 := Lib.hid (HOB3.out.keep (hb3.block _ HOB3.out.lt))
  have HBX4 := Lib.hid ((hb3.block _ (lt_of_heap HBX.out)).trans HBX.out)
  have HSP := Lib.hid hsp
  have HSM := Lib.hid hsm
  have HSI := Lib.hid hsi
  have HSL : Hid (ss.length ≤ L.length) := Lib.hid (sset_len hsp (fun x hx => HSO.out x ((hsm x).1 hx)))
  obtain ⟨z0, z1⟩ : w3.cell? ⟨w2.heap.size, 0, none⟩ = some (.int .i64 100) ∧ w3.cell? ⟨w2.heap.size, 1, none⟩ = some (.slice (some ⟨gr, 0, none⟩) L.length capr) := ⟨(cell_of_row _ _ 0 _ _ _ HBX4.out).trans rfl, (cell_of_row _ _ 1 _ _ _ HBX4.out).trans rfl⟩
  have lz := lt_of_heap HBX4.out
  clear hsp hsm hsi hsb hsr hb3 HK3 HOB3 HBX HKD
  generalize w2.heap.size = pb at *
  go_wp2_with fail
  go_loopg [9, 11, 36] L.length (fun q u9 _ u36 wq => ∃ k a : Nat, k + q = L.length ∧ u36 = .int .i64 k ∧ u9 = .int .i64 a ∧ AtK ss k a ∧ Aside (Below w3.heap.size w3 wq))
  case atStart => exact ⟨0, 0, by omega, rfl, rfl, AtK.start (fun x hx => (HSO.out x ((HSM.out x).1 hx)).1), Below.refl _ _⟩
  case round =>
    clear z0 z1 lz
    obtain ⟨k, a, hkq, rfl, rfl, hAT, hbw⟩ := hrel
    have HAT := Lib.hid hAT
    have HBW := Lib.hid hbw.out
    clear hAT hbw
    by_cases hlt : k < L.length
    · have hlt' : (k : Int) < L.length := by omega
      have hgn : gn < w3.heap.size := HOB4.out.lt
      have hgw : gn < wr.heap.size := Nat.lt_of_lt_of_le hgn HBW.out.size
      have hcb : wr.cell? ⟨gn, k, none⟩ = some (.bool (K k)) := by
        rw [← HRK.out k hlt]
        exact (HBW.out.cell (p := ⟨gn, k, none⟩) hgn).trans (HOB4.out.at_ k (by rw [HRN.out]; exact hlt))
      have HKW : Hid (∀ wq, Below w3.heap.size w3 wq → Calls Tryd.prog 16 #[.pointer (some ⟨bk, 0, none⟩), .int .i64 (k : Int)] wq fun e w' => e = .returned (.bool (K k)) ∧ Below wq.heap.size wq w') := Lib.hid (fun wq hq => knows_any (k : Int) ⟨by omega, by omega⟩ wq (HK4.out.keep hq).kn.kw)
      cases hKk : K (k : Int) with
      | true =>
        rw [hKk] at hcb HKW
        obtain ⟨ha, hae, hAT'⟩ := HAT.out.yes HSP.out ((HSM.out k).2 hKk)
        obtain ⟨gl, ol, rfl, hgl, his⟩ := HSI.out (by omega)
        have hcs : wr.cell? ⟨gl, ol + a, none⟩ = some (.int .i64 k) := by
          rw [← hae]
          exact (HBW.out.cell (p := ⟨gl, ol + a, none⟩) hgl).trans (his a ha)
        have HA2 := Lib.hid hAT'
        have hss : ss.length ≤ 1000 := by have := HSL.out; omega
        clear hKk hAT' hae his hgl
        go_wp2_with fail
        go_region_held3 (fun w' => w'.cell? ⟨gn, k, none⟩ = some (.bool true)) (first | exact hcb | go_keep)
          (first | (go_at_call 16; refine (HKW.out _ HBW.out.drew).mono ?_; rintro e w4 ⟨rfl, hb4⟩; have hcb4 := (hb4.cell (p := ⟨gn, k, none⟩) hgw).trans hcb))
        have HB4 := Lib.hid (HBW.out.trans (((Below.refl wr.heap.size wr).drew.trans hb4).mono HBW.out.size))
        clear hb4 hcb4
        go_wp2_with fail
        go_roundg (L.length - (k + 1))
        case rel => exact ⟨k + 1, a + 1, by omega, by go_num, by go_num, HA2.out, (show Aside _ from HB4.out)⟩
        case measure => omega
      | false =>
        rw [hKk] at hcb HKW
        have HA2 := Lib.hid (HAT.out.no (fun h => by rw [(HSM.out k).1 h] at hKk; cases hKk))
        clear hKk
        go_wp2_with fail
        go_region_held3 (fun w' => w'.cell? ⟨gn, k, none⟩ = some (.bool false)) (first | exact hcb | go_keep)
          (first | (go_at_call 16; refine (HKW.out _ HBW.out.drew).mono ?_; rintro e w4 ⟨rfl, hb4⟩; have hcb4 := (hb4.cell (p := ⟨gn, k, none⟩) hgw).trans hcb))
        have HB4 := Lib.hid (HBW.out.trans (((Below.refl wr.heap.size wr).drew.trans hb4).mono HBW.out.size))
        clear hb4 hcb4
        go_wp2_with fail
        go_roundg (L.length - (k + 1))
        case rel => exact ⟨k + 1, a, by omega, by go_num, by go_num, HA2.out, (show Aside _ from HB4.out)⟩
        case measure => omega
    · obtain rfl : k = L.length := by omega
      have hlt' : ¬ ((L.length : Nat) : Int) < ((L.length : Nat) : Int) := by omega
      obtain rfl : a = ss.length := HAT.out.all (fun x hx => (HSO.out x ((HSM.out x).1 hx)).2)
      have HHD := Lib.hid (heard_any (HK4.out.keep HBW.out).kn (by have := HHL.out; omega))
      unfold HdC at HHD
      go_wp2_with fail
      go_at_call 17
      refine HHD.out.mono ?_
      rintro e w5 ⟨sh, ch, rfl, hhi, -, hb5⟩
      have HB5 := Lib.hid (HBW.out.trans (hb5.mono HBW.out.size))
      have HHI := Lib.hid hhi
      have HRI := Lib.hid ((HIV.out.keep HK4.out.st.bel).keep HB5.out)
      have HBX5 := Lib.hid ((HB5.out.block _ (lt_of_heap HBX4.out)).trans HBX4.out)
      have HBE := Lib.hid (HK4.out.st.bel.trans (HB5.out.mono HK4.out.st.bel.size))
      clear hhi hb5 HHD HBW HAT HB5 HBX4 HK4 HOB4 HIV HSI HSM HSP HRK HRN
      go_wp2_with fail
      go_loopg [13, 15, 70] refs.length (fun q u13 _ u70 wq => ∃ k n : Nat, k + q = refs.length ∧ u70 = .int .i64 k ∧ u13 = .int .i64 n ∧ n = thro (fun x => hasB L.length x) refs k ∧ Aside (Below w5.heap.size w5 wq))
      case atStart => exact ⟨0, 0, by omega, rfl, rfl, (thro_zero _ _).symm, Below.refl _ _⟩
      case round =>
        obtain ⟨k, n, hkq, rfl, rfl, hne, hbw⟩ := hrel
        have HNE := Lib.hid hne
        have HBW := Lib.hid hbw.out
        clear hne hbw
        have hbx := (HBW.out.block _ (lt_of_heap HBX5.out)).trans HBX5.out
        obtain ⟨z0, z1⟩ : wr.cell? ⟨pb, 0, none⟩ = some (.int .i64 100) ∧ wr.cell? ⟨pb, 1, none⟩ = some (.slice (some ⟨gr, 0, none⟩) L.length capr) := ⟨(cell_of_row _ _ 0 _ _ _ hbx).trans rfl, (cell_of_row _ _ 1 _ _ _ hbx).trans rfl⟩
        have lz := lt_of_heap hbx
        clear hbx
        by_cases hlt : k < refs.length
        · have hlt' : (k : Int) < refs.length := by omega
          obtain ⟨gl, ol, rfl, hgl, his⟩ := HRI.out (by omega)
          obtain ⟨x, hx⟩ : ∃ x, x = refs.getD k 0 := ⟨_, rfl⟩
          have hcx : wr.cell? ⟨gl, ol + k, none⟩ = some (.int .i64 x) := by
            rw [hx]
            exact (HBW.out.cell (p := ⟨gl, ol + k, none⟩) hgl).trans (his k hlt)
          have HHS := Lib.hid (fun w' => refHas_any 100 (some ⟨gr, 0, none⟩) L.length capr x w')
          have HX := Lib.hid hx
          clear hgl his hx
          cases hh : hasB L.length x with
          | true =>
            rw [hh] at HHS
            obtain ⟨hn1, hn2, hn3⟩ := thro_yes (p := fun x => hasB L.length x) (l := refs) hlt (by rw [← HX.out]; exact hh)
            rw [← HNE.out, ← HHE.out] at hn2 hn3
            rw [← HNE.out] at hn1
            rw [← HX.out] at hn3
            obtain ⟨gh, oh, rfl, hgh, hih⟩ := HHI.out (by omega)
            have hch : wr.cell? ⟨gh, oh + n, none⟩ = some (.int .i64 x) := by
              rw [← hn3]
              exact (HBW.out.cell (p := ⟨gh, oh + n, none⟩) hgh).trans (hih n hn2)
            have hgw : gh < wr.heap.size := Nat.lt_of_lt_of_le hgh HBW.out.size
            have hn30 : n ≤ 1000 := by have := HHL.out; omega
            have HN1 := Lib.hid hn1
            clear hn1 hn3 hih hh
            go_wp2_with fail
            go_at_call 18
            refine (HHS.out _).mono ?_
            rintro e w6 ⟨rfl, hw6⟩
            have hb6 : Below wr.heap.size wr w6 := by rw [← hw6]; exact (Below.refl _ _).alloc (Nat.le_refl _) _
            have hch6 := (hb6.cell (p := ⟨gh, oh + n, none⟩) hgw).trans hch
            have HB6 := Lib.hid (HBW.out.trans (hb6.mono HBW.out.size))
            clear hw6 hb6 hch hcx z0 z1 lz
            go_wp2_with fail
            go_roundg (refs.length - (k + 1))
            case rel => exact ⟨k + 1, n + 1, by omega, by go_num, by go_num, HN1.out.symm, (show Aside _ from HB6.out)⟩
            case measure => omega
          | false =>
            rw [hh] at HHS
            have HN1 := Lib.hid (thro_no (p := fun x => hasB L.length x) (l := refs) hlt (by rw [← HX.out]; exact hh))
            clear hh
            go_wp2_with fail
            go_at_call 18
            refine (HHS.out _).mono ?_
            rintro e w6 ⟨rfl, hw6⟩
            have hb6 : Below wr.heap.size wr w6 := by rw [← hw6]; exact (Below.refl _ _).alloc (Nat.le_refl _) _
            have HB6 := Lib.hid (HBW.out.trans (hb6.mono HBW.out.size))
            clear hw6 hb6 hcx z0 z1 lz
            go_wp2_with fail
            go_roundg (refs.length - (k + 1))
            case rel => exact ⟨k + 1, n, by omega, by go_num, by go_num, HNE.out.trans HN1.out.symm, (show Aside _ from HB6.out)⟩
            case measure => omega
        · obtain rfl : k = refs.length := by omega
          have hlt' : ¬ ((refs.length : Nat) : Int) < ((refs.length : Nat) : Int) := by omega
          obtain rfl : n = H.length := by rw [HNE.out, thro_all, ← HHE.out]
          have HBF := Lib.hid (HBE.out.trans (HBW.out.mono HBE.out.size))
          go_wp2_with fail
          go_at_call 13
          refine (HAw.out _ HBF.out).mono ?_
          rintro e w9 ⟨rfl, hb9⟩
          have HB9 := Lib.hid (HBF.out.trans (hb9.mono HBF.out.size))
          clear hb9
          go_wp2_with fail
          go_ret
          exact ⟨rfl, HB9.out⟩
end Go.Proofs.YtemigefkkjgehaaDoor
