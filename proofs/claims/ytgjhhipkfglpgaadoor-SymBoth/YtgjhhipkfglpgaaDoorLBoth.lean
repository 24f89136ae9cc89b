/- The walk of SymBoth: two states that are the same stay so, where the one seals, and the other one opens what that sealed. -/
import Derived.Test.YtgjhhipkfglpgaaDoorKl
import Derived.Test.YtgjhhipkfglpgaaDoorKi
namespace Go.Proofs.YtgjhhipkfglpgaaDoor
open Go.RowKit

set_option maxRecDepth 100000 in
set_option maxHeartbeats 1000000 in
theorem both_long (s : Option Addr) (m c : Nat) (so : Option Addr) (mo co : Nat) (hm : 30 < m ∨ 30 < mo) (w : World) (hs : Shp w) : Calls Tryd.prog 3 #[.slice s m c, .slice so mo co] w fun e w' => e = .returned (.bool true) ∧ Below w.heap.size w w' := by
  have HA := Lib.hid (awake11_any w hs)
  clear hs
  by_cases h1 : 30 < m
  · have h30 : (30 : Int) < m := by omega
    clear hm h1
    go_enter Tryd.func3, Tryd.ntmps3
    go_wp2_with (go_at_call 7; refine HA.out.mono ?_; rintro e w1 ⟨rfl, hb1⟩)
    go_ret
    exact ⟨rfl, hb1⟩
  · have h30 : ¬ (30 : Int) < m := by omega
    have h31 : (30 : Int) < mo := by omega
    clear hm h1
    go_enter Tryd.func3, Tryd.ntmps3
    go_wp2_with (go_at_call 7; refine HA.out.mono ?_; rintro e w1 ⟨rfl, hb1⟩)
    go_ret
    exact ⟨rfl, hb1⟩
set_option maxRecDepth 100000 in
set_option maxHeartbeats 4000000 in
theorem both_good (s : Option Addr) (cc : Nat) (ns : List Nd) (so : Option Addr) (co : Nat) (os : List Op2) (hn : ns.length ≤ 30) (hm : os.length ≤ 30) (w : World) (hs : Shp w) (hO : OpsV w so os) (hB : BuiltAt w (.slice s ns.length cc) ns) : Calls Tryd.prog 3 #[.slice s ns.length cc, .slice so os.length co] w fun e w' => e = .returned (.bool true) ∧ Below w.heap.size w w' := by
  have HB0 := hB 400 400 (by decide) w (Below.refl _ _)
  unfold BuiltPost at HB0
  have HB := Lib.hid HB0; clear HB0
  have HSH := Lib.hid hs
  have HAw := Lib.hid (fun w1 (h : Below w.heap.size w w1) => awake11_any w1 (hs.below h))
  obtain ⟨L, hLe⟩ : ∃ L, L = bld 400 ns := ⟨_, rfl⟩
  rw [← hLe] at HB
  have h30 : (ns.length : Int) ≤ 30 := by omega
  have h31 : (os.length : Int) ≤ 30 := by omega
  have HLN : Hid (L.length ≤ 31) := Lib.hid (by rw [hLe]; have := bld_len11 (lim := 400) ns; omega)
  have HOS := Lib.hid hO
  have HM := Lib.hid hm
  clear hs hB hLe hn hO hm
  go_enter Tryd.func3, Tryd.ntmps3
  go_wp2_with fail
  go_at_call 8
  refine HB.out.mono ?_
  rintro e w1 ⟨b, g, bm, cap, gr, capr, rfl, hP⟩
  have HF1 : Hid (Fs w w w1 b g g bm cap 400 L) := Lib.hid ⟨hP.st, .inl rfl, Kept.of hP.st.bel, Nat.le_refl _⟩
  clear hP HB
  have hz : hasB L.length 0 = true := hasB_iff.2 ⟨by omega, by have := HF1.out.st.ar.wf.toWFp.pos; omega⟩
  obtain ⟨e1, W1, G1, ck0, r0, s0, -, -, -⟩ := bg_go (lim := 400) (bs := byB ⟨#[112, 97, 116, 116, 101, 114, 110]⟩) (p := 0) HF1.out.st.ar.wf (by decide) (byB_ok _) (by rw [byB_len]; decide) (by rw [byB_len]; have := HLN.out; show L.length + 2 * 7 + 1 ≤ 400; omega) hz
  have HBG := Lib.hid (fun wi g2 cap2 (h : St w wi b g2 bm cap2 400 L) => begin_any w b g2 bm cap2 400 L ⟨#[112, 97, 116, 116, 101, 114, 110]⟩ 0 wi h HSH.out (by simp [i64ok]))
  have HL1 : Hid ((bgL 400 L (byB ⟨#[112, 97, 116, 116, 101, 114, 110]⟩) 0).length ≤ 46) := Lib.hid (by have := W1.le; have := HLN.out; rw [byB_len] at *; have h7 : (ByteArray.size ⟨#[112, 97, 116, 116, 101, 114, 110]⟩) = 7 := rfl; omega)
  rw [e1, s0] at HBG
  unfold syV cZ at HBG
  rw [s0] at G1
  have HG1 := Lib.hid G1
  clear e1 W1 G1 s0 hz
  generalize bgL 400 L (byB ⟨#[112, 97, 116, 116, 101, 114, 110]⟩) 0 = M0 at *
  have HB11 : Hid (Below w1.heap.size w1 (w1.alloc (.cells #[.int .i64 400, .slice (some ⟨gr, 0, none⟩) L.length capr] 28))) := Lib.hid ((Below.refl _ _).alloc (Nat.le_refl _) _)
  have HX12 : Hid ((w1.alloc (.cells #[.int .i64 400, .slice (some ⟨gr, 0, none⟩) L.length capr] 28)).heap[w1.heap.size]? = some (.cells #[.int .i64 400, .slice (some ⟨gr, 0, none⟩) L.length capr] 28 (0, 0))) := Lib.hid (by have q := heap_alloc_new w1 (.cells #[.int .i64 400, .slice (some ⟨gr, 0, none⟩) L.length capr] 28); exact q)
  have HF13 := Lib.hid (HF1.out.keep HB11.out)
  have HL14 : Hid (w.heap.size ≤ w1.heap.size) := Lib.hid HF1.out.kp.size
  clear HF1 HB11
  go_wp2_with fail
  generalize (w1.alloc (.cells #[.int .i64 400, .slice (some ⟨gr, 0, none⟩) L.length capr] 28)) = W15 at *
  generalize w1.heap.size = p16 at *
  go_at_call 9
  refine (HBG.out _ _ _ HF13.out.st).mono ?_
  rintro e w2 ⟨g2, cap2, rfl, hA, hg, hk⟩
  have HX17 := Lib.hid (HF13.out.st.ar.boxKept hk HX12.out (by decide) (by decide))
  have HF18 := Lib.hid (HF13.out.step hA hg hk)
  clear HX12 HF13 hA hg hk HBG
  have HB19 : Hid (Below w2.heap.size w2 (w2.alloc (.cells #[.int .i64 ck0, .int .i64 r0, .int .i64 0, .bool false, .int .u64 0] 35))) := Lib.hid ((Below.refl _ _).alloc (Nat.le_refl _) _)
  have HX20 := Lib.hid (below_box HB19.out HX17.out)
  have HX21 : Hid ((w2.alloc (.cells #[.int .i64 ck0, .int .i64 r0, .int .i64 0, .bool false, .int .u64 0] 35)).heap[w2.heap.size]? = some (.cells #[.int .i64 ck0, .int .i64 r0, .int .i64 0, .bool false, .int .u64 0] 35 (0, 0))) := Lib.hid (by have q := heap_alloc_new w2 (.cells #[.int .i64 ck0, .int .i64 r0, .int .i64 0, .bool false, .int .u64 0] 35); exact q)
  have HF22 := Lib.hid (HF18.out.keep HB19.out)
  have HL23 : Hid (w.heap.size ≤ w2.heap.size) := Lib.hid HF18.out.kp.size
  clear HX17 HF18 HB19
  go_wp2_with fail
  generalize (w2.alloc (.cells #[.int .i64 ck0, .int .i64 r0, .int .i64 0, .bool false, .int .u64 0] 35)) = W25 at *
  generalize w2.heap.size = p26 at *
  go_loopg [11, 12, 13, 14, 15, 16, 17, 18, 19, 49] os.length (fun q _ _ _ _ _ _ _ _ _ u49 wr => ∃ k : Nat, k + q = os.length ∧ u49 = .int .i64 k ∧ ∃ g' cap' M S, Fs w w wr b g g' bm cap' 400 M ∧ M.length ≤ 46 + 4 * k ∧ Gd M S ∧ S.c.n ≤ k ∧ wr.heap[p26]? = some (.cells #[.int .i64 S.ck, .int .i64 S.h, .int .i64 S.c.k, .bool S.c.h, .int .u64 S.c.n] 35 (0, 0)))
  case atStart => exact ⟨0, by omega, rfl, _, _, M0, ⟨ck0, r0, cZ⟩, HF22.out, by have := HL1.out; omega, HG1.out, by simp [cZ], HX21.out⟩
  case round =>
    obtain ⟨k, hkq, rfl, g1, cap1, M, S, hF, hlen, hD, hnk, hXs⟩ := hrel
    have HFr := Lib.hid hF
    have HXs := Lib.hid hXs
    have HDf := Lib.hid hD
    have HLn := Lib.hid (And.intro hlen hnk)
    clear hF hXs hD hlen hnk HG1
    by_cases hlt : k < os.length
    · have hlt' : (k : Int) < os.length := by omega
      obtain ⟨og, oo, rfl, hoa⟩ := HOS.out.at_ HFr.out.st.bel (by omega)
      obtain ⟨hk0, hk1⟩ := hoa k hlt
      clear hoa
      generalize (os.getD k zOp).k = kk at *
      generalize (os.getD k zOp).x = xx at *
      by_cases hneg : kk < 0
      · have HB301 : Hid (Below wr.heap.size wr (wr.alloc (.cells #[.int .i64 kk, .int .i64 xx] 40))) := Lib.hid ((Below.refl _ _).alloc (Nat.le_refl _) _)
        have HX302 := Lib.hid (below_box HB301.out HXs.out)
        have HX303 : Hid ((wr.alloc (.cells #[.int .i64 kk, .int .i64 xx] 40)).heap[wr.heap.size]? = some (.cells #[.int .i64 kk, .int .i64 xx] 40 (0, 0))) := Lib.hid (by have q := heap_alloc_new wr (.cells #[.int .i64 kk, .int .i64 xx] 40); exact q)
        have HF304 := Lib.hid (HFr.out.keep HB301.out)
        have HL305 : Hid (w.heap.size ≤ wr.heap.size) := Lib.hid HFr.out.kp.size
        clear HXs HFr HB301
        go_wp2_with fail
        generalize (wr.alloc (.cells #[.int .i64 kk, .int .i64 xx] 40)) = W307 at *
        generalize wr.heap.size = p308 at *
        go_roundg (os.length - (k + 1))
        case rel => exact ⟨k + 1, by omega, by go_num, _, _, _, _, HF304.out, by have := HLn.out.1; omega, HDf.out, by have := HLn.out.2; omega, HX302.out⟩
        case measure => omega
      · by_cases hbig : 3 < kk
        · have HB301 : Hid (Below wr.heap.size wr (wr.alloc (.cells #[.int .i64 kk, .int .i64 xx] 40))) := Lib.hid ((Below.refl _ _).alloc (Nat.le_refl _) _)
          have HX302 := Lib.hid (below_box HB301.out HXs.out)
          have HX303 : Hid ((wr.alloc (.cells #[.int .i64 kk, .int .i64 xx] 40)).heap[wr.heap.size]? = some (.cells #[.int .i64 kk, .int .i64 xx] 40 (0, 0))) := Lib.hid (by have q := heap_alloc_new wr (.cells #[.int .i64 kk, .int .i64 xx] 40); exact q)
          have HF304 := Lib.hid (HFr.out.keep HB301.out)
          have HL305 : Hid (w.heap.size ≤ wr.heap.size) := Lib.hid HFr.out.kp.size
          clear HXs HFr HB301
          go_wp2_with fail
          generalize (wr.alloc (.cells #[.int .i64 kk, .int .i64 xx] 40)) = W307 at *
          generalize wr.heap.size = p308 at *
          go_roundg (os.length - (k + 1))
          case rel => exact ⟨k + 1, by omega, by go_num, _, _, _, _, HF304.out, by have := HLn.out.1; omega, HDf.out, by have := HLn.out.2; omega, HX302.out⟩
          case measure => omega
        · have HB301 : Hid (Below wr.heap.size wr ((wr.alloc (.cells #[.int .i64 kk, .int .i64 xx] 40)).alloc (.cells #[.int .i64 xx] 3))) := Lib.hid (((Below.refl _ _).alloc (Nat.le_refl _) _).alloc (by simp) _)
          have HX302 := Lib.hid (below_box HB301.out HXs.out)
          have HX303 : Hid (((wr.alloc (.cells #[.int .i64 kk, .int .i64 xx] 40)).alloc (.cells #[.int .i64 xx] 3)).heap[wr.heap.size]? = some (.cells #[.int .i64 kk, .int .i64 xx] 40 (0, 0))) := Lib.hid (by rw [Below.heap_alloc _ _ _ (by simp <;> omega)]; have q := heap_alloc_new wr (.cells #[.int .i64 kk, .int .i64 xx] 40); exact q)
          have HX304 : Hid (((wr.alloc (.cells #[.int .i64 kk, .int .i64 xx] 40)).alloc (.cells #[.int .i64 xx] 3)).heap[wr.heap.size + 1]? = some (.cells #[.int .i64 xx] 3 (0, 0))) := Lib.hid (by have q := heap_alloc_new (wr.alloc (.cells #[.int .i64 kk, .int .i64 xx] 40)) (.cells #[.int .i64 xx] 3); rwa [World.size_alloc] at q)
          have HF305 := Lib.hid (HFr.out.keep HB301.out)
          have HL306 : Hid (w.heap.size ≤ wr.heap.size) := Lib.hid HFr.out.kp.size
          clear HXs HFr HB301
          go_wp2_with fail
          generalize ((wr.alloc (.cells #[.int .i64 kk, .int .i64 xx] 40)).alloc (.cells #[.int .i64 xx] 3)) = W309 at *
          generalize wr.heap.size = p310 at *
          have cv0 : W309.cell? ⟨p310 + 1, 0, none⟩ = some (.int .i64 xx) := (cell_of_row _ _ 0 _ _ _ HX304.out).trans rfl
          have lv := lt_of_heap HX304.out
          have fv : ∀ j, W309.frozen? ⟨p310 + 1, j, none⟩ = false := fun j => frozen_of_row _ _ _ _ _ HX304.out
          go_at_call 10
          refine (has1_any b _ M.length _ _ _ xx _ HF305.out.st.ar.c0 cv0).mono ?_
          rintro e w5 ⟨rfl, rfl⟩
          clear cv0 lv fv
          cases hb : hasB M.length xx
          · go_wp2_with fail
            go_roundg (os.length - (k + 1))
            case rel => exact ⟨k + 1, by omega, by go_num, _, _, _, _, HF305.out, by have := HLn.out.1; omega, HDf.out, by have := HLn.out.2; omega, HX302.out⟩
            case measure => omega
          · have hle := HF305.out.st.ar.len
            have hxo : i64ok xx := ref_i64 (n := M.length) (by omega) hb
            have hwf := HF305.out.st.ar.wf
            rcases (show kk = 0 ∨ kk = 1 ∨ kk = 2 ∨ kk = 3 by omega) with rfl | rfl | rfl | rfl
            · have hso := HDf.out
              obtain ⟨e1, W1, G1, r, hs2, -, -⟩ := mh_go (lim := 400) (x := xx) hwf (by decide) (by have := HLn.out.1; have := HM.out; omega) hso hb
              have HN2 : Hid ((mhS 400 M S xx).c.n ≤ ↑(k + 1)) := Lib.hid (by rw [hs2]; have := HLn.out.2; simp; try omega)
              have HC1 := Lib.hid (fun wi g2 cap2 (h : St w wi b g2 bm cap2 400 M) => h.mixHash HSH.out S xx (hso.okh (by omega)) hxo)
              rw [e1] at HC1
              unfold syV at HC1
              have HD2 := Lib.hid G1
              have HL2 : Hid ((mhL 400 M S xx).length ≤ 46 + 4 * (k + 1)) := Lib.hid (by have := HLn.out.1; have := W1.le; omega)
              clear e1 W1 G1 hxo hso hb hwf hle hs2
              generalize mhS 400 M S xx = S2 at *
              generalize mhL 400 M S xx = M2 at *
              have HB311 : Hid (Below W309.heap.size W309 (W309.alloc (.cells #[.int .i64 0, .int .i64 0, .int .i64 0, .bool false, .int .u64 0] 35))) := Lib.hid ((Below.refl _ _).alloc (Nat.le_refl _) _)
              have cs0 : W309.cell? ⟨p26, 0, none⟩ = some (.int .i64 S.ck) := (cell_of_row _ _ 0 _ _ _ HX302.out).trans rfl
              have cs1 : W309.cell? ⟨p26, 1, none⟩ = some (.int .i64 S.h) := (cell_of_row _ _ 1 _ _ _ HX302.out).trans rfl
              have cs2 : W309.cell? ⟨p26, 2, none⟩ = some (.int .i64 S.c.k) := (cell_of_row _ _ 2 _ _ _ HX302.out).trans rfl
              have cs3 : W309.cell? ⟨p26, 3, none⟩ = some (.bool S.c.h) := (cell_of_row _ _ 3 _ _ _ HX302.out).trans rfl
              have cs4 : W309.cell? ⟨p26, 4, none⟩ = some (.int .u64 S.c.n) := (cell_of_row _ _ 4 _ _ _ HX302.out).trans rfl
              have ls := lt_of_heap HX302.out
              have fs : ∀ j, W309.frozen? ⟨p26, j, none⟩ = false := fun j => frozen_of_row _ _ _ _ _ HX302.out
              have co0 : W309.cell? ⟨p310, 0, none⟩ = some (.int .i64 0) := (cell_of_row _ _ 0 _ _ _ HX303.out).trans rfl
              have co1 : W309.cell? ⟨p310, 1, none⟩ = some (.int .i64 xx) := (cell_of_row _ _ 1 _ _ _ HX303.out).trans rfl
              have lo := lt_of_heap HX303.out
              have fo : ∀ j, W309.frozen? ⟨p310, j, none⟩ = false := fun j => frozen_of_row _ _ _ _ _ HX303.out
              have HD312 : Hid (p26 ≠ W309.heap.size) := Lib.hid (by have := lt_of_heap HX302.out; omega)
              have HX313 := Lib.hid (below_box HB311.out HX302.out)
              have HX314 := Lib.hid (below_box HB311.out HX303.out)
              have HX315 : Hid ((W309.alloc (.cells #[.int .i64 0, .int .i64 0, .int .i64 0, .bool false, .int .u64 0] 35)).heap[W309.heap.size]? = some (.cells #[.int .i64 0, .int .i64 0, .int .i64 0, .bool false, .int .u64 0] 35 (0, 0))) := Lib.hid (by have q := heap_alloc_new W309 (.cells #[.int .i64 0, .int .i64 0, .int .i64 0, .bool false, .int .u64 0] 35); exact q)
              have HF316 := Lib.hid (HF305.out.keep HB311.out)
              have HL317 : Hid (w.heap.size ≤ W309.heap.size) := Lib.hid HF305.out.kp.size
              clear HX302 HX303 HF305 HB311
              go_wp2_with fail
              clear cs0 cs1 cs2 cs3 cs4 ls fs co0 co1 lo fo
              generalize (W309.alloc (.cells #[.int .i64 0, .int .i64 0, .int .i64 0, .bool false, .int .u64 0] 35)) = W320 at *
              generalize W309.heap.size = p321 at *
              go_at_call 11
              refine (HC1.out _ _ _ HF316.out.st).mono ?_
              rintro e w6 ⟨g6, cap6, rfl, hA, hg, hk⟩
              have HX322 := Lib.hid (HF316.out.st.ar.boxKept hk HX313.out (by decide) (by decide))
              have HX323 := Lib.hid (HF316.out.st.ar.boxKept hk HX314.out (by decide) (by decide))
              have HX324 := Lib.hid (HF316.out.st.ar.boxKept hk HX315.out (by decide) (by decide))
              have HF325 := Lib.hid (HF316.out.step hA hg hk)
              clear HX313 HX314 HX315 HF316 hA hg hk HC1
              have cs0 : w6.cell? ⟨p26, 0, none⟩ = some (.int .i64 S.ck) := (cell_of_row _ _ 0 _ _ _ HX322.out).trans rfl
              have cs1 : w6.cell? ⟨p26, 1, none⟩ = some (.int .i64 S.h) := (cell_of_row _ _ 1 _ _ _ HX322.out).trans rfl
              have cs2 : w6.cell? ⟨p26, 2, none⟩ = some (.int .i64 S.c.k) := (cell_of_row _ _ 2 _ _ _ HX322.out).trans rfl
              have cs3 : w6.cell? ⟨p26, 3, none⟩ = some (.bool S.c.h) := (cell_of_row _ _ 3 _ _ _ HX322.out).trans rfl
              have cs4 : w6.cell? ⟨p26, 4, none⟩ = some (.int .u64 S.c.n) := (cell_of_row _ _ 4 _ _ _ HX322.out).trans rfl
              have ls := lt_of_heap HX322.out
              have fs : ∀ j, w6.frozen? ⟨p26, j, none⟩ = false := fun j => frozen_of_row _ _ _ _ _ HX322.out
              have ct0 : w6.cell? ⟨p321, 0, none⟩ = some (.int .i64 0) := (cell_of_row _ _ 0 _ _ _ HX324.out).trans rfl
              have ct1 : w6.cell? ⟨p321, 1, none⟩ = some (.int .i64 0) := (cell_of_row _ _ 1 _ _ _ HX324.out).trans rfl
              have ct2 : w6.cell? ⟨p321, 2, none⟩ = some (.int .i64 0) := (cell_of_row _ _ 2 _ _ _ HX324.out).trans rfl
              have ct3 : w6.cell? ⟨p321, 3, none⟩ = some (.bool false) := (cell_of_row _ _ 3 _ _ _ HX324.out).trans rfl
              have ct4 : w6.cell? ⟨p321, 4, none⟩ = some (.int .u64 0) := (cell_of_row _ _ 4 _ _ _ HX324.out).trans rfl
              have lt := lt_of_heap HX324.out
              have ft : ∀ j, w6.frozen? ⟨p321, j, none⟩ = false := fun j => frozen_of_row _ _ _ _ _ HX324.out
              have hne326 : p26 ≠ p321 := HD312.out
              have hne327 : p310 ≠ p321 := box_ne HX323.out HX324.out (by decide)
              have hf := HF325.out.farp HX324.out (by decide) (by decide)
              have HX328 := Lib.hid (set5_far hne326 HX322.out (.int .i64 S2.ck) (.int .i64 S2.h) (.int .i64 S2.c.k) (.bool S2.c.h) (.int .u64 S2.c.n))
              have HX329 := Lib.hid (set5_far hne327 HX323.out (.int .i64 S2.ck) (.int .i64 S2.h) (.int .i64 S2.c.k) (.bool S2.c.h) (.int .u64 S2.c.n))
              have HX330 := Lib.hid (set5_box HX324.out (.int .i64 S2.ck) (.int .i64 S2.h) (.int .i64 S2.c.k) (.bool S2.c.h) (.int .u64 S2.c.n))
              have HF331 := Lib.hid ((((((HF325.out.setp (j := 0) hf (by have := HL317.out; omega) (.int .i64 S2.ck)).setp (j := 1) hf (by have := HL317.out; omega) (.int .i64 S2.h)).setp (j := 2) hf (by have := HL317.out; omega) (.int .i64 S2.c.k)).setp (j := 3) hf (by have := HL317.out; omega) (.bool S2.c.h)).setp (j := 4) hf (by have := HL317.out; omega) (.int .u64 S2.c.n)))
              clear hf HX322 HX323 HX324 HF325
              skip
              have hne332 : p310 ≠ p26 := box_ne HX329.out HX328.out (by decide)
              have hne333 : p321 ≠ p26 := (Ne.symm HD312.out)
              have hf := HF331.out.farp HX328.out (by decide) (by decide)
              have HX334 := Lib.hid (set5_box HX328.out (.int .i64 S2.ck) (.int .i64 S2.h) (.int .i64 S2.c.k) (.bool S2.c.h) (.int .u64 S2.c.n))
              have HX335 := Lib.hid (set5_far hne332 HX329.out (.int .i64 S2.ck) (.int .i64 S2.h) (.int .i64 S2.c.k) (.bool S2.c.h) (.int .u64 S2.c.n))
              have HX336 := Lib.hid (set5_far hne333 HX330.out (.int .i64 S2.ck) (.int .i64 S2.h) (.int .i64 S2.c.k) (.bool S2.c.h) (.int .u64 S2.c.n))
              have HF337 := Lib.hid ((((((HF331.out.setp (j := 0) hf (by have := HL23.out; omega) (.int .i64 S2.ck)).setp (j := 1) hf (by have := HL23.out; omega) (.int .i64 S2.h)).setp (j := 2) hf (by have := HL23.out; omega) (.int .i64 S2.c.k)).setp (j := 3) hf (by have := HL23.out; omega) (.bool S2.c.h)).setp (j := 4) hf (by have := HL23.out; omega) (.int .u64 S2.c.n)))
              clear hf HX328 HX329 HX330 HF331
              go_wp2_with fail
              clear cs0 cs1 cs2 cs3 cs4 ls fs ct0 ct1 ct2 ct3 ct4 lt ft
              clear hne332 hne333
              go_roundg (os.length - (k + 1))
              case rel => exact ⟨k + 1, by omega, by go_num, _, _, _, _, HF337.out, HL2.out, HD2.out, HN2.out, HX334.out⟩
              case measure => omega
            · have hso := HDf.out
              obtain ⟨e1, W1, G1, r0', r1', hs2, -, -, -⟩ := mx_go (lim := 400) (x := xx) hwf (by decide) (by have := HLn.out.1; have := HM.out; omega) hso hb
              have HN2 : Hid ((mxS 400 M S xx).c.n ≤ ↑(k + 1)) := Lib.hid (by rw [hs2]; have := HLn.out.2; simp; try omega)
              have HC1 := Lib.hid (fun wi g2 cap2 (h : St w wi b g2 bm cap2 400 M) => mixKey_any w b g2 bm cap2 400 M S xx wi h HSH.out (hso.okc (by omega)) hxo)
              rw [e1] at HC1
              unfold syV at HC1
              have HD2 := Lib.hid G1
              have HL2 : Hid ((yL 400 M S.ck xx 2).length ≤ 46 + 4 * (k + 1)) := Lib.hid (by have := HLn.out.1; have := W1.le; omega)
              clear e1 W1 G1 hxo hso hb hwf hle hs2
              generalize mxS 400 M S xx = S2 at *
              generalize yL 400 M S.ck xx 2 = M2 at *
              have HB311 : Hid (Below W309.heap.size W309 (W309.alloc (.cells #[.int .i64 0, .int .i64 0, .int .i64 0, .bool false, .int .u64 0] 35))) := Lib.hid ((Below.refl _ _).alloc (Nat.le_refl _) _)
              have cs0 : W309.cell? ⟨p26, 0, none⟩ = some (.int .i64 S.ck) := (cell_of_row _ _ 0 _ _ _ HX302.out).trans rfl
              have cs1 : W309.cell? ⟨p26, 1, none⟩ = some (.int .i64 S.h) := (cell_of_row _ _ 1 _ _ _ HX302.out).trans rfl
              have cs2 : W309.cell? ⟨p26, 2, none⟩ = some (.int .i64 S.c.k) := (cell_of_row _ _ 2 _ _ _ HX302.out).trans rfl
              have cs3 : W309.cell? ⟨p26, 3, none⟩ = some (.bool S.c.h) := (cell_of_row _ _ 3 _ _ _ HX302.out).trans rfl
              have cs4 : W309.cell? ⟨p26, 4, none⟩ = some (.int .u64 S.c.n) := (cell_of_row _ _ 4 _ _ _ HX302.out).trans rfl
              have ls := lt_of_heap HX302.out
              have fs : ∀ j, W309.frozen? ⟨p26, j, none⟩ = false := fun j => frozen_of_row _ _ _ _ _ HX302.out
              have co0 : W309.cell? ⟨p310, 0, none⟩ = some (.int .i64 1) := (cell_of_row _ _ 0 _ _ _ HX303.out).trans rfl
              have co1 : W309.cell? ⟨p310, 1, none⟩ = some (.int .i64 xx) := (cell_of_row _ _ 1 _ _ _ HX303.out).trans rfl
              have lo := lt_of_heap HX303.out
              have fo : ∀ j, W309.frozen? ⟨p310, j, none⟩ = false := fun j => frozen_of_row _ _ _ _ _ HX303.out
              have HD312 : Hid (p26 ≠ W309.heap.size) := Lib.hid (by have := lt_of_heap HX302.out; omega)
              have HX313 := Lib.hid (below_box HB311.out HX302.out)
              have HX314 := Lib.hid (below_box HB311.out HX303.out)
              have HX315 : Hid ((W309.alloc (.cells #[.int .i64 0, .int .i64 0, .int .i64 0, .bool false, .int .u64 0] 35)).heap[W309.heap.size]? = some (.cells #[.int .i64 0, .int .i64 0, .int .i64 0, .bool false, .int .u64 0] 35 (0, 0))) := Lib.hid (by have q := heap_alloc_new W309 (.cells #[.int .i64 0, .int .i64 0, .int .i64 0, .bool false, .int .u64 0] 35); exact q)
              have HF316 := Lib.hid (HF305.out.keep HB311.out)
              have HL317 : Hid (w.heap.size ≤ W309.heap.size) := Lib.hid HF305.out.kp.size
              clear HX302 HX303 HF305 HB311
              go_wp2_with fail
              clear cs0 cs1 cs2 cs3 cs4 ls fs co0 co1 lo fo
              generalize (W309.alloc (.cells #[.int .i64 0, .int .i64 0, .int .i64 0, .bool false, .int .u64 0] 35)) = W320 at *
              generalize W309.heap.size = p321 at *
              go_at_call 12
              refine (HC1.out _ _ _ HF316.out.st).mono ?_
              rintro e w6 ⟨g6, cap6, rfl, hA, hg, hk⟩
              have HX322 := Lib.hid (HF316.out.st.ar.boxKept hk HX313.out (by decide) (by decide))
              have HX323 := Lib.hid (HF316.out.st.ar.boxKept hk HX314.out (by decide) (by decide))
              have HX324 := Lib.hid (HF316.out.st.ar.boxKept hk HX315.out (by decide) (by decide))
              have HF325 := Lib.hid (HF316.out.step hA hg hk)
              clear HX313 HX314 HX315 HF316 hA hg hk HC1
              have cs0 : w6.cell? ⟨p26, 0, none⟩ = some (.int .i64 S.ck) := (cell_of_row _ _ 0 _ _ _ HX322.out).trans rfl
              have cs1 : w6.cell? ⟨p26, 1, none⟩ = some (.int .i64 S.h) := (cell_of_row _ _ 1 _ _ _ HX322.out).trans rfl
              have cs2 : w6.cell? ⟨p26, 2, none⟩ = some (.int .i64 S.c.k) := (cell_of_row _ _ 2 _ _ _ HX322.out).trans rfl
              have cs3 : w6.cell? ⟨p26, 3, none⟩ = some (.bool S.c.h) := (cell_of_row _ _ 3 _ _ _ HX322.out).trans rfl
              have cs4 : w6.cell? ⟨p26, 4, none⟩ = some (.int .u64 S.c.n) := (cell_of_row _ _ 4 _ _ _ HX322.out).trans rfl
              have ls := lt_of_heap HX322.out
              have fs : ∀ j, w6.frozen? ⟨p26, j, none⟩ = false := fun j => frozen_of_row _ _ _ _ _ HX322.out
              have ct0 : w6.cell? ⟨p321, 0, none⟩ = some (.int .i64 0) := (cell_of_row _ _ 0 _ _ _ HX324.out).trans rfl
              have ct1 : w6.cell? ⟨p321, 1, none⟩ = some (.int .i64 0) := (cell_of_row _ _ 1 _ _ _ HX324.out).trans rfl
              have ct2 : w6.cell? ⟨p321, 2, none⟩ = some (.int .i64 0) := (cell_of_row _ _ 2 _ _ _ HX324.out).trans rfl
              have ct3 : w6.cell? ⟨p321, 3, none⟩ = some (.bool false) := (cell_of_row _ _ 3 _ _ _ HX324.out).trans rfl
              have ct4 : w6.cell? ⟨p321, 4, none⟩ = some (.int .u64 0) := (cell_of_row _ _ 4 _ _ _ HX324.out).trans rfl
              have lt := lt_of_heap HX324.out
              have ft : ∀ j, w6.frozen? ⟨p321, j, none⟩ = false := fun j => frozen_of_row _ _ _ _ _ HX324.out
              have hne326 : p26 ≠ p321 := HD312.out
              have hne327 : p310 ≠ p321 := box_ne HX323.out HX324.out (by decide)
              have hf := HF325.out.farp HX324.out (by decide) (by decide)
              have HX328 := Lib.hid (set5_far hne326 HX322.out (.int .i64 S2.ck) (.int .i64 S2.h) (.int .i64 S2.c.k) (.bool S2.c.h) (.int .u64 S2.c.n))
              have HX329 := Lib.hid (set5_far hne327 HX323.out (.int .i64 S2.ck) (.int .i64 S2.h) (.int .i64 S2.c.k) (.bool S2.c.h) (.int .u64 S2.c.n))
              have HX330 := Lib.hid (set5_box HX324.out (.int .i64 S2.ck) (.int .i64 S2.h) (.int .i64 S2.c.k) (.bool S2.c.h) (.int .u64 S2.c.n))
              have HF331 := Lib.hid ((((((HF325.out.setp (j := 0) hf (by have := HL317.out; omega) (.int .i64 S2.ck)).setp (j := 1) hf (by have := HL317.out; omega) (.int .i64 S2.h)).setp (j := 2) hf (by have := HL317.out; omega) (.int .i64 S2.c.k)).setp (j := 3) hf (by have := HL317.out; omega) (.bool S2.c.h)).setp (j := 4) hf (by have := HL317.out; omega) (.int .u64 S2.c.n)))
              clear hf HX322 HX323 HX324 HF325
              skip
              have hne332 : p310 ≠ p26 := box_ne HX329.out HX328.out (by decide)
              have hne333 : p321 ≠ p26 := (Ne.symm HD312.out)
              have hf := HF331.out.farp HX328.out (by decide) (by decide)
              have HX334 := Lib.hid (set5_box HX328.out (.int .i64 S2.ck) (.int .i64 S2.h) (.int .i64 S2.c.k) (.bool S2.c.h) (.int .u64 S2.c.n))
              have HX335 := Lib.hid (set5_far hne332 HX329.out (.int .i64 S2.ck) (.int .i64 S2.h) (.int .i64 S2.c.k) (.bool S2.c.h) (.int .u64 S2.c.n))
              have HX336 := Lib.hid (set5_far hne333 HX330.out (.int .i64 S2.ck) (.int .i64 S2.h) (.int .i64 S2.c.k) (.bool S2.c.h) (.int .u64 S2.c.n))
              have HF337 := Lib.hid ((((((HF331.out.setp (j := 0) hf (by have := HL23.out; omega) (.int .i64 S2.ck)).setp (j := 1) hf (by have := HL23.out; omega) (.int .i64 S2.h)).setp (j := 2) hf (by have := HL23.out; omega) (.int .i64 S2.c.k)).setp (j := 3) hf (by have := HL23.out; omega) (.bool S2.c.h)).setp (j := 4) hf (by have := HL23.out; omega) (.int .u64 S2.c.n)))
              clear hf HX328 HX329 HX330 HF331
              go_wp2_with fail
              clear cs0 cs1 cs2 cs3 cs4 ls fs ct0 ct1 ct2 ct3 ct4 lt ft
              clear hne332 hne333
              go_roundg (os.length - (k + 1))
              case rel => exact ⟨k + 1, by omega, by go_num, _, _, _, _, HF337.out, HL2.out, HD2.out, HN2.out, HX334.out⟩
              case measure => omega
            · have hso := HDf.out
              obtain ⟨e1, W1, G1, r0', r1', r2', r', hs2, -, -, -, -⟩ := mb_go (lim := 400) (x := xx) hwf (by decide) (by have := HLn.out.1; have := HM.out; omega) hso hb
              have HN2 : Hid ((mbS 400 M S xx).c.n ≤ ↑(k + 1)) := Lib.hid (by rw [hs2]; have := HLn.out.2; simp; try omega)
              have HC1 := Lib.hid (fun wi g2 cap2 (h : St w wi b g2 bm cap2 400 M) => mixBoth_any w b g2 bm cap2 400 M S xx wi h HSH.out ⟨hso.okc (by omega), hso.okh (by omega), hso.ko, hso.n⟩ hxo)
              rw [e1] at HC1
              unfold syV at HC1
              have HD2 := Lib.hid G1
              have HL2 : Hid ((mbL 400 M S xx).length ≤ 46 + 4 * (k + 1)) := Lib.hid (by have := HLn.out.1; have := W1.le; omega)
              clear e1 W1 G1 hxo hso hb hwf hle hs2
              generalize mbS 400 M S xx = S2 at *
              generalize mbL 400 M S xx = M2 at *
              have HB311 : Hid (Below W309.heap.size W309 (W309.alloc (.cells #[.int .i64 0, .int .i64 0, .int .i64 0, .bool false, .int .u64 0] 35))) := Lib.hid ((Below.refl _ _).alloc (Nat.le_refl _) _)
              have cs0 : W309.cell? ⟨p26, 0, none⟩ = some (.int .i64 S.ck) := (cell_of_row _ _ 0 _ _ _ HX302.out).trans rfl
              have cs1 : W309.cell? ⟨p26, 1, none⟩ = some (.int .i64 S.h) := (cell_of_row _ _ 1 _ _ _ HX302.out).trans rfl
              have cs2 : W309.cell? ⟨p26, 2, none⟩ = some (.int .i64 S.c.k) := (cell_of_row _ _ 2 _ _ _ HX302.out).trans rfl
              have cs3 : W309.cell? ⟨p26, 3, none⟩ = some (.bool S.c.h) := (cell_of_row _ _ 3 _ _ _ HX302.out).trans rfl
              have cs4 : W309.cell? ⟨p26, 4, none⟩ = some (.int .u64 S.c.n) := (cell_of_row _ _ 4 _ _ _ HX302.out).trans rfl
              have ls := lt_of_heap HX302.out
              have fs : ∀ j, W309.frozen? ⟨p26, j, none⟩ = false := fun j => frozen_of_row _ _ _ _ _ HX302.out
              have co0 : W309.cell? ⟨p310, 0, none⟩ = some (.int .i64 2) := (cell_of_row _ _ 0 _ _ _ HX303.out).trans rfl
              have co1 : W309.cell? ⟨p310, 1, none⟩ = some (.int .i64 xx) := (cell_of_row _ _ 1 _ _ _ HX303.out).trans rfl
              have lo := lt_of_heap HX303.out
              have fo : ∀ j, W309.frozen? ⟨p310, j, none⟩ = false := fun j => frozen_of_row _ _ _ _ _ HX303.out
              have HD312 : Hid (p26 ≠ W309.heap.size) := Lib.hid (by have := lt_of_heap HX302.out; omega)
              have HX313 := Lib.hid (below_box HB311.out HX302.out)
              have HX314 := Lib.hid (below_box HB311.out HX303.out)
              have HX315 : Hid ((W309.alloc (.cells #[.int .i64 0, .int .i64 0, .int .i64 0, .bool false, .int .u64 0] 35)).heap[W309.heap.size]? = some (.cells #[.int .i64 0, .int .i64 0, .int .i64 0, .bool false, .int .u64 0] 35 (0, 0))) := Lib.hid (by have q := heap_alloc_new W309 (.cells #[.int .i64 0, .int .i64 0, .int .i64 0, .bool false, .int .u64 0] 35); exact q)
              have HF316 := Lib.hid (HF305.out.keep HB311.out)
              have HL317 : Hid (w.heap.size ≤ W309.heap.size) := Lib.hid HF305.out.kp.size
              clear HX302 HX303 HF305 HB311
              go_wp2_with fail
              clear cs0 cs1 cs2 cs3 cs4 ls fs co0 co1 lo fo
              generalize (W309.alloc (.cells #[.int .i64 0, .int .i64 0, .int .i64 0, .bool false, .int .u64 0] 35)) = W320 at *
              generalize W309.heap.size = p321 at *
              go_at_call 13
              refine (HC1.out _ _ _ HF316.out.st).mono ?_
              rintro e w6 ⟨g6, cap6, rfl, hA, hg, hk⟩
              have HX322 := Lib.hid (HF316.out.st.ar.boxKept hk HX313.out (by decide) (by decide))
              have HX323 := Lib.hid (HF316.out.st.ar.boxKept hk HX314.out (by decide) (by decide))
              have HX324 := Lib.hid (HF316.out.st.ar.boxKept hk HX315.out (by decide) (by decide))
              have HF325 := Lib.hid (HF316.out.step hA hg hk)
              clear HX313 HX314 HX315 HF316 hA hg hk HC1
              have cs0 : w6.cell? ⟨p26, 0, none⟩ = some (.int .i64 S.ck) := (cell_of_row _ _ 0 _ _ _ HX322.out).trans rfl
              have cs1 : w6.cell? ⟨p26, 1, none⟩ = some (.int .i64 S.h) := (cell_of_row _ _ 1 _ _ _ HX322.out).trans rfl
              have cs2 : w6.cell? ⟨p26, 2, none⟩ = some (.int .i64 S.c.k) := (cell_of_row _ _ 2 _ _ _ HX322.out).trans rfl
              have cs3 : w6.cell? ⟨p26, 3, none⟩ = some (.bool S.c.h) := (cell_of_row _ _ 3 _ _ _ HX322.out).trans rfl
              have cs4 : w6.cell? ⟨p26, 4, none⟩ = some (.int .u64 S.c.n) := (cell_of_row _ _ 4 _ _ _ HX322.out).trans rfl
              have ls := lt_of_heap HX322.out
              have fs : ∀ j, w6.frozen? ⟨p26, j, none⟩ = false := fun j => frozen_of_row _ _ _ _ _ HX322.out
              have ct0 : w6.cell? ⟨p321, 0, none⟩ = some (.int .i64 0) := (cell_of_row _ _ 0 _ _ _ HX324.out).trans rfl
              have ct1 : w6.cell? ⟨p321, 1, none⟩ = some (.int .i64 0) := (cell_of_row _ _ 1 _ _ _ HX324.out).trans rfl
              have ct2 : w6.cell? ⟨p321, 2, none⟩ = some (.int .i64 0) := (cell_of_row _ _ 2 _ _ _ HX324.out).trans rfl
              have ct3 : w6.cell? ⟨p321, 3, none⟩ = some (.bool false) := (cell_of_row _ _ 3 _ _ _ HX324.out).trans rfl
              have ct4 : w6.cell? ⟨p321, 4, none⟩ = some (.int .u64 0) := (cell_of_row _ _ 4 _ _ _ HX324.out).trans rfl
              have lt := lt_of_heap HX324.out
              have ft : ∀ j, w6.frozen? ⟨p321, j, none⟩ = false := fun j => frozen_of_row _ _ _ _ _ HX324.out
              have hne326 : p26 ≠ p321 := HD312.out
              have hne327 : p310 ≠ p321 := box_ne HX323.out HX324.out (by decide)
              have hf := HF325.out.farp HX324.out (by decide) (by decide)
              have HX328 := Lib.hid (set5_far hne326 HX322.out (.int .i64 S2.ck) (.int .i64 S2.h) (.int .i64 S2.c.k) (.bool S2.c.h) (.int .u64 S2.c.n))
              have HX329 := Lib.hid (set5_far hne327 HX323.out (.int .i64 S2.ck) (.int .i64 S2.h) (.int .i64 S2.c.k) (.bool S2.c.h) (.int .u64 S2.c.n))
              have HX330 := Lib.hid (set5_box HX324.out (.int .i64 S2.ck) (.int .i64 S2.h) (.int .i64 S2.c.k) (.bool S2.c.h) (.int .u64 S2.c.n))
              have HF331 := Lib.hid ((((((HF325.out.setp (j := 0) hf (by have := HL317.out; omega) (.int .i64 S2.ck)).setp (j := 1) hf (by have := HL317.out; omega) (.int .i64 S2.h)).setp (j := 2) hf (by have := HL317.out; omega) (.int .i64 S2.c.k)).setp (j := 3) hf (by have := HL317.out; omega) (.bool S2.c.h)).setp (j := 4) hf (by have := HL317.out; omega) (.int .u64 S2.c.n)))
              clear hf HX322 HX323 HX324 HF325
              skip
              have hne332 : p310 ≠ p26 := box_ne HX329.out HX328.out (by decide)
              have hne333 : p321 ≠ p26 := (Ne.symm HD312.out)
              have hf := HF331.out.farp HX328.out (by decide) (by decide)
              have HX334 := Lib.hid (set5_box HX328.out (.int .i64 S2.ck) (.int .i64 S2.h) (.int .i64 S2.c.k) (.bool S2.c.h) (.int .u64 S2.c.n))
              have HX335 := Lib.hid (set5_far hne332 HX329.out (.int .i64 S2.ck) (.int .i64 S2.h) (.int .i64 S2.c.k) (.bool S2.c.h) (.int .u64 S2.c.n))
              have HX336 := Lib.hid (set5_far hne333 HX330.out (.int .i64 S2.ck) (.int .i64 S2.h) (.int .i64 S2.c.k) (.bool S2.c.h) (.int .u64 S2.c.n))
              have HF337 := Lib.hid ((((((HF331.out.setp (j := 0) hf (by have := HL23.out; omega) (.int .i64 S2.ck)).setp (j := 1) hf (by have := HL23.out; omega) (.int .i64 S2.h)).setp (j := 2) hf (by have := HL23.out; omega) (.int .i64 S2.c.k)).setp (j := 3) hf (by have := HL23.out; omega) (.bool S2.c.h)).setp (j := 4) hf (by have := HL23.out; omega) (.int .u64 S2.c.n)))
              clear hf HX328 HX329 HX330 HF331
              go_wp2_with fail
              clear cs0 cs1 cs2 cs3 cs4 ls fs ct0 ct1 ct2 ct3 ct4 lt ft
              clear hne332 hne333
              go_roundg (os.length - (k + 1))
              case rel => exact ⟨k + 1, by omega, by go_num, _, _, _, _, HF337.out, HL2.out, HD2.out, HN2.out, HX334.out⟩
              case measure => omega
            · have hso := HDf.out
              obtain ⟨e1, W1, G1, hr, ⟨hn2, -⟩, o1, o2, o3, o4⟩ := se_go (lim := 400) (x := xx) hwf (by decide) (by have := HLn.out.1; have := HM.out; omega) hso (by have := HLn.out.2; have := HM.out; unfold lastU; omega) hb
              have HN2 : Hid ((seS 400 M S xx).c.n ≤ ↑(k + 1)) := Lib.hid (by have := HLn.out.2; push_cast; omega)
              have hl3 := W1.le
              have hro : i64ok (seR 400 M S xx) := ref_i64 (n := (seL 400 M S xx).length) (by have := HLn.out.1; have := HM.out; omega) hr
              have HC2 := Lib.hid (fun wi g2 cap2 (h : St w wi b g2 bm cap2 400 (seL 400 M S xx)) => open11_any w b g2 bm cap2 400 (seL 400 M S xx) S (seR 400 M S xx) wi h HSH.out ⟨hso.okc (by omega), hso.okh (by omega), hso.ko, hso.n⟩ hro)
              rw [o1, o2, o3, o4] at HC2
              unfold syV at HC2
              have HC1 := Lib.hid (fun wi g2 cap2 (h : St w wi b g2 bm cap2 400 M) => seal11_any w b g2 bm cap2 400 M S xx wi h HSH.out ⟨hso.okc (by omega), hso.okh (by omega), hso.ko, hso.n⟩ hxo)
              rw [e1] at HC1
              unfold syV at HC1
              clear hr hn2 o1 o2 o3 o4 hl3 hro
              have HD2 := Lib.hid G1
              have HL2 : Hid ((seL 400 M S xx).length ≤ 46 + 4 * (k + 1)) := Lib.hid (by have := HLn.out.1; have := W1.le; omega)
              clear e1 W1 G1 hxo hso hb hwf hle
              generalize seS 400 M S xx = S2 at *
              generalize seL 400 M S xx = M2 at *
              generalize seR 400 M S xx = rr at *
              have HB311 : Hid (Below W309.heap.size W309 (W309.alloc (.cells #[.int .i64 0, .int .i64 0, .int .i64 0, .bool false, .int .u64 0] 35))) := Lib.hid ((Below.refl _ _).alloc (Nat.le_refl _) _)
              have cs0 : W309.cell? ⟨p26, 0, none⟩ = some (.int .i64 S.ck) := (cell_of_row _ _ 0 _ _ _ HX302.out).trans rfl
              have cs1 : W309.cell? ⟨p26, 1, none⟩ = some (.int .i64 S.h) := (cell_of_row _ _ 1 _ _ _ HX302.out).trans rfl
              have cs2 : W309.cell? ⟨p26, 2, none⟩ = some (.int .i64 S.c.k) := (cell_of_row _ _ 2 _ _ _ HX302.out).trans rfl
              have cs3 : W309.cell? ⟨p26, 3, none⟩ = some (.bool S.c.h) := (cell_of_row _ _ 3 _ _ _ HX302.out).trans rfl
              have cs4 : W309.cell? ⟨p26, 4, none⟩ = some (.int .u64 S.c.n) := (cell_of_row _ _ 4 _ _ _ HX302.out).trans rfl
              have ls := lt_of_heap HX302.out
              have fs : ∀ j, W309.frozen? ⟨p26, j, none⟩ = false := fun j => frozen_of_row _ _ _ _ _ HX302.out
              have co0 : W309.cell? ⟨p310, 0, none⟩ = some (.int .i64 3) := (cell_of_row _ _ 0 _ _ _ HX303.out).trans rfl
              have co1 : W309.cell? ⟨p310, 1, none⟩ = some (.int .i64 xx) := (cell_of_row _ _ 1 _ _ _ HX303.out).trans rfl
              have lo := lt_of_heap HX303.out
              have fo : ∀ j, W309.frozen? ⟨p310, j, none⟩ = false := fun j => frozen_of_row _ _ _ _ _ HX303.out
              have HD312 : Hid (p26 ≠ W309.heap.size) := Lib.hid (by have := lt_of_heap HX302.out; omega)
              have HX313 := Lib.hid (below_box HB311.out HX302.out)
              have HX314 := Lib.hid (below_box HB311.out HX303.out)
              have HX315 : Hid ((W309.alloc (.cells #[.int .i64 0, .int .i64 0, .int .i64 0, .bool false, .int .u64 0] 35)).heap[W309.heap.size]? = some (.cells #[.int .i64 0, .int .i64 0, .int .i64 0, .bool false, .int .u64 0] 35 (0, 0))) := Lib.hid (by have q := heap_alloc_new W309 (.cells #[.int .i64 0, .int .i64 0, .int .i64 0, .bool false, .int .u64 0] 35); exact q)
              have HF316 := Lib.hid (HF305.out.keep HB311.out)
              have HL317 : Hid (w.heap.size ≤ W309.heap.size) := Lib.hid HF305.out.kp.size
              clear HX302 HX303 HF305 HB311
              go_wp2_with fail
              clear cs0 cs1 cs2 cs3 cs4 ls fs co0 co1 lo fo
              generalize (W309.alloc (.cells #[.int .i64 0, .int .i64 0, .int .i64 0, .bool false, .int .u64 0] 35)) = W320 at *
              generalize W309.heap.size = p321 at *
              go_at_call 14
              refine (HC1.out _ _ _ HF316.out.st).mono ?_
              rintro e w6 ⟨g6, cap6, rfl, hA, hg, hk⟩
              have HX322 := Lib.hid (HF316.out.st.ar.boxKept hk HX313.out (by decide) (by decide))
              have HX323 := Lib.hid (HF316.out.st.ar.boxKept hk HX314.out (by decide) (by decide))
              have HX324 := Lib.hid (HF316.out.st.ar.boxKept hk HX315.out (by decide) (by decide))
              have HF325 := Lib.hid (HF316.out.step hA hg hk)
              clear HX313 HX314 HX315 HF316 hA hg hk HC1
              have HB326 : Hid (Below w6.heap.size w6 (w6.alloc (.cells #[.int .i64 S2.ck, .int .i64 S2.h, .int .i64 S2.c.k, .bool S2.c.h, .int .u64 S2.c.n] 35))) := Lib.hid ((Below.refl _ _).alloc (Nat.le_refl _) _)
              have cs0 : w6.cell? ⟨p26, 0, none⟩ = some (.int .i64 S.ck) := (cell_of_row _ _ 0 _ _ _ HX322.out).trans rfl
              have cs1 : w6.cell? ⟨p26, 1, none⟩ = some (.int .i64 S.h) := (cell_of_row _ _ 1 _ _ _ HX322.out).trans rfl
              have cs2 : w6.cell? ⟨p26, 2, none⟩ = some (.int .i64 S.c.k) := (cell_of_row _ _ 2 _ _ _ HX322.out).trans rfl
              have cs3 : w6.cell? ⟨p26, 3, none⟩ = some (.bool S.c.h) := (cell_of_row _ _ 3 _ _ _ HX322.out).trans rfl
              have cs4 : w6.cell? ⟨p26, 4, none⟩ = some (.int .u64 S.c.n) := (cell_of_row _ _ 4 _ _ _ HX322.out).trans rfl
              have ls := lt_of_heap HX322.out
              have fs : ∀ j, w6.frozen? ⟨p26, j, none⟩ = false := fun j => frozen_of_row _ _ _ _ _ HX322.out
              have co0 : w6.cell? ⟨p310, 0, none⟩ = some (.int .i64 3) := (cell_of_row _ _ 0 _ _ _ HX323.out).trans rfl
              have co1 : w6.cell? ⟨p310, 1, none⟩ = some (.int .i64 xx) := (cell_of_row _ _ 1 _ _ _ HX323.out).trans rfl
              have lo := lt_of_heap HX323.out
              have fo : ∀ j, w6.frozen? ⟨p310, j, none⟩ = false := fun j => frozen_of_row _ _ _ _ _ HX323.out
              have HD327 : Hid (p26 ≠ w6.heap.size) := Lib.hid (by have := lt_of_heap HX322.out; omega)
              have HD328 : Hid (p321 ≠ w6.heap.size) := Lib.hid (by have := lt_of_heap HX324.out; omega)
              have HX329 := Lib.hid (below_box HB326.out HX322.out)
              have HX330 := Lib.hid (below_box HB326.out HX323.out)
              have HX331 := Lib.hid (below_box HB326.out HX324.out)
              have HX332 : Hid ((w6.alloc (.cells #[.int .i64 S2.ck, .int .i64 S2.h, .int .i64 S2.c.k, .bool S2.c.h, .int .u64 S2.c.n] 35)).heap[w6.heap.size]? = some (.cells #[.int .i64 S2.ck, .int .i64 S2.h, .int .i64 S2.c.k, .bool S2.c.h, .int .u64 S2.c.n] 35 (0, 0))) := Lib.hid (by have q := heap_alloc_new w6 (.cells #[.int .i64 S2.ck, .int .i64 S2.h, .int .i64 S2.c.k, .bool S2.c.h, .int .u64 S2.c.n] 35); exact q)
              have HF333 := Lib.hid (HF325.out.keep HB326.out)
              have HL334 : Hid (w.heap.size ≤ w6.heap.size) := Lib.hid HF325.out.kp.size
              clear HX322 HX323 HX324 HF325 HB326
              go_wp2_with fail
              clear cs0 cs1 cs2 cs3 cs4 ls fs co0 co1 lo fo
              generalize (w6.alloc (.cells #[.int .i64 S2.ck, .int .i64 S2.h, .int .i64 S2.c.k, .bool S2.c.h, .int .u64 S2.c.n] 35)) = W338 at *
              generalize w6.heap.size = p339 at *
              go_at_call 15
              refine (HC2.out _ _ _ HF333.out.st).mono ?_
              rintro e w7 ⟨g7, cap7, rfl, hA, hg, hk⟩
              have HX340 := Lib.hid (HF333.out.st.ar.boxKept hk HX329.out (by decide) (by decide))
              have HX341 := Lib.hid (HF333.out.st.ar.boxKept hk HX330.out (by decide) (by decide))
              have HX342 := Lib.hid (HF333.out.st.ar.boxKept hk HX331.out (by decide) (by decide))
              have HX343 := Lib.hid (HF333.out.st.ar.boxKept hk HX332.out (by decide) (by decide))
              have HF344 := Lib.hid (HF333.out.step hA hg hk)
              clear HX329 HX330 HX331 HX332 HF333 hA hg hk HC2
              have cs0 : w7.cell? ⟨p26, 0, none⟩ = some (.int .i64 S.ck) := (cell_of_row _ _ 0 _ _ _ HX340.out).trans rfl
              have cs1 : w7.cell? ⟨p26, 1, none⟩ = some (.int .i64 S.h) := (cell_of_row _ _ 1 _ _ _ HX340.out).trans rfl
              have cs2 : w7.cell? ⟨p26, 2, none⟩ = some (.int .i64 S.c.k) := (cell_of_row _ _ 2 _ _ _ HX340.out).trans rfl
              have cs3 : w7.cell? ⟨p26, 3, none⟩ = some (.bool S.c.h) := (cell_of_row _ _ 3 _ _ _ HX340.out).trans rfl
              have cs4 : w7.cell? ⟨p26, 4, none⟩ = some (.int .u64 S.c.n) := (cell_of_row _ _ 4 _ _ _ HX340.out).trans rfl
              have ls := lt_of_heap HX340.out
              have fs : ∀ j, w7.frozen? ⟨p26, j, none⟩ = false := fun j => frozen_of_row _ _ _ _ _ HX340.out
              have ct0 : w7.cell? ⟨p321, 0, none⟩ = some (.int .i64 0) := (cell_of_row _ _ 0 _ _ _ HX342.out).trans rfl
              have ct1 : w7.cell? ⟨p321, 1, none⟩ = some (.int .i64 0) := (cell_of_row _ _ 1 _ _ _ HX342.out).trans rfl
              have ct2 : w7.cell? ⟨p321, 2, none⟩ = some (.int .i64 0) := (cell_of_row _ _ 2 _ _ _ HX342.out).trans rfl
              have ct3 : w7.cell? ⟨p321, 3, none⟩ = some (.bool false) := (cell_of_row _ _ 3 _ _ _ HX342.out).trans rfl
              have ct4 : w7.cell? ⟨p321, 4, none⟩ = some (.int .u64 0) := (cell_of_row _ _ 4 _ _ _ HX342.out).trans rfl
              have lt := lt_of_heap HX342.out
              have ft : ∀ j, w7.frozen? ⟨p321, j, none⟩ = false := fun j => frozen_of_row _ _ _ _ _ HX342.out
              have cu0 : w7.cell? ⟨p339, 0, none⟩ = some (.int .i64 S2.ck) := (cell_of_row _ _ 0 _ _ _ HX343.out).trans rfl
              have cu1 : w7.cell? ⟨p339, 1, none⟩ = some (.int .i64 S2.h) := (cell_of_row _ _ 1 _ _ _ HX343.out).trans rfl
              have cu2 : w7.cell? ⟨p339, 2, none⟩ = some (.int .i64 S2.c.k) := (cell_of_row _ _ 2 _ _ _ HX343.out).trans rfl
              have cu3 : w7.cell? ⟨p339, 3, none⟩ = some (.bool S2.c.h) := (cell_of_row _ _ 3 _ _ _ HX343.out).trans rfl
              have cu4 : w7.cell? ⟨p339, 4, none⟩ = some (.int .u64 S2.c.n) := (cell_of_row _ _ 4 _ _ _ HX343.out).trans rfl
              have lu := lt_of_heap HX343.out
              have fu : ∀ j, w7.frozen? ⟨p339, j, none⟩ = false := fun j => frozen_of_row _ _ _ _ _ HX343.out
              have co0 : w7.cell? ⟨p310, 0, none⟩ = some (.int .i64 3) := (cell_of_row _ _ 0 _ _ _ HX341.out).trans rfl
              have co1 : w7.cell? ⟨p310, 1, none⟩ = some (.int .i64 xx) := (cell_of_row _ _ 1 _ _ _ HX341.out).trans rfl
              have lo := lt_of_heap HX341.out
              have fo : ∀ j, w7.frozen? ⟨p310, j, none⟩ = false := fun j => frozen_of_row _ _ _ _ _ HX341.out
              have hne345 : p26 ≠ p321 := HD312.out
              have hne346 : p310 ≠ p321 := box_ne HX341.out HX342.out (by decide)
              have hne347 : p339 ≠ p321 := (Ne.symm HD328.out)
              have hf := HF344.out.farp HX342.out (by decide) (by decide)
              have HX348 := Lib.hid (set5_far hne345 HX340.out (.int .i64 S2.ck) (.int .i64 S2.h) (.int .i64 S2.c.k) (.bool S2.c.h) (.int .u64 S2.c.n))
              have HX349 := Lib.hid (set5_far hne346 HX341.out (.int .i64 S2.ck) (.int .i64 S2.h) (.int .i64 S2.c.k) (.bool S2.c.h) (.int .u64 S2.c.n))
              have HX350 := Lib.hid (set5_box HX342.out (.int .i64 S2.ck) (.int .i64 S2.h) (.int .i64 S2.c.k) (.bool S2.c.h) (.int .u64 S2.c.n))
              have HX351 := Lib.hid (set5_far hne347 HX343.out (.int .i64 S2.ck) (.int .i64 S2.h) (.int .i64 S2.c.k) (.bool S2.c.h) (.int .u64 S2.c.n))
              have HF352 := Lib.hid ((((((HF344.out.setp (j := 0) hf (by have := HL317.out; omega) (.int .i64 S2.ck)).setp (j := 1) hf (by have := HL317.out; omega) (.int .i64 S2.h)).setp (j := 2) hf (by have := HL317.out; omega) (.int .i64 S2.c.k)).setp (j := 3) hf (by have := HL317.out; omega) (.bool S2.c.h)).setp (j := 4) hf (by have := HL317.out; omega) (.int .u64 S2.c.n)))
              clear hf HX340 HX341 HX342 HX343 HF344
              skip
              have hne353 : p310 ≠ p26 := box_ne HX349.out HX348.out (by decide)
              have hne354 : p321 ≠ p26 := (Ne.symm HD312.out)
              have hne355 : p339 ≠ p26 := (Ne.symm HD327.out)
              have hf := HF352.out.farp HX348.out (by decide) (by decide)
              have HX356 := Lib.hid (set5_box HX348.out (.int .i64 S2.ck) (.int .i64 S2.h) (.int .i64 S2.c.k) (.bool S2.c.h) (.int .u64 S2.c.n))
              have HX357 := Lib.hid (set5_far hne353 HX349.out (.int .i64 S2.ck) (.int .i64 S2.h) (.int .i64 S2.c.k) (.bool S2.c.h) (.int .u64 S2.c.n))
              have HX358 := Lib.hid (set5_far hne354 HX350.out (.int .i64 S2.ck) (.int .i64 S2.h) (.int .i64 S2.c.k) (.bool S2.c.h) (.int .u64 S2.c.n))
              have HX359 := Lib.hid (set5_far hne355 HX351.out (.int .i64 S2.ck) (.int .i64 S2.h) (.int .i64 S2.c.k) (.bool S2.c.h) (.int .u64 S2.c.n))
              have HF360 := Lib.hid ((((((HF352.out.setp (j := 0) hf (by have := HL23.out; omega) (.int .i64 S2.ck)).setp (j := 1) hf (by have := HL23.out; omega) (.int .i64 S2.h)).setp (j := 2) hf (by have := HL23.out; omega) (.int .i64 S2.c.k)).setp (j := 3) hf (by have := HL23.out; omega) (.bool S2.c.h)).setp (j := 4) hf (by have := HL23.out; omega) (.int .u64 S2.c.n)))
              clear hf HX348 HX349 HX350 HX351 HF352
              skip
              have HB361 : Hid (Below ((((((((((w7.setCell ⟨p321, 0, none⟩ (.int .i64 S2.ck)).setCell ⟨p321, 1, none⟩ (.int .i64 S2.h)).setCell ⟨p321, 2, none⟩ (.int .i64 S2.c.k)).setCell ⟨p321, 3, none⟩ (.bool S2.c.h)).setCell ⟨p321, 4, none⟩ (.int .u64 S2.c.n)).setCell ⟨p26, 0, none⟩ (.int .i64 S2.ck)).setCell ⟨p26, 1, none⟩ (.int .i64 S2.h)).setCell ⟨p26, 2, none⟩ (.int .i64 S2.c.k)).setCell ⟨p26, 3, none⟩ (.bool S2.c.h)).setCell ⟨p26, 4, none⟩ (.int .u64 S2.c.n)).heap.size ((((((((((w7.setCell ⟨p321, 0, none⟩ (.int .i64 S2.ck)).setCell ⟨p321, 1, none⟩ (.int .i64 S2.h)).setCell ⟨p321, 2, none⟩ (.int .i64 S2.c.k)).setCell ⟨p321, 3, none⟩ (.bool S2.c.h)).setCell ⟨p321, 4, none⟩ (.int .u64 S2.c.n)).setCell ⟨p26, 0, none⟩ (.int .i64 S2.ck)).setCell ⟨p26, 1, none⟩ (.int .i64 S2.h)).setCell ⟨p26, 2, none⟩ (.int .i64 S2.c.k)).setCell ⟨p26, 3, none⟩ (.bool S2.c.h)).setCell ⟨p26, 4, none⟩ (.int .u64 S2.c.n)) (((((((((((w7.setCell ⟨p321, 0, none⟩ (.int .i64 S2.ck)).setCell ⟨p321, 1, none⟩ (.int .i64 S2.h)).setCell ⟨p321, 2, none⟩ (.int .i64 S2.c.k)).setCell ⟨p321, 3, none⟩ (.bool S2.c.h)).setCell ⟨p321, 4, none⟩ (.int .u64 S2.c.n)).setCell ⟨p26, 0, none⟩ (.int .i64 S2.ck)).setCell ⟨p26, 1, none⟩ (.int .i64 S2.h)).setCell ⟨p26, 2, none⟩ (.int .i64 S2.c.k)).setCell ⟨p26, 3, none⟩ (.bool S2.c.h)).setCell ⟨p26, 4, none⟩ (.int .u64 S2.c.n)).alloc (.cells #[.int .i64 S2.ck, .int .i64 S2.h, .int .i64 S2.c.k, .bool S2.c.h, .int .u64 S2.c.n] 35))) := Lib.hid ((Below.refl _ _).alloc (Nat.le_refl _) _)
              have HX362 := Lib.hid (below_box HB361.out HX356.out)
              have HX363 := Lib.hid (below_box HB361.out HX357.out)
              have HX364 := Lib.hid (below_box HB361.out HX358.out)
              have HX365 := Lib.hid (below_box HB361.out HX359.out)
              have HF366 := Lib.hid (HF360.out.keep HB361.out)
              clear HX356 HX357 HX358 HX359 HF360 HB361
              go_wp2_with fail
              go_roundg (os.length - (k + 1))
              case rel => exact ⟨k + 1, by omega, by go_num, _, _, _, _, HF366.out, HL2.out, HD2.out, HN2.out, HX362.out⟩
              case measure => omega
    · obtain rfl : k = os.length := by omega
      have hlt' : ¬ (os.length : Int) < os.length := by omega
      have hwf := HFr.out.st.ar.wf
      have hz : hasB M.length 0 = true := hasB_iff.2 ⟨by omega, by have := hwf.toWFp.pos; omega⟩
      have hle := HFr.out.st.ar.len
      obtain ⟨e0, wM, hT, -, hi⟩ := y_good (lim := 400) (x := 0) hwf (by decide) HDf.out.ck hz 2 (by omega) (by have := HLn.out.1; have := HM.out; omega)
      have hne : yR 400 M S.ck 0 0 ≠ yR 400 M S.ck 0 1 := nd_ne (L := yL 400 M S.ck 0 2) (by rw [(hi 0 (by omega)).2, (hi 1 (by omega)).2]; exact keyN_ne (.inl (by omega)))
      have hn0 : yR 400 M S.ck 0 0 ≠ 0 := nd_ne (L := yL 400 M S.ck 0 2) (by rw [(hi 0 (by omega)).2, nd_zero wM.toWFp]; simp [keyN, zN])
      have b1 : spA 400 M S.ck = ⟨yR 400 M S.ck 0 0, true, 0⟩ ∧ spB 400 M S.ck = ⟨yR 400 M S.ck 0 1, true, 0⟩ := by unfold spA spB; rw [if_pos e0, if_pos e0]; exact ⟨rfl, rfl⟩
      have HS1 := Lib.hid (fun wi g2 cap2 (h9 : St w wi b g2 bm cap2 400 M) => split_any w b g2 bm cap2 400 M S wi h9 HSH.out (HDf.out.okc (by omega)))
      rw [b1.1, b1.2, e0] at HS1
      unfold syV cfV at HS1
      have n1 : (yR 400 M S.ck 0 0 == yR 400 M S.ck 0 1) = false := by simpa using hne
      have n2 : (yR 400 M S.ck 0 0 == 0) = false := by simpa using hn0
      clear b1 hne hn0 hi hT wM e0 hz hwf hle
      generalize yL 400 M S.ck 0 2 = M2 at *
      generalize yR 400 M S.ck 0 0 = r1 at *
      generalize yR 400 M S.ck 0 1 = r2 at *
      have cs0 : wr.cell? ⟨p26, 0, none⟩ = some (.int .i64 S.ck) := (cell_of_row _ _ 0 _ _ _ HXs.out).trans rfl
      have cs1 : wr.cell? ⟨p26, 1, none⟩ = some (.int .i64 S.h) := (cell_of_row _ _ 1 _ _ _ HXs.out).trans rfl
      have cs2 : wr.cell? ⟨p26, 2, none⟩ = some (.int .i64 S.c.k) := (cell_of_row _ _ 2 _ _ _ HXs.out).trans rfl
      have cs3 : wr.cell? ⟨p26, 3, none⟩ = some (.bool S.c.h) := (cell_of_row _ _ 3 _ _ _ HXs.out).trans rfl
      have cs4 : wr.cell? ⟨p26, 4, none⟩ = some (.int .u64 S.c.n) := (cell_of_row _ _ 4 _ _ _ HXs.out).trans rfl
      have ls := lt_of_heap HXs.out
      have fs : ∀ j, wr.frozen? ⟨p26, j, none⟩ = false := fun j => frozen_of_row _ _ _ _ _ HXs.out
      go_wp2_with fail
      go_at_call 16
      refine (HS1.out _ _ _ HFr.out.st).mono ?_
      rintro e w6 ⟨g6, cap6, rfl, hA, hg, hk⟩
      clear cs0 cs1 cs2 cs3 cs4 ls fs
      have HX901 := Lib.hid (HFr.out.st.ar.boxKept hk HXs.out (by decide) (by decide))
      have HF902 := Lib.hid (HFr.out.step hA hg hk)
      clear HXs HFr hA hg hk HS1
      have HB903 : Hid (Below w6.heap.size w6 ((w6.alloc (.cells #[.int .i64 r1, .bool true, .int .u64 0] 33)).alloc (.cells #[.int .i64 r2, .bool true, .int .u64 0] 33))) := Lib.hid (((Below.refl _ _).alloc (Nat.le_refl _) _).alloc (by simp) _)
      have HX904 := Lib.hid (below_box HB903.out HX901.out)
      have HX905 : Hid (((w6.alloc (.cells #[.int .i64 r1, .bool true, .int .u64 0] 33)).alloc (.cells #[.int .i64 r2, .bool true, .int .u64 0] 33)).heap[w6.heap.size]? = some (.cells #[.int .i64 r1, .bool true, .int .u64 0] 33 (0, 0))) := Lib.hid (by rw [Below.heap_alloc _ _ _ (by simp <;> omega)]; have q := heap_alloc_new w6 (.cells #[.int .i64 r1, .bool true, .int .u64 0] 33); exact q)
      have HX906 : Hid (((w6.alloc (.cells #[.int .i64 r1, .bool true, .int .u64 0] 33)).alloc (.cells #[.int .i64 r2, .bool true, .int .u64 0] 33)).heap[w6.heap.size + 1]? = some (.cells #[.int .i64 r2, .bool true, .int .u64 0] 33 (0, 0))) := Lib.hid (by have q := heap_alloc_new (w6.alloc (.cells #[.int .i64 r1, .bool true, .int .u64 0] 33)) (.cells #[.int .i64 r2, .bool true, .int .u64 0] 33); rwa [World.size_alloc] at q)
      have HF907 := Lib.hid (HF902.out.keep HB903.out)
      have HL908 : Hid (w.heap.size ≤ w6.heap.size) := Lib.hid HF902.out.kp.size
      clear HX901 HF902 HB903
      go_wp2_with fail
      generalize ((w6.alloc (.cells #[.int .i64 r1, .bool true, .int .u64 0] 33)).alloc (.cells #[.int .i64 r2, .bool true, .int .u64 0] 33)) = W911 at *
      generalize w6.heap.size = p912 at *
      have HA9 := Lib.hid (HAw.out _ HF907.out.st.bel)
      go_at_call 7
      refine HA9.out.mono ?_
      rintro e w9 ⟨rfl, hb9⟩
      go_wp2_with fail
      go_ret
      exact ⟨rfl, (HF907.out.st.keep hb9).bel⟩
end Go.Proofs.YtgjhhipkfglpgaaDoor
