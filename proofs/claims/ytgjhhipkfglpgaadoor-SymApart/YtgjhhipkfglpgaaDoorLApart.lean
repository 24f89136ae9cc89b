/- The walk of SymApart: two states that differ in the chaining key, or the hash, differ still, whatever of the same is mixed into both. -/
import Derived.Test.YtgjhhipkfglpgaaDoorKl
import Derived.Test.YtgjhhipkfglpgaaDoorKi
namespace Go.Proofs.YtgjhhipkfglpgaaDoor
open Go.RowKit

theorem dif_key {M : List Nd} {s t : Sf} (d : Dif M s t) : s.c.h = true → (s.c.k == t.c.k) = false := fun h => by have := d.k h; simpa using this
set_option maxRecDepth 100000 in
set_option maxHeartbeats 1000000 in
theorem apart_long (s : Option Addr) (m c : Nat) (x y : Int) (so : Option Addr) (mo co : Nat) (hm : 30 < m ∨ 30 < mo) (w : World) (hs : Shp w) : Calls Tryd.prog 4 #[.slice s m c, .int .i64 x, .int .i64 y, .slice so mo co] w fun e w' => e = .returned (.bool true) ∧ Below w.heap.size w w' := by
  have HA := Lib.hid (awake11_any w hs)
  clear hs
  by_cases h1 : 30 < m
  · have h30 : (30 : Int) < m := by omega
    clear hm h1
    go_enter Tryd.func4, Tryd.ntmps4
    go_wp2_with (go_at_call 7; refine HA.out.mono ?_; rintro e w1 ⟨rfl, hb1⟩)
    go_ret
    exact ⟨rfl, hb1⟩
  · have h30 : ¬ (30 : Int) < m := by omega
    have h31 : (30 : Int) < mo := by omega
    clear hm h1
    go_enter Tryd.func4, Tryd.ntmps4
    go_wp2_with (go_at_call 7; refine HA.out.mono ?_; rintro e w1 ⟨rfl, hb1⟩)
    go_ret
    exact ⟨rfl, hb1⟩
set_option maxRecDepth 100000 in
set_option maxHeartbeats 4000000 in
theorem apart_good (s : Option Addr) (cc : Nat) (ns : List Nd) (x y : Int) (so : Option Addr) (co : Nat) (os : List Op2) (hn : ns.length ≤ 30) (hm : os.length ≤ 30) (w : World) (hs : Shp w) (hO : OpsV w so os) (hB : BuiltAt w (.slice s ns.length cc) ns) : Calls Tryd.prog 4 #[.slice s ns.length cc, .int .i64 x, .int .i64 y, .slice so os.length co] w fun e w' => e = .returned (.bool true) ∧ Below w.heap.size w w' := by
  have HB0 := hB 600 600 (by decide) w (Below.refl _ _)
  unfold BuiltPost at HB0
  have HB := Lib.hid HB0; clear HB0
  have HSH := Lib.hid hs
  have HAw := Lib.hid (fun w1 (h : Below w.heap.size w w1) => awake11_any w1 (hs.below h))
  obtain ⟨L, hLe⟩ : ∃ L, L = bld 600 ns := ⟨_, rfl⟩
  rw [← hLe] at HB
  have h30 : (ns.length : Int) ≤ 30 := by omega
  have h31 : (os.length : Int) ≤ 30 := by omega
  have HLN : Hid (L.length ≤ 31) := Lib.hid (by rw [hLe]; have := bld_len11 (lim := 600) ns; omega)
  have HOS := Lib.hid hO
  have HM := Lib.hid hm
  clear hs hB hLe hn hO hm
  go_enter Tryd.func4, Tryd.ntmps4
  go_wp2_with fail
  go_at_call 8
  refine HB.out.mono ?_
  rintro e w1 ⟨b, g, bm, cap, gr, capr, rfl, hP⟩
  have HF1 : Hid (Fs w w w1 b g g bm cap 600 L) := Lib.hid ⟨hP.st, .inl rfl, Kept.of hP.st.bel, Nat.le_refl _⟩
  clear hP HB
  have HB11 : Hid (Below w1.heap.size w1 ((w1.alloc (.cells #[.int .i64 600, .slice (some ⟨gr, 0, none⟩) L.length capr] 28)).alloc (.cells #[.int .i64 x, .int .i64 y] 3))) := Lib.hid (((Below.refl _ _).alloc (Nat.le_refl _) _).alloc (by simp) _)
  have HX12 : Hid (((w1.alloc (.cells #[.int .i64 600, .slice (some ⟨gr, 0, none⟩) L.length capr] 28)).alloc (.cells #[.int .i64 x, .int .i64 y] 3)).heap[w1.heap.size]? = some (.cells #[.int .i64 600, .slice (some ⟨gr, 0, none⟩) L.length capr] 28 (0, 0))) := Lib.hid (by rw [Below.heap_alloc _ _ _ (by simp <;> omega)]; have q := heap_alloc_new w1 (.cells #[.int .i64 600, .slice (some ⟨gr, 0, none⟩) L.length capr] 28); exact q)
  have HX13 : Hid (((w1.alloc (.cells #[.int .i64 600, .slice (some ⟨gr, 0, none⟩) L.length capr] 28)).alloc (.cells #[.int .i64 x, .int .i64 y] 3)).heap[w1.heap.size + 1]? = some (.cells #[.int .i64 x, .int .i64 y] 3 (0, 0))) := Lib.hid (by have q := heap_alloc_new (w1.alloc (.cells #[.int .i64 600, .slice (some ⟨gr, 0, none⟩) L.length capr] 28)) (.cells #[.int .i64 x, .int .i64 y] 3); rwa [World.size_alloc] at q)
  have HF14 := Lib.hid (HF1.out.keep HB11.out)
  have HL15 : Hid (w.heap.size ≤ w1.heap.size) := Lib.hid HF1.out.kp.size
  clear HF1 HB11
  go_wp2_with fail
  generalize ((w1.alloc (.cells #[.int .i64 600, .slice (some ⟨gr, 0, none⟩) L.length capr] 28)).alloc (.cells #[.int .i64 x, .int .i64 y] 3)) = W16 at *
  generalize w1.heap.size = p17 at *
  have cv0 : W16.cell? ⟨p17 + 1, 0, none⟩ = some (.int .i64 x) := (cell_of_row _ _ 0 _ _ _ HX13.out).trans rfl
  have cv1 : W16.cell? ⟨p17 + 1, 1, none⟩ = some (.int .i64 y) := (cell_of_row _ _ 1 _ _ _ HX13.out).trans rfl
  have lv := lt_of_heap HX13.out
  have fv : ∀ j, W16.frozen? ⟨p17 + 1, j, none⟩ = false := fun j => frozen_of_row _ _ _ _ _ HX13.out
  go_at_call 10
  refine (has2_any b _ L.length _ _ _ x y _ HF14.out.st.ar.c0 cv0 cv1).mono ?_
  rintro e w5 ⟨rfl, rfl⟩
  clear cv0 cv1 lv fv
  cases hb : (hasB L.length x && hasB L.length y)
  · have HA9 := Lib.hid (HAw.out _ HF14.out.st.bel)
    go_wp2_with fail
    go_at_call 7
    refine HA9.out.mono ?_
    rintro e w9 ⟨rfl, hb9⟩
    go_wp2_with fail
    go_ret
    exact ⟨rfl, (HF14.out.st.keep hb9).bel⟩
  · by_cases hxy : x = y
    · subst hxy
      have HA9 := Lib.hid (HAw.out _ HF14.out.st.bel)
      go_wp2_with fail
      go_at_call 7
      refine HA9.out.mono ?_
      rintro e w9 ⟨rfl, hb9⟩
      go_wp2_with fail
      go_ret
      exact ⟨rfl, (HF14.out.st.keep hb9).bel⟩
    · have nxy : (x == y) = false := by simpa using hxy
      obtain ⟨hbx, hby⟩ : hasB L.length x = true ∧ hasB L.length y = true := by simpa using hb
      have HD0 : Hid (Dif L ⟨x, x, cZ⟩ ⟨y, y, cZ⟩) := Lib.hid ⟨⟨hbx, hbx, fun q => by simp [cZ] at q, by simp [cZ, i64ok], by simp [cZ, u64ok]⟩, ⟨hby, hby, fun q => by simp [cZ] at q, by simp [cZ, i64ok], by simp [cZ, u64ok]⟩, hxy, hxy, rfl, fun q => by simp [cZ] at q⟩
      clear hb hbx hby hxy
      have HB18 : Hid (Below W16.heap.size W16 ((W16.alloc (.cells #[.int .i64 x, .int .i64 x, .int .i64 0, .bool false, .int .u64 0] 35)).alloc (.cells #[.int .i64 y, .int .i64 y, .int .i64 0, .bool false, .int .u64 0] 35))) := Lib.hid (((Below.refl _ _).alloc (Nat.le_refl _) _).alloc (by simp) _)
      have HX19 := Lib.hid (below_box HB18.out HX12.out)
      have HX20 := Lib.hid (below_box HB18.out HX13.out)
      have HX21 : Hid (((W16.alloc (.cells #[.int .i64 x, .int .i64 x, .int .i64 0, .bool false, .int .u64 0] 35)).alloc (.cells #[.int .i64 y, .int .i64 y, .int .i64 0, .bool false, .int .u64 0] 35)).heap[W16.heap.size]? = some (.cells #[.int .i64 x, .int .i64 x, .int .i64 0, .bool false, .int .u64 0] 35 (0, 0))) := Lib.hid (by rw [Below.heap_alloc _ _ _ (by simp <;> omega)]; have q := heap_alloc_new W16 (.cells #[.int .i64 x, .int .i64 x, .int .i64 0, .bool false, .int .u64 0] 35); exact q)
      have HX22 : Hid (((W16.alloc (.cells #[.int .i64 x, .int .i64 x, .int .i64 0, .bool false, .int .u64 0] 35)).alloc (.cells #[.int .i64 y, .int .i64 y, .int .i64 0, .bool false, .int .u64 0] 35)).heap[W16.heap.size + 1]? = some (.cells #[.int .i64 y, .int .i64 y, .int .i64 0, .bool false, .int .u64 0] 35 (0, 0))) := Lib.hid (by have q := heap_alloc_new (W16.alloc (.cells #[.int .i64 x, .int .i64 x, .int .i64 0, .bool false, .int .u64 0] 35)) (.cells #[.int .i64 y, .int .i64 y, .int .i64 0, .bool false, .int .u64 0] 35); rwa [World.size_alloc] at q)
      have HF23 := Lib.hid (HF14.out.keep HB18.out)
      have HL24 : Hid (w.heap.size ≤ W16.heap.size) := Lib.hid HF14.out.kp.size
      clear HX12 HX13 HF14 HB18
      go_wp2_with fail
      generalize ((W16.alloc (.cells #[.int .i64 x, .int .i64 x, .int .i64 0, .bool false, .int .u64 0] 35)).alloc (.cells #[.int .i64 y, .int .i64 y, .int .i64 0, .bool false, .int .u64 0] 35)) = W29 at *
      generalize W16.heap.size = p30 at *
      go_loopg [15, 16, 17, 55] os.length (fun q _ _ _ u55 wr => ∃ k : Nat, k + q = os.length ∧ u55 = .int .i64 k ∧ ∃ g' cap' M S T, Fs w w wr b g g' bm cap' 600 M ∧ M.length ≤ 31 + 8 * k ∧ Dif M S T ∧ wr.heap[p30]? = some (.cells #[.int .i64 S.ck, .int .i64 S.h, .int .i64 S.c.k, .bool S.c.h, .int .u64 S.c.n] 35 (0, 0)) ∧ wr.heap[p30 + 1]? = some (.cells #[.int .i64 T.ck, .int .i64 T.h, .int .i64 T.c.k, .bool T.c.h, .int .u64 T.c.n] 35 (0, 0)))
      case atStart => exact ⟨0, by omega, rfl, _, _, L, ⟨x, x, cZ⟩, ⟨y, y, cZ⟩, HF23.out, by have := HLN.out; omega, HD0.out, HX21.out, HX22.out⟩
      case round =>
        obtain ⟨k, hkq, rfl, g1, cap1, M, S, T, hF, hlen, hD, hXs, hXt⟩ := hrel
        have HFr := Lib.hid hF
        have HXs := Lib.hid hXs
        have HXt := Lib.hid hXt
        have HDf := Lib.hid hD
        have HLn := Lib.hid hlen
        clear hF hXs hXt hD hlen HD0
        by_cases hlt : k < os.length
        · have hlt' : (k : Int) < os.length := by omega
          obtain ⟨og, oo, rfl, hoa⟩ := HOS.out.at_ HFr.out.st.bel (by omega)
          obtain ⟨hk0, hk1⟩ := hoa k hlt
          clear hoa
          generalize (os.getD k zOp).k = kk at *
          generalize (os.getD k zOp).x = xx at *
          by_cases hneg : kk < 0
          · have HB301 : Hid (Below wr.heap.size wr (wr.alloc (.cells #[.int .i64 kk, .int .i64 xx] 40))) := Lib.hid ((Below.refl _ _).alloc (Nat.le_refl _) _)
            have HX302 := Lib.hid (below_box HB301.out HXs.out)
            have HX303 := Lib.hid (below_box HB301.out HXt.out)
            have HX304 : Hid ((wr.alloc (.cells #[.int .i64 kk, .int .i64 xx] 40)).heap[wr.heap.size]? = some (.cells #[.int .i64 kk, .int .i64 xx] 40 (0, 0))) := Lib.hid (by have q := heap_alloc_new wr (.cells #[.int .i64 kk, .int .i64 xx] 40); exact q)
            have HF305 := Lib.hid (HFr.out.keep HB301.out)
            have HL306 : Hid (w.heap.size ≤ wr.heap.size) := Lib.hid HFr.out.kp.size
            clear HXs HXt HFr HB301
            go_wp2_with fail
            generalize (wr.alloc (.cells #[.int .i64 kk, .int .i64 xx] 40)) = W309 at *
            generalize wr.heap.size = p310 at *
            go_roundg (os.length - (k + 1))
            case rel => exact ⟨k + 1, by omega, by go_num, _, _, _, _, _, HF305.out, by have := HLn.out; omega, HDf.out, HX302.out, HX303.out⟩
            case measure => omega
          · by_cases hbig : 2 < kk
            · have HB301 : Hid (Below wr.heap.size wr (wr.alloc (.cells #[.int .i64 kk, .int .i64 xx] 40))) := Lib.hid ((Below.refl _ _).alloc (Nat.le_refl _) _)
              have HX302 := Lib.hid (below_box HB301.out HXs.out)
              have HX303 := Lib.hid (below_box HB301.out HXt.out)
              have HX304 : Hid ((wr.alloc (.cells #[.int .i64 kk, .int .i64 xx] 40)).heap[wr.heap.size]? = some (.cells #[.int .i64 kk, .int .i64 xx] 40 (0, 0))) := Lib.hid (by have q := heap_alloc_new wr (.cells #[.int .i64 kk, .int .i64 xx] 40); exact q)
              have HF305 := Lib.hid (HFr.out.keep HB301.out)
              have HL306 : Hid (w.heap.size ≤ wr.heap.size) := Lib.hid HFr.out.kp.size
              clear HXs HXt HFr HB301
              go_wp2_with fail
              generalize (wr.alloc (.cells #[.int .i64 kk, .int .i64 xx] 40)) = W309 at *
              generalize wr.heap.size = p310 at *
              go_roundg (os.length - (k + 1))
              case rel => exact ⟨k + 1, by omega, by go_num, _, _, _, _, _, HF305.out, by have := HLn.out; omega, HDf.out, HX302.out, HX303.out⟩
              case measure => omega
            · have HB301 : Hid (Below wr.heap.size wr ((wr.alloc (.cells #[.int .i64 kk, .int .i64 xx] 40)).alloc (.cells #[.int .i64 xx] 3))) := Lib.hid (((Below.refl _ _).alloc (Nat.le_refl _) _).alloc (by simp) _)
              have HX302 := Lib.hid (below_box HB301.out HXs.out)
              have HX303 := Lib.hid (below_box HB301.out HXt.out)
              have HX304 : Hid (((wr.alloc (.cells #[.int .i64 kk, .int .i64 xx] 40)).alloc (.cells #[.int .i64 xx] 3)).heap[wr.heap.size]? = some (.cells #[.int .i64 kk, .int .i64 xx] 40 (0, 0))) := Lib.hid (by rw [Below.heap_alloc _ _ _ (by simp <;> omega)]; have q := heap_alloc_new wr (.cells #[.int .i64 kk, .int .i64 xx] 40); exact q)
              have HX305 : Hid (((wr.alloc (.cells #[.int .i64 kk, .int .i64 xx] 40)).alloc (.cells #[.int .i64 xx] 3)).heap[wr.heap.size + 1]? = some (.cells #[.int .i64 xx] 3 (0, 0))) := Lib.hid (by have q := heap_alloc_new (wr.alloc (.cells #[.int .i64 kk, .int .i64 xx] 40)) (.cells #[.int .i64 xx] 3); rwa [World.size_alloc] at q)
              have HF306 := Lib.hid (HFr.out.keep HB301.out)
              have HL307 : Hid (w.heap.size ≤ wr.heap.size) := Lib.hid HFr.out.kp.size
              clear HXs HXt HFr HB301
              go_wp2_with fail
              generalize ((wr.alloc (.cells #[.int .i64 kk, .int .i64 xx] 40)).alloc (.cells #[.int .i64 xx] 3)) = W312 at *
              generalize wr.heap.size = p313 at *
              have cv0 : W312.cell? ⟨p313 + 1, 0, none⟩ = some (.int .i64 xx) := (cell_of_row _ _ 0 _ _ _ HX305.out).trans rfl
              have lv := lt_of_heap HX305.out
              have fv : ∀ j, W312.frozen? ⟨p313 + 1, j, none⟩ = false := fun j => frozen_of_row _ _ _ _ _ HX305.out
              go_at_call 10
              refine (has1_any b _ M.length _ _ _ xx _ HF306.out.st.ar.c0 cv0).mono ?_
              rintro e w5 ⟨rfl, rfl⟩
              clear cv0 lv fv
              cases hb : hasB M.length xx
              · go_wp2_with fail
                go_roundg (os.length - (k + 1))
                case rel => exact ⟨k + 1, by omega, by go_num, _, _, _, _, _, HF306.out, by have := HLn.out; omega, HDf.out, HX302.out, HX303.out⟩
                case measure => omega
              · have HBX := Lib.hid hb
                have hle := HF306.out.st.ar.len
                rcases (show kk = 0 ∨ kk = 1 ∨ kk = 2 by omega) with rfl | rfl | rfl
                · obtain ⟨e1, e2, W2, D2⟩ := dif_mh (lim := 600) (x := xx) HF306.out.st.ar.wf (by decide) (by have := HLn.out; have := HM.out; omega) HDf.out hb
                  have hxo : i64ok xx := ref_i64 (n := M.length) (by omega) hb
                  have hso := HDf.out.gs
                  have hto := HDf.out.gt
                  have HC1 := Lib.hid (fun wi g2 cap2 (h : St w wi b g2 bm cap2 600 (M)) => h.mixHash HSH.out S xx (hso.okh (by omega)) hxo)
                  have HC2 := Lib.hid (fun wi g2 cap2 (h : St w wi b g2 bm cap2 600 (mhL 600 M S xx)) => h.mixHash HSH.out T xx (hto.okh (by omega)) hxo)
                  rw [e1] at HC1
                  rw [e2] at HC2
                  unfold syV at HC1 HC2
                  have HD2 := Lib.hid D2
                  have HL2 : Hid ((mhL 600 (mhL 600 M S xx) T xx).length ≤ 31 + 8 * (k + 1)) := Lib.hid (by have := HLn.out; have := W2.le; omega)
                  clear e1 e2 W2 D2 hxo hso hto hb
                  generalize mhS 600 (mhL 600 M S xx) T xx = T2 at *
                  generalize mhL 600 (mhL 600 M S xx) T xx = M2 at *
                  generalize mhS 600 M S xx = S2 at *
                  generalize mhL 600 M S xx = M1 at *
                  have cs0 : W312.cell? ⟨p30, 0, none⟩ = some (.int .i64 S.ck) := (cell_of_row _ _ 0 _ _ _ HX302.out).trans rfl
                  have cs1 : W312.cell? ⟨p30, 1, none⟩ = some (.int .i64 S.h) := (cell_of_row _ _ 1 _ _ _ HX302.out).trans rfl
                  have cs2 : W312.cell? ⟨p30, 2, none⟩ = some (.int .i64 S.c.k) := (cell_of_row _ _ 2 _ _ _ HX302.out).trans rfl
                  have cs3 : W312.cell? ⟨p30, 3, none⟩ = some (.bool S.c.h) := (cell_of_row _ _ 3 _ _ _ HX302.out).trans rfl
                  have cs4 : W312.cell? ⟨p30, 4, none⟩ = some (.int .u64 S.c.n) := (cell_of_row _ _ 4 _ _ _ HX302.out).trans rfl
                  have ls := lt_of_heap HX302.out
                  have fs : ∀ j, W312.frozen? ⟨p30, j, none⟩ = false := fun j => frozen_of_row _ _ _ _ _ HX302.out
                  have co0 : W312.cell? ⟨p313, 0, none⟩ = some (.int .i64 0) := (cell_of_row _ _ 0 _ _ _ HX304.out).trans rfl
                  have co1 : W312.cell? ⟨p313, 1, none⟩ = some (.int .i64 xx) := (cell_of_row _ _ 1 _ _ _ HX304.out).trans rfl
                  have lo := lt_of_heap HX304.out
                  have fo : ∀ j, W312.frozen? ⟨p313, j, none⟩ = false := fun j => frozen_of_row _ _ _ _ _ HX304.out
                  go_wp2_with fail
                  go_at_call 11
                  refine (HC1.out _ _ _ HF306.out.st).mono ?_
                  rintro e w6 ⟨g6, cap6, rfl, hA, hg, hk⟩
                  clear cs0 cs1 cs2 cs3 cs4 ls fs co0 co1 lo fo
                  have HX314 := Lib.hid (HF306.out.st.ar.boxKept hk HX302.out (by decide) (by decide))
                  have HX315 := Lib.hid (HF306.out.st.ar.boxKept hk HX303.out (by decide) (by decide))
                  have HX316 := Lib.hid (HF306.out.st.ar.boxKept hk HX304.out (by decide) (by decide))
                  have HF317 := Lib.hid (HF306.out.step hA hg hk)
                  clear HX302 HX303 HX304 HF306 hA hg hk HC1
                  have hne318 : p30 + 1 ≠ p30 := (by simp)
                  have hne319 : p313 ≠ p30 := box_ne HX316.out HX314.out (by decide)
                  have ct0 : w6.cell? ⟨p30 + 1, 0, none⟩ = some (.int .i64 T.ck) := (cell_of_row _ _ 0 _ _ _ HX315.out).trans rfl
                  have ct1 : w6.cell? ⟨p30 + 1, 1, none⟩ = some (.int .i64 T.h) := (cell_of_row _ _ 1 _ _ _ HX315.out).trans rfl
                  have ct2 : w6.cell? ⟨p30 + 1, 2, none⟩ = some (.int .i64 T.c.k) := (cell_of_row _ _ 2 _ _ _ HX315.out).trans rfl
                  have ct3 : w6.cell? ⟨p30 + 1, 3, none⟩ = some (.bool T.c.h) := (cell_of_row _ _ 3 _ _ _ HX315.out).trans rfl
                  have ct4 : w6.cell? ⟨p30 + 1, 4, none⟩ = some (.int .u64 T.c.n) := (cell_of_row _ _ 4 _ _ _ HX315.out).trans rfl
                  have lt := lt_of_heap HX315.out
                  have ft : ∀ j, w6.frozen? ⟨p30 + 1, j, none⟩ = false := fun j => frozen_of_row _ _ _ _ _ HX315.out
                  have co0 : w6.cell? ⟨p313, 0, none⟩ = some (.int .i64 0) := (cell_of_row _ _ 0 _ _ _ HX316.out).trans rfl
                  have co1 : w6.cell? ⟨p313, 1, none⟩ = some (.int .i64 xx) := (cell_of_row _ _ 1 _ _ _ HX316.out).trans rfl
                  have lo := lt_of_heap HX316.out
                  have fo : ∀ j, w6.frozen? ⟨p313, j, none⟩ = false := fun j => frozen_of_row _ _ _ _ _ HX316.out
                  have cs0 : w6.cell? ⟨p30, 0, none⟩ = some (.int .i64 S.ck) := (cell_of_row _ _ 0 _ _ _ HX314.out).trans rfl
                  have cs1 : w6.cell? ⟨p30, 1, none⟩ = some (.int .i64 S.h) := (cell_of_row _ _ 1 _ _ _ HX314.out).trans rfl
                  have cs2 : w6.cell? ⟨p30, 2, none⟩ = some (.int .i64 S.c.k) := (cell_of_row _ _ 2 _ _ _ HX314.out).trans rfl
                  have cs3 : w6.cell? ⟨p30, 3, none⟩ = some (.bool S.c.h) := (cell_of_row _ _ 3 _ _ _ HX314.out).trans rfl
                  have cs4 : w6.cell? ⟨p30, 4, none⟩ = some (.int .u64 S.c.n) := (cell_of_row _ _ 4 _ _ _ HX314.out).trans rfl
                  have ls := lt_of_heap HX314.out
                  have fs : ∀ j, w6.frozen? ⟨p30, j, none⟩ = false := fun j => frozen_of_row _ _ _ _ _ HX314.out
                  have hf := HF317.out.farp HX314.out (by decide) (by decide)
                  have HX320 := Lib.hid (set5_box HX314.out (.int .i64 S2.ck) (.int .i64 S2.h) (.int .i64 S2.c.k) (.bool S2.c.h) (.int .u64 S2.c.n))
                  have HX321 := Lib.hid (set5_far hne318 HX315.out (.int .i64 S2.ck) (.int .i64 S2.h) (.int .i64 S2.c.k) (.bool S2.c.h) (.int .u64 S2.c.n))
                  have HX322 := Lib.hid (set5_far hne319 HX316.out (.int .i64 S2.ck) (.int .i64 S2.h) (.int .i64 S2.c.k) (.bool S2.c.h) (.int .u64 S2.c.n))
                  have HF323 := Lib.hid ((((((HF317.out.setp (j := 0) hf (by have := HL24.out; omega) (.int .i64 S2.ck)).setp (j := 1) hf (by have := HL24.out; omega) (.int .i64 S2.h)).setp (j := 2) hf (by have := HL24.out; omega) (.int .i64 S2.c.k)).setp (j := 3) hf (by have := HL24.out; omega) (.bool S2.c.h)).setp (j := 4) hf (by have := HL24.out; omega) (.int .u64 S2.c.n)))
                  clear hf HX314 HX315 HX316 HF317
                  go_wp2_with fail
                  clear ct0 ct1 ct2 ct3 ct4 lt ft co0 co1 lo fo cs0 cs1 cs2 cs3 cs4 ls fs
                  clear hne318 hne319
                  generalize (((((w6.setCell ⟨p30, 0, none⟩ (.int .i64 S2.ck)).setCell ⟨p30, 1, none⟩ (.int .i64 S2.h)).setCell ⟨p30, 2, none⟩ (.int .i64 S2.c.k)).setCell ⟨p30, 3, none⟩ (.bool S2.c.h)).setCell ⟨p30, 4, none⟩ (.int .u64 S2.c.n)) = W324 at *
                  go_at_call 11
                  refine (HC2.out _ _ _ HF323.out.st).mono ?_
                  rintro e w7 ⟨g7, cap7, rfl, hA, hg, hk⟩
                  have HX325 := Lib.hid (HF323.out.st.ar.boxKept hk HX320.out (by decide) (by decide))
                  have HX326 := Lib.hid (HF323.out.st.ar.boxKept hk HX321.out (by decide) (by decide))
                  have HX327 := Lib.hid (HF323.out.st.ar.boxKept hk HX322.out (by decide) (by decide))
                  have HF328 := Lib.hid (HF323.out.step hA hg hk)
                  clear HX320 HX321 HX322 HF323 hA hg hk HC2
                  have hne1 : (S2.ck == T2.ck) = false := by have := HD2.out.ck; simpa using this
                  have hne2 : (S2.h == T2.h) = false := by have := HD2.out.h; simpa using this
                  have hkk := dif_key HD2.out
                  obtain ⟨a1, a2, ⟨a3, hh, a4⟩⟩ := S2
                  simp only at hne1 hne2 hkk
                  cases hh
                  · clear hkk
                    have hne329 : p30 ≠ p30 + 1 := (by simp)
                    have hne330 : p313 ≠ p30 + 1 := box_ne HX327.out HX326.out (by decide)
                    have cs0 : w7.cell? ⟨p30, 0, none⟩ = some (.int .i64 a1) := (cell_of_row _ _ 0 _ _ _ HX325.out).trans rfl
                    have cs1 : w7.cell? ⟨p30, 1, none⟩ = some (.int .i64 a2) := (cell_of_row _ _ 1 _ _ _ HX325.out).trans rfl
                    have cs2 : w7.cell? ⟨p30, 2, none⟩ = some (.int .i64 a3) := (cell_of_row _ _ 2 _ _ _ HX325.out).trans rfl
                    have cs3 : w7.cell? ⟨p30, 3, none⟩ = some (.bool false) := (cell_of_row _ _ 3 _ _ _ HX325.out).trans rfl
                    have cs4 : w7.cell? ⟨p30, 4, none⟩ = some (.int .u64 a4) := (cell_of_row _ _ 4 _ _ _ HX325.out).trans rfl
                    have ls := lt_of_heap HX325.out
                    have fs : ∀ j, w7.frozen? ⟨p30, j, none⟩ = false := fun j => frozen_of_row _ _ _ _ _ HX325.out
                    have ct0 : w7.cell? ⟨p30 + 1, 0, none⟩ = some (.int .i64 T.ck) := (cell_of_row _ _ 0 _ _ _ HX326.out).trans rfl
                    have ct1 : w7.cell? ⟨p30 + 1, 1, none⟩ = some (.int .i64 T.h) := (cell_of_row _ _ 1 _ _ _ HX326.out).trans rfl
                    have ct2 : w7.cell? ⟨p30 + 1, 2, none⟩ = some (.int .i64 T.c.k) := (cell_of_row _ _ 2 _ _ _ HX326.out).trans rfl
                    have ct3 : w7.cell? ⟨p30 + 1, 3, none⟩ = some (.bool T.c.h) := (cell_of_row _ _ 3 _ _ _ HX326.out).trans rfl
                    have ct4 : w7.cell? ⟨p30 + 1, 4, none⟩ = some (.int .u64 T.c.n) := (cell_of_row _ _ 4 _ _ _ HX326.out).trans rfl
                    have lt := lt_of_heap HX326.out
                    have ft : ∀ j, w7.frozen? ⟨p30 + 1, j, none⟩ = false := fun j => frozen_of_row _ _ _ _ _ HX326.out
                    have hf := HF328.out.farp HX326.out (by decide) (by decide)
                    have HX331 := Lib.hid (set5_far hne329 HX325.out (.int .i64 T2.ck) (.int .i64 T2.h) (.int .i64 T2.c.k) (.bool T2.c.h) (.int .u64 T2.c.n))
                    have HX332 := Lib.hid (set5_box HX326.out (.int .i64 T2.ck) (.int .i64 T2.h) (.int .i64 T2.c.k) (.bool T2.c.h) (.int .u64 T2.c.n))
                    have HX333 := Lib.hid (set5_far hne330 HX327.out (.int .i64 T2.ck) (.int .i64 T2.h) (.int .i64 T2.c.k) (.bool T2.c.h) (.int .u64 T2.c.n))
                    have HF334 := Lib.hid ((((((HF328.out.setp (j := 0) hf (by have := HL24.out; omega) (.int .i64 T2.ck)).setp (j := 1) hf (by have := HL24.out; omega) (.int .i64 T2.h)).setp (j := 2) hf (by have := HL24.out; omega) (.int .i64 T2.c.k)).setp (j := 3) hf (by have := HL24.out; omega) (.bool T2.c.h)).setp (j := 4) hf (by have := HL24.out; omega) (.int .u64 T2.c.n)))
                    clear hf HX325 HX326 HX327 HF328
                    go_wp2_with fail
                    clear cs0 cs1 cs2 cs3 cs4 ls fs ct0 ct1 ct2 ct3 ct4 lt ft
                    clear hne329 hne330
                    go_roundg (os.length - (k + 1))
                    case rel => exact ⟨k + 1, by omega, by go_num, _, _, _, _, _, HF334.out, HL2.out, HD2.out, HX331.out, HX332.out⟩
                    case measure => omega
                  · have hne3 : (a3 == T2.c.k) = false := hkk rfl
                    clear hkk
                    have hne329 : p30 ≠ p30 + 1 := (by simp)
                    have hne330 : p313 ≠ p30 + 1 := box_ne HX327.out HX326.out (by decide)
                    have cs0 : w7.cell? ⟨p30, 0, none⟩ = some (.int .i64 a1) := (cell_of_row _ _ 0 _ _ _ HX325.out).trans rfl
                    have cs1 : w7.cell? ⟨p30, 1, none⟩ = some (.int .i64 a2) := (cell_of_row _ _ 1 _ _ _ HX325.out).trans rfl
                    have cs2 : w7.cell? ⟨p30, 2, none⟩ = some (.int .i64 a3) := (cell_of_row _ _ 2 _ _ _ HX325.out).trans rfl
                    have cs3 : w7.cell? ⟨p30, 3, none⟩ = some (.bool true) := (cell_of_row _ _ 3 _ _ _ HX325.out).trans rfl
                    have cs4 : w7.cell? ⟨p30, 4, none⟩ = some (.int .u64 a4) := (cell_of_row _ _ 4 _ _ _ HX325.out).trans rfl
                    have ls := lt_of_heap HX325.out
                    have fs : ∀ j, w7.frozen? ⟨p30, j, none⟩ = false := fun j => frozen_of_row _ _ _ _ _ HX325.out
                    have ct0 : w7.cell? ⟨p30 + 1, 0, none⟩ = some (.int .i64 T.ck) := (cell_of_row _ _ 0 _ _ _ HX326.out).trans rfl
                    have ct1 : w7.cell? ⟨p30 + 1, 1, none⟩ = some (.int .i64 T.h) := (cell_of_row _ _ 1 _ _ _ HX326.out).trans rfl
                    have ct2 : w7.cell? ⟨p30 + 1, 2, none⟩ = some (.int .i64 T.c.k) := (cell_of_row _ _ 2 _ _ _ HX326.out).trans rfl
                    have ct3 : w7.cell? ⟨p30 + 1, 3, none⟩ = some (.bool T.c.h) := (cell_of_row _ _ 3 _ _ _ HX326.out).trans rfl
                    have ct4 : w7.cell? ⟨p30 + 1, 4, none⟩ = some (.int .u64 T.c.n) := (cell_of_row _ _ 4 _ _ _ HX326.out).trans rfl
                    have lt := lt_of_heap HX326.out
                    have ft : ∀ j, w7.frozen? ⟨p30 + 1, j, none⟩ = false := fun j => frozen_of_row _ _ _ _ _ HX326.out
                    have hf := HF328.out.farp HX326.out (by decide) (by decide)
                    have HX331 := Lib.hid (set5_far hne329 HX325.out (.int .i64 T2.ck) (.int .i64 T2.h) (.int .i64 T2.c.k) (.bool T2.c.h) (.int .u64 T2.c.n))
                    have HX332 := Lib.hid (set5_box HX326.out (.int .i64 T2.ck) (.int .i64 T2.h) (.int .i64 T2.c.k) (.bool T2.c.h) (.int .u64 T2.c.n))
                    have HX333 := Lib.hid (set5_far hne330 HX327.out (.int .i64 T2.ck) (.int .i64 T2.h) (.int .i64 T2.c.k) (.bool T2.c.h) (.int .u64 T2.c.n))
                    have HF334 := Lib.hid ((((((HF328.out.setp (j := 0) hf (by have := HL24.out; omega) (.int .i64 T2.ck)).setp (j := 1) hf (by have := HL24.out; omega) (.int .i64 T2.h)).setp (j := 2) hf (by have := HL24.out; omega) (.int .i64 T2.c.k)).setp (j := 3) hf (by have := HL24.out; omega) (.bool T2.c.h)).setp (j := 4) hf (by have := HL24.out; omega) (.int .u64 T2.c.n)))
                    clear hf HX325 HX326 HX327 HF328
                    go_wp2_with fail
                    clear cs0 cs1 cs2 cs3 cs4 ls fs ct0 ct1 ct2 ct3 ct4 lt ft
                    clear hne329 hne330
                    go_roundg (os.length - (k + 1))
                    case rel => exact ⟨k + 1, by omega, by go_num, _, _, _, _, _, HF334.out, HL2.out, HD2.out, HX331.out, HX332.out⟩
                    case measure => omega
                · obtain ⟨e1, e2, W2, D2⟩ := dif_mx (lim := 600) (x := xx) HF306.out.st.ar.wf (by decide) (by have := HLn.out; have := HM.out; omega) HDf.out hb
                  have hxo : i64ok xx := ref_i64 (n := M.length) (by omega) hb
                  have hso := HDf.out.gs
                  have hto := HDf.out.gt
                  have HC1 := Lib.hid (fun wi g2 cap2 (h : St w wi b g2 bm cap2 600 (M)) => mixKey_any w b g2 bm cap2 600 (M) S xx wi h HSH.out (hso.okc (by omega)) hxo)
                  have HC2 := Lib.hid (fun wi g2 cap2 (h : St w wi b g2 bm cap2 600 (yL 600 M S.ck xx 2)) => mixKey_any w b g2 bm cap2 600 (yL 600 M S.ck xx 2) T xx wi h HSH.out (hto.okc (by omega)) hxo)
                  rw [e1] at HC1
                  rw [e2] at HC2
                  unfold syV at HC1 HC2
                  have HD2 := Lib.hid D2
                  have HL2 : Hid ((yL 600 (yL 600 M S.ck xx 2) T.ck xx 2).length ≤ 31 + 8 * (k + 1)) := Lib.hid (by have := HLn.out; have := W2.le; omega)
                  clear e1 e2 W2 D2 hxo hso hto hb
                  generalize mxS 600 (yL 600 M S.ck xx 2) T xx = T2 at *
                  generalize yL 600 (yL 600 M S.ck xx 2) T.ck xx 2 = M2 at *
                  generalize mxS 600 M S xx = S2 at *
                  generalize yL 600 M S.ck xx 2 = M1 at *
                  have cs0 : W312.cell? ⟨p30, 0, none⟩ = some (.int .i64 S.ck) := (cell_of_row _ _ 0 _ _ _ HX302.out).trans rfl
                  have cs1 : W312.cell? ⟨p30, 1, none⟩ = some (.int .i64 S.h) := (cell_of_row _ _ 1 _ _ _ HX302.out).trans rfl
                  have cs2 : W312.cell? ⟨p30, 2, none⟩ = some (.int .i64 S.c.k) := (cell_of_row _ _ 2 _ _ _ HX302.out).trans rfl
                  have cs3 : W312.cell? ⟨p30, 3, none⟩ = some (.bool S.c.h) := (cell_of_row _ _ 3 _ _ _ HX302.out).trans rfl
                  have cs4 : W312.cell? ⟨p30, 4, none⟩ = some (.int .u64 S.c.n) := (cell_of_row _ _ 4 _ _ _ HX302.out).trans rfl
                  have ls := lt_of_heap HX302.out
                  have fs : ∀ j, W312.frozen? ⟨p30, j, none⟩ = false := fun j => frozen_of_row _ _ _ _ _ HX302.out
                  have co0 : W312.cell? ⟨p313, 0, none⟩ = some (.int .i64 1) := (cell_of_row _ _ 0 _ _ _ HX304.out).trans rfl
                  have co1 : W312.cell? ⟨p313, 1, none⟩ = some (.int .i64 xx) := (cell_of_row _ _ 1 _ _ _ HX304.out).trans rfl
                  have lo := lt_of_heap HX304.out
                  have fo : ∀ j, W312.frozen? ⟨p313, j, none⟩ = false := fun j => frozen_of_row _ _ _ _ _ HX304.out
                  go_wp2_with fail
                  go_at_call 12
                  refine (HC1.out _ _ _ HF306.out.st).mono ?_
                  rintro e w6 ⟨g6, cap6, rfl, hA, hg, hk⟩
                  clear cs0 cs1 cs2 cs3 cs4 ls fs co0 co1 lo fo
                  have HX314 := Lib.hid (HF306.out.st.ar.boxKept hk HX302.out (by decide) (by decide))
                  have HX315 := Lib.hid (HF306.out.st.ar.boxKept hk HX303.out (by decide) (by decide))
                  have HX316 := Lib.hid (HF306.out.st.ar.boxKept hk HX304.out (by decide) (by decide))
                  have HF317 := Lib.hid (HF306.out.step hA hg hk)
                  clear HX302 HX303 HX304 HF306 hA hg hk HC1
                  have hne318 : p30 + 1 ≠ p30 := (by simp)
                  have hne319 : p313 ≠ p30 := box_ne HX316.out HX314.out (by decide)
                  have ct0 : w6.cell? ⟨p30 + 1, 0, none⟩ = some (.int .i64 T.ck) := (cell_of_row _ _ 0 _ _ _ HX315.out).trans rfl
                  have ct1 : w6.cell? ⟨p30 + 1, 1, none⟩ = some (.int .i64 T.h) := (cell_of_row _ _ 1 _ _ _ HX315.out).trans rfl
                  have ct2 : w6.cell? ⟨p30 + 1, 2, none⟩ = some (.int .i64 T.c.k) := (cell_of_row _ _ 2 _ _ _ HX315.out).trans rfl
                  have ct3 : w6.cell? ⟨p30 + 1, 3, none⟩ = some (.bool T.c.h) := (cell_of_row _ _ 3 _ _ _ HX315.out).trans rfl
                  have ct4 : w6.cell? ⟨p30 + 1, 4, none⟩ = some (.int .u64 T.c.n) := (cell_of_row _ _ 4 _ _ _ HX315.out).trans rfl
                  have lt := lt_of_heap HX315.out
                  have ft : ∀ j, w6.frozen? ⟨p30 + 1, j, none⟩ = false := fun j => frozen_of_row _ _ _ _ _ HX315.out
                  have co0 : w6.cell? ⟨p313, 0, none⟩ = some (.int .i64 1) := (cell_of_row _ _ 0 _ _ _ HX316.out).trans rfl
                  have co1 : w6.cell? ⟨p313, 1, none⟩ = some (.int .i64 xx) := (cell_of_row _ _ 1 _ _ _ HX316.out).trans rfl
                  have lo := lt_of_heap HX316.out
                  have fo : ∀ j, w6.frozen? ⟨p313, j, none⟩ = false := fun j => frozen_of_row _ _ _ _ _ HX316.out
                  have cs0 : w6.cell? ⟨p30, 0, none⟩ = some (.int .i64 S.ck) := (cell_of_row _ _ 0 _ _ _ HX314.out).trans rfl
                  have cs1 : w6.cell? ⟨p30, 1, none⟩ = some (.int .i64 S.h) := (cell_of_row _ _ 1 _ _ _ HX314.out).trans rfl
                  have cs2 : w6.cell? ⟨p30, 2, none⟩ = some (.int .i64 S.c.k) := (cell_of_row _ _ 2 _ _ _ HX314.out).trans rfl
                  have cs3 : w6.cell? ⟨p30, 3, none⟩ = some (.bool S.c.h) := (cell_of_row _ _ 3 _ _ _ HX314.out).trans rfl
                  have cs4 : w6.cell? ⟨p30, 4, none⟩ = some (.int .u64 S.c.n) := (cell_of_row _ _ 4 _ _ _ HX314.out).trans rfl
                  have ls := lt_of_heap HX314.out
                  have fs : ∀ j, w6.frozen? ⟨p30, j, none⟩ = false := fun j => frozen_of_row _ _ _ _ _ HX314.out
                  have hf := HF317.out.farp HX314.out (by decide) (by decide)
                  have HX320 := Lib.hid (set5_box HX314.out (.int .i64 S2.ck) (.int .i64 S2.h) (.int .i64 S2.c.k) (.bool S2.c.h) (.int .u64 S2.c.n))
                  have HX321 := Lib.hid (set5_far hne318 HX315.out (.int .i64 S2.ck) (.int .i64 S2.h) (.int .i64 S2.c.k) (.bool S2.c.h) (.int .u64 S2.c.n))
                  have HX322 := Lib.hid (set5_far hne319 HX316.out (.int .i64 S2.ck) (.int .i64 S2.h) (.int .i64 S2.c.k) (.bool S2.c.h) (.int .u64 S2.c.n))
                  have HF323 := Lib.hid ((((((HF317.out.setp (j := 0) hf (by have := HL24.out; omega) (.int .i64 S2.ck)).setp (j := 1) hf (by have := HL24.out; omega) (.int .i64 S2.h)).setp (j := 2) hf (by have := HL24.out; omega) (.int .i64 S2.c.k)).setp (j := 3) hf (by have := HL24.out; omega) (.bool S2.c.h)).setp (j := 4) hf (by have := HL24.out; omega) (.int .u64 S2.c.n)))
                  clear hf HX314 HX315 HX316 HF317
                  go_wp2_with fail
                  clear ct0 ct1 ct2 ct3 ct4 lt ft co0 co1 lo fo cs0 cs1 cs2 cs3 cs4 ls fs
                  clear hne318 hne319
                  generalize (((((w6.setCell ⟨p30, 0, none⟩ (.int .i64 S2.ck)).setCell ⟨p30, 1, none⟩ (.int .i64 S2.h)).setCell ⟨p30, 2, none⟩ (.int .i64 S2.c.k)).setCell ⟨p30, 3, none⟩ (.bool S2.c.h)).setCell ⟨p30, 4, none⟩ (.int .u64 S2.c.n)) = W324 at *
                  go_at_call 12
                  refine (HC2.out _ _ _ HF323.out.st).mono ?_
                  rintro e w7 ⟨g7, cap7, rfl, hA, hg, hk⟩
                  have HX325 := Lib.hid (HF323.out.st.ar.boxKept hk HX320.out (by decide) (by decide))
                  have HX326 := Lib.hid (HF323.out.st.ar.boxKept hk HX321.out (by decide) (by decide))
                  have HX327 := Lib.hid (HF323.out.st.ar.boxKept hk HX322.out (by decide) (by decide))
                  have HF328 := Lib.hid (HF323.out.step hA hg hk)
                  clear HX320 HX321 HX322 HF323 hA hg hk HC2
                  have hne1 : (S2.ck == T2.ck) = false := by have := HD2.out.ck; simpa using this
                  have hne2 : (S2.h == T2.h) = false := by have := HD2.out.h; simpa using this
                  have hkk := dif_key HD2.out
                  obtain ⟨a1, a2, ⟨a3, hh, a4⟩⟩ := S2
                  simp only at hne1 hne2 hkk
                  cases hh
                  · clear hkk
                    have hne329 : p30 ≠ p30 + 1 := (by simp)
                    have hne330 : p313 ≠ p30 + 1 := box_ne HX327.out HX326.out (by decide)
                    have cs0 : w7.cell? ⟨p30, 0, none⟩ = some (.int .i64 a1) := (cell_of_row _ _ 0 _ _ _ HX325.out).trans rfl
                    have cs1 : w7.cell? ⟨p30, 1, none⟩ = some (.int .i64 a2) := (cell_of_row _ _ 1 _ _ _ HX325.out).trans rfl
                    have cs2 : w7.cell? ⟨p30, 2, none⟩ = some (.int .i64 a3) := (cell_of_row _ _ 2 _ _ _ HX325.out).trans rfl
                    have cs3 : w7.cell? ⟨p30, 3, none⟩ = some (.bool false) := (cell_of_row _ _ 3 _ _ _ HX325.out).trans rfl
                    have cs4 : w7.cell? ⟨p30, 4, none⟩ = some (.int .u64 a4) := (cell_of_row _ _ 4 _ _ _ HX325.out).trans rfl
                    have ls := lt_of_heap HX325.out
                    have fs : ∀ j, w7.frozen? ⟨p30, j, none⟩ = false := fun j => frozen_of_row _ _ _ _ _ HX325.out
                    have ct0 : w7.cell? ⟨p30 + 1, 0, none⟩ = some (.int .i64 T.ck) := (cell_of_row _ _ 0 _ _ _ HX326.out).trans rfl
                    have ct1 : w7.cell? ⟨p30 + 1, 1, none⟩ = some (.int .i64 T.h) := (cell_of_row _ _ 1 _ _ _ HX326.out).trans rfl
                    have ct2 : w7.cell? ⟨p30 + 1, 2, none⟩ = some (.int .i64 T.c.k) := (cell_of_row _ _ 2 _ _ _ HX326.out).trans rfl
                    have ct3 : w7.cell? ⟨p30 + 1, 3, none⟩ = some (.bool T.c.h) := (cell_of_row _ _ 3 _ _ _ HX326.out).trans rfl
                    have ct4 : w7.cell? ⟨p30 + 1, 4, none⟩ = some (.int .u64 T.c.n) := (cell_of_row _ _ 4 _ _ _ HX326.out).trans rfl
                    have lt := lt_of_heap HX326.out
                    have ft : ∀ j, w7.frozen? ⟨p30 + 1, j, none⟩ = false := fun j => frozen_of_row _ _ _ _ _ HX326.out
                    have hf := HF328.out.farp HX326.out (by decide) (by decide)
                    have HX331 := Lib.hid (set5_far hne329 HX325.out (.int .i64 T2.ck) (.int .i64 T2.h) (.int .i64 T2.c.k) (.bool T2.c.h) (.int .u64 T2.c.n))
                    have HX332 := Lib.hid (set5_box HX326.out (.int .i64 T2.ck) (.int .i64 T2.h) (.int .i64 T2.c.k) (.bool T2.c.h) (.int .u64 T2.c.n))
                    have HX333 := Lib.hid (set5_far hne330 HX327.out (.int .i64 T2.ck) (.int .i64 T2.h) (.int .i64 T2.c.k) (.bool T2.c.h) (.int .u64 T2.c.n))
                    have HF334 := Lib.hid ((((((HF328.out.setp (j := 0) hf (by have := HL24.out; omega) (.int .i64 T2.ck)).setp (j := 1) hf (by have := HL24.out; omega) (.int .i64 T2.h)).setp (j := 2) hf (by have := HL24.out; omega) (.int .i64 T2.c.k)).setp (j := 3) hf (by have := HL24.out; omega) (.bool T2.c.h)).setp (j := 4) hf (by have := HL24.out; omega) (.int .u64 T2.c.n)))
                    clear hf HX325 HX326 HX327 HF328
                    go_wp2_with fail
                    clear cs0 cs1 cs2 cs3 cs4 ls fs ct0 ct1 ct2 ct3 ct4 lt ft
                    clear hne329 hne330
                    go_roundg (os.length - (k + 1))
                    case rel => exact ⟨k + 1, by omega, by go_num, _, _, _, _, _, HF334.out, HL2.out, HD2.out, HX331.out, HX332.out⟩
                    case measure => omega
                  · have hne3 : (a3 == T2.c.k) = false := hkk rfl
                    clear hkk
                    have hne329 : p30 ≠ p30 + 1 := (by simp)
                    have hne330 : p313 ≠ p30 + 1 := box_ne HX327.out HX326.out (by decide)
                    have cs0 : w7.cell? ⟨p30, 0, none⟩ = some (.int .i64 a1) := (cell_of_row _ _ 0 _ _ _ HX325.out).trans rfl
                    have cs1 : w7.cell? ⟨p30, 1, none⟩ = some (.int .i64 a2) := (cell_of_row _ _ 1 _ _ _ HX325.out).trans rfl
                    have cs2 : w7.cell? ⟨p30, 2, none⟩ = some (.int .i64 a3) := (cell_of_row _ _ 2 _ _ _ HX325.out).trans rfl
                    have cs3 : w7.cell? ⟨p30, 3, none⟩ = some (.bool true) := (cell_of_row _ _ 3 _ _ _ HX325.out).trans rfl
                    have cs4 : w7.cell? ⟨p30, 4, none⟩ = some (.int .u64 a4) := (cell_of_row _ _ 4 _ _ _ HX325.out).trans rfl
                    have ls := lt_of_heap HX325.out
                    have fs : ∀ j, w7.frozen? ⟨p30, j, none⟩ = false := fun j => frozen_of_row _ _ _ _ _ HX325.out
                    have ct0 : w7.cell? ⟨p30 + 1, 0, none⟩ = some (.int .i64 T.ck) := (cell_of_row _ _ 0 _ _ _ HX326.out).trans rfl
                    have ct1 : w7.cell? ⟨p30 + 1, 1, none⟩ = some (.int .i64 T.h) := (cell_of_row _ _ 1 _ _ _ HX326.out).trans rfl
                    have ct2 : w7.cell? ⟨p30 + 1, 2, none⟩ = some (.int .i64 T.c.k) := (cell_of_row _ _ 2 _ _ _ HX326.out).trans rfl
                    have ct3 : w7.cell? ⟨p30 + 1, 3, none⟩ = some (.bool T.c.h) := (cell_of_row _ _ 3 _ _ _ HX326.out).trans rfl
                    have ct4 : w7.cell? ⟨p30 + 1, 4, none⟩ = some (.int .u64 T.c.n) := (cell_of_row _ _ 4 _ _ _ HX326.out).trans rfl
                    have lt := lt_of_heap HX326.out
                    have ft : ∀ j, w7.frozen? ⟨p30 + 1, j, none⟩ = false := fun j => frozen_of_row _ _ _ _ _ HX326.out
                    have hf := HF328.out.farp HX326.out (by decide) (by decide)
                    have HX331 := Lib.hid (set5_far hne329 HX325.out (.int .i64 T2.ck) (.int .i64 T2.h) (.int .i64 T2.c.k) (.bool T2.c.h) (.int .u64 T2.c.n))
                    have HX332 := Lib.hid (set5_box HX326.out (.int .i64 T2.ck) (.int .i64 T2.h) (.int .i64 T2.c.k) (.bool T2.c.h) (.int .u64 T2.c.n))
                    have HX333 := Lib.hid (set5_far hne330 HX327.out (.int .i64 T2.ck) (.int .i64 T2.h) (.int .i64 T2.c.k) (.bool T2.c.h) (.int .u64 T2.c.n))
                    have HF334 := Lib.hid ((((((HF328.out.setp (j := 0) hf (by have := HL24.out; omega) (.int .i64 T2.ck)).setp (j := 1) hf (by have := HL24.out; omega) (.int .i64 T2.h)).setp (j := 2) hf (by have := HL24.out; omega) (.int .i64 T2.c.k)).setp (j := 3) hf (by have := HL24.out; omega) (.bool T2.c.h)).setp (j := 4) hf (by have := HL24.out; omega) (.int .u64 T2.c.n)))
                    clear hf HX325 HX326 HX327 HF328
                    go_wp2_with fail
                    clear cs0 cs1 cs2 cs3 cs4 ls fs ct0 ct1 ct2 ct3 ct4 lt ft
                    clear hne329 hne330
                    go_roundg (os.length - (k + 1))
                    case rel => exact ⟨k + 1, by omega, by go_num, _, _, _, _, _, HF334.out, HL2.out, HD2.out, HX331.out, HX332.out⟩
                    case measure => omega
                · obtain ⟨e1, e2, W2, D2⟩ := dif_mb (lim := 600) (x := xx) HF306.out.st.ar.wf (by decide) (by have := HLn.out; have := HM.out; omega) HDf.out hb
                  have hxo : i64ok xx := ref_i64 (n := M.length) (by omega) hb
                  have hso := HDf.out.gs
                  have hto := HDf.out.gt
                  have HC1 := Lib.hid (fun wi g2 cap2 (h : St w wi b g2 bm cap2 600 (M)) => mixBoth_any w b g2 bm cap2 600 (M) S xx wi h HSH.out ⟨hso.okc (by omega), hso.okh (by omega), hso.ko, hso.n⟩ hxo)
                  have HC2 := Lib.hid (fun wi g2 cap2 (h : St w wi b g2 bm cap2 600 (mbL 600 M S xx)) => mixBoth_any w b g2 bm cap2 600 (mbL 600 M S xx) T xx wi h HSH.out ⟨hto.okc (by omega), hto.okh (by omega), hto.ko, hto.n⟩ hxo)
                  rw [e1] at HC1
                  rw [e2] at HC2
                  unfold syV at HC1 HC2
                  have HD2 := Lib.hid D2
                  have HL2 : Hid ((mbL 600 (mbL 600 M S xx) T xx).length ≤ 31 + 8 * (k + 1)) := Lib.hid (by have := HLn.out; have := W2.le; omega)
                  clear e1 e2 W2 D2 hxo hso hto hb
                  generalize mbS 600 (mbL 600 M S xx) T xx = T2 at *
                  generalize mbL 600 (mbL 600 M S xx) T xx = M2 at *
                  generalize mbS 600 M S xx = S2 at *
                  generalize mbL 600 M S xx = M1 at *
                  have cs0 : W312.cell? ⟨p30, 0, none⟩ = some (.int .i64 S.ck) := (cell_of_row _ _ 0 _ _ _ HX302.out).trans rfl
                  have cs1 : W312.cell? ⟨p30, 1, none⟩ = some (.int .i64 S.h) := (cell_of_row _ _ 1 _ _ _ HX302.out).trans rfl
                  have cs2 : W312.cell? ⟨p30, 2, none⟩ = some (.int .i64 S.c.k) := (cell_of_row _ _ 2 _ _ _ HX302.out).trans rfl
                  have cs3 : W312.cell? ⟨p30, 3, none⟩ = some (.bool S.c.h) := (cell_of_row _ _ 3 _ _ _ HX302.out).trans rfl
                  have cs4 : W312.cell? ⟨p30, 4, none⟩ = some (.int .u64 S.c.n) := (cell_of_row _ _ 4 _ _ _ HX302.out).trans rfl
                  have ls := lt_of_heap HX302.out
                  have fs : ∀ j, W312.frozen? ⟨p30, j, none⟩ = false := fun j => frozen_of_row _ _ _ _ _ HX302.out
                  have co0 : W312.cell? ⟨p313, 0, none⟩ = some (.int .i64 2) := (cell_of_row _ _ 0 _ _ _ HX304.out).trans rfl
                  have co1 : W312.cell? ⟨p313, 1, none⟩ = some (.int .i64 xx) := (cell_of_row _ _ 1 _ _ _ HX304.out).trans rfl
                  have lo := lt_of_heap HX304.out
                  have fo : ∀ j, W312.frozen? ⟨p313, j, none⟩ = false := fun j => frozen_of_row _ _ _ _ _ HX304.out
                  go_wp2_with fail
                  go_at_call 13
                  refine (HC1.out _ _ _ HF306.out.st).mono ?_
                  rintro e w6 ⟨g6, cap6, rfl, hA, hg, hk⟩
                  clear cs0 cs1 cs2 cs3 cs4 ls fs co0 co1 lo fo
                  have HX314 := Lib.hid (HF306.out.st.ar.boxKept hk HX302.out (by decide) (by decide))
                  have HX315 := Lib.hid (HF306.out.st.ar.boxKept hk HX303.out (by decide) (by decide))
                  have HX316 := Lib.hid (HF306.out.st.ar.boxKept hk HX304.out (by decide) (by decide))
                  have HF317 := Lib.hid (HF306.out.step hA hg hk)
                  clear HX302 HX303 HX304 HF306 hA hg hk HC1
                  have hne318 : p30 + 1 ≠ p30 := (by simp)
                  have hne319 : p313 ≠ p30 := box_ne HX316.out HX314.out (by decide)
                  have ct0 : w6.cell? ⟨p30 + 1, 0, none⟩ = some (.int .i64 T.ck) := (cell_of_row _ _ 0 _ _ _ HX315.out).trans rfl
                  have ct1 : w6.cell? ⟨p30 + 1, 1, none⟩ = some (.int .i64 T.h) := (cell_of_row _ _ 1 _ _ _ HX315.out).trans rfl
                  have ct2 : w6.cell? ⟨p30 + 1, 2, none⟩ = some (.int .i64 T.c.k) := (cell_of_row _ _ 2 _ _ _ HX315.out).trans rfl
                  have ct3 : w6.cell? ⟨p30 + 1, 3, none⟩ = some (.bool T.c.h) := (cell_of_row _ _ 3 _ _ _ HX315.out).trans rfl
                  have ct4 : w6.cell? ⟨p30 + 1, 4, none⟩ = some (.int .u64 T.c.n) := (cell_of_row _ _ 4 _ _ _ HX315.out).trans rfl
                  have lt := lt_of_heap HX315.out
                  have ft : ∀ j, w6.frozen? ⟨p30 + 1, j, none⟩ = false := fun j => frozen_of_row _ _ _ _ _ HX315.out
                  have co0 : w6.cell? ⟨p313, 0, none⟩ = some (.int .i64 2) := (cell_of_row _ _ 0 _ _ _ HX316.out).trans rfl
                  have co1 : w6.cell? ⟨p313, 1, none⟩ = some (.int .i64 xx) := (cell_of_row _ _ 1 _ _ _ HX316.out).trans rfl
                  have lo := lt_of_heap HX316.out
                  have fo : ∀ j, w6.frozen? ⟨p313, j, none⟩ = false := fun j => frozen_of_row _ _ _ _ _ HX316.out
                  have cs0 : w6.cell? ⟨p30, 0, none⟩ = some (.int .i64 S.ck) := (cell_of_row _ _ 0 _ _ _ HX314.out).trans rfl
                  have cs1 : w6.cell? ⟨p30, 1, none⟩ = some (.int .i64 S.h) := (cell_of_row _ _ 1 _ _ _ HX314.out).trans rfl
                  have cs2 : w6.cell? ⟨p30, 2, none⟩ = some (.int .i64 S.c.k) := (cell_of_row _ _ 2 _ _ _ HX314.out).trans rfl
                  have cs3 : w6.cell? ⟨p30, 3, none⟩ = some (.bool S.c.h) := (cell_of_row _ _ 3 _ _ _ HX314.out).trans rfl
                  have cs4 : w6.cell? ⟨p30, 4, none⟩ = some (.int .u64 S.c.n) := (cell_of_row _ _ 4 _ _ _ HX314.out).trans rfl
                  have ls := lt_of_heap HX314.out
                  have fs : ∀ j, w6.frozen? ⟨p30, j, none⟩ = false := fun j => frozen_of_row _ _ _ _ _ HX314.out
                  have hf := HF317.out.farp HX314.out (by decide) (by decide)
                  have HX320 := Lib.hid (set5_box HX314.out (.int .i64 S2.ck) (.int .i64 S2.h) (.int .i64 S2.c.k) (.bool S2.c.h) (.int .u64 S2.c.n))
                  have HX321 := Lib.hid (set5_far hne318 HX315.out (.int .i64 S2.ck) (.int .i64 S2.h) (.int .i64 S2.c.k) (.bool S2.c.h) (.int .u64 S2.c.n))
                  have HX322 := Lib.hid (set5_far hne319 HX316.out (.int .i64 S2.ck) (.int .i64 S2.h) (.int .i64 S2.c.k) (.bool S2.c.h) (.int .u64 S2.c.n))
                  have HF323 := Lib.hid ((((((HF317.out.setp (j := 0) hf (by have := HL24.out; omega) (.int .i64 S2.ck)).setp (j := 1) hf (by have := HL24.out; omega) (.int .i64 S2.h)).setp (j := 2) hf (by have := HL24.out; omega) (.int .i64 S2.c.k)).setp (j := 3) hf (by have := HL24.out; omega) (.bool S2.c.h)).setp (j := 4) hf (by have := HL24.out; omega) (.int .u64 S2.c.n)))
                  clear hf HX314 HX315 HX316 HF317
                  go_wp2_with fail
                  clear ct0 ct1 ct2 ct3 ct4 lt ft co0 co1 lo fo cs0 cs1 cs2 cs3 cs4 ls fs
                  clear hne318 hne319
                  generalize (((((w6.setCell ⟨p30, 0, none⟩ (.int .i64 S2.ck)).setCell ⟨p30, 1, none⟩ (.int .i64 S2.h)).setCell ⟨p30, 2, none⟩ (.int .i64 S2.c.k)).setCell ⟨p30, 3, none⟩ (.bool S2.c.h)).setCell ⟨p30, 4, none⟩ (.int .u64 S2.c.n)) = W324 at *
                  go_at_call 13
                  refine (HC2.out _ _ _ HF323.out.st).mono ?_
                  rintro e w7 ⟨g7, cap7, rfl, hA, hg, hk⟩
                  have HX325 := Lib.hid (HF323.out.st.ar.boxKept hk HX320.out (by decide) (by decide))
                  have HX326 := Lib.hid (HF323.out.st.ar.boxKept hk HX321.out (by decide) (by decide))
                  have HX327 := Lib.hid (HF323.out.st.ar.boxKept hk HX322.out (by decide) (by decide))
                  have HF328 := Lib.hid (HF323.out.step hA hg hk)
                  clear HX320 HX321 HX322 HF323 hA hg hk HC2
                  have hne1 : (S2.ck == T2.ck) = false := by have := HD2.out.ck; simpa using this
                  have hne2 : (S2.h == T2.h) = false := by have := HD2.out.h; simpa using this
                  have hkk := dif_key HD2.out
                  obtain ⟨a1, a2, ⟨a3, hh, a4⟩⟩ := S2
                  simp only at hne1 hne2 hkk
                  cases hh
                  · clear hkk
                    have hne329 : p30 ≠ p30 + 1 := (by simp)
                    have hne330 : p313 ≠ p30 + 1 := box_ne HX327.out HX326.out (by decide)
                    have cs0 : w7.cell? ⟨p30, 0, none⟩ = some (.int .i64 a1) := (cell_of_row _ _ 0 _ _ _ HX325.out).trans rfl
                    have cs1 : w7.cell? ⟨p30, 1, none⟩ = some (.int .i64 a2) := (cell_of_row _ _ 1 _ _ _ HX325.out).trans rfl
                    have cs2 : w7.cell? ⟨p30, 2, none⟩ = some (.int .i64 a3) := (cell_of_row _ _ 2 _ _ _ HX325.out).trans rfl
                    have cs3 : w7.cell? ⟨p30, 3, none⟩ = some (.bool false) := (cell_of_row _ _ 3 _ _ _ HX325.out).trans rfl
                    have cs4 : w7.cell? ⟨p30, 4, none⟩ = some (.int .u64 a4) := (cell_of_row _ _ 4 _ _ _ HX325.out).trans rfl
                    have ls := lt_of_heap HX325.out
                    have fs : ∀ j, w7.frozen? ⟨p30, j, none⟩ = false := fun j => frozen_of_row _ _ _ _ _ HX325.out
                    have ct0 : w7.cell? ⟨p30 + 1, 0, none⟩ = some (.int .i64 T.ck) := (cell_of_row _ _ 0 _ _ _ HX326.out).trans rfl
                    have ct1 : w7.cell? ⟨p30 + 1, 1, none⟩ = some (.int .i64 T.h) := (cell_of_row _ _ 1 _ _ _ HX326.out).trans rfl
                    have ct2 : w7.cell? ⟨p30 + 1, 2, none⟩ = some (.int .i64 T.c.k) := (cell_of_row _ _ 2 _ _ _ HX326.out).trans rfl
                    have ct3 : w7.cell? ⟨p30 + 1, 3, none⟩ = some (.bool T.c.h) := (cell_of_row _ _ 3 _ _ _ HX326.out).trans rfl
                    have ct4 : w7.cell? ⟨p30 + 1, 4, none⟩ = some (.int .u64 T.c.n) := (cell_of_row _ _ 4 _ _ _ HX326.out).trans rfl
                    have lt := lt_of_heap HX326.out
                    have ft : ∀ j, w7.frozen? ⟨p30 + 1, j, none⟩ = false := fun j => frozen_of_row _ _ _ _ _ HX326.out
                    have hf := HF328.out.farp HX326.out (by decide) (by decide)
                    have HX331 := Lib.hid (set5_far hne329 HX325.out (.int .i64 T2.ck) (.int .i64 T2.h) (.int .i64 T2.c.k) (.bool T2.c.h) (.int .u64 T2.c.n))
                    have HX332 := Lib.hid (set5_box HX326.out (.int .i64 T2.ck) (.int .i64 T2.h) (.int .i64 T2.c.k) (.bool T2.c.h) (.int .u64 T2.c.n))
                    have HX333 := Lib.hid (set5_far hne330 HX327.out (.int .i64 T2.ck) (.int .i64 T2.h) (.int .i64 T2.c.k) (.bool T2.c.h) (.int .u64 T2.c.n))
                    have HF334 := Lib.hid ((((((HF328.out.setp (j := 0) hf (by have := HL24.out; omega) (.int .i64 T2.ck)).setp (j := 1) hf (by have := HL24.out; omega) (.int .i64 T2.h)).setp (j := 2) hf (by have := HL24.out; omega) (.int .i64 T2.c.k)).setp (j := 3) hf (by have := HL24.out; omega) (.bool T2.c.h)).setp (j := 4) hf (by have := HL24.out; omega) (.int .u64 T2.c.n)))
                    clear hf HX325 HX326 HX327 HF328
                    go_wp2_with fail
                    clear cs0 cs1 cs2 cs3 cs4 ls fs ct0 ct1 ct2 ct3 ct4 lt ft
                    clear hne329 hne330
                    go_roundg (os.length - (k + 1))
                    case rel => exact ⟨k + 1, by omega, by go_num, _, _, _, _, _, HF334.out, HL2.out, HD2.out, HX331.out, HX332.out⟩
                    case measure => omega
                  · have hne3 : (a3 == T2.c.k) = false := hkk rfl
                    clear hkk
                    have hne329 : p30 ≠ p30 + 1 := (by simp)
                    have hne330 : p313 ≠ p30 + 1 := box_ne HX327.out HX326.out (by decide)
                    have cs0 : w7.cell? ⟨p30, 0, none⟩ = some (.int .i64 a1) := (cell_of_row _ _ 0 _ _ _ HX325.out).trans rfl
                    have cs1 : w7.cell? ⟨p30, 1, none⟩ = some (.int .i64 a2) := (cell_of_row _ _ 1 _ _ _ HX325.out).trans rfl
                    have cs2 : w7.cell? ⟨p30, 2, none⟩ = some (.int .i64 a3) := (cell_of_row _ _ 2 _ _ _ HX325.out).trans rfl
                    have cs3 : w7.cell? ⟨p30, 3, none⟩ = some (.bool true) := (cell_of_row _ _ 3 _ _ _ HX325.out).trans rfl
                    have cs4 : w7.cell? ⟨p30, 4, none⟩ = some (.int .u64 a4) := (cell_of_row _ _ 4 _ _ _ HX325.out).trans rfl
                    have ls := lt_of_heap HX325.out
                    have fs : ∀ j, w7.frozen? ⟨p30, j, none⟩ = false := fun j => frozen_of_row _ _ _ _ _ HX325.out
                    have ct0 : w7.cell? ⟨p30 + 1, 0, none⟩ = some (.int .i64 T.ck) := (cell_of_row _ _ 0 _ _ _ HX326.out).trans rfl
                    have ct1 : w7.cell? ⟨p30 + 1, 1, none⟩ = some (.int .i64 T.h) := (cell_of_row _ _ 1 _ _ _ HX326.out).trans rfl
                    have ct2 : w7.cell? ⟨p30 + 1, 2, none⟩ = some (.int .i64 T.c.k) := (cell_of_row _ _ 2 _ _ _ HX326.out).trans rfl
                    have ct3 : w7.cell? ⟨p30 + 1, 3, none⟩ = some (.bool T.c.h) := (cell_of_row _ _ 3 _ _ _ HX326.out).trans rfl
                    have ct4 : w7.cell? ⟨p30 + 1, 4, none⟩ = some (.int .u64 T.c.n) := (cell_of_row _ _ 4 _ _ _ HX326.out).trans rfl
                    have lt := lt_of_heap HX326.out
                    have ft : ∀ j, w7.frozen? ⟨p30 + 1, j, none⟩ = false := fun j => frozen_of_row _ _ _ _ _ HX326.out
                    have hf := HF328.out.farp HX326.out (by decide) (by decide)
                    have HX331 := Lib.hid (set5_far hne329 HX325.out (.int .i64 T2.ck) (.int .i64 T2.h) (.int .i64 T2.c.k) (.bool T2.c.h) (.int .u64 T2.c.n))
                    have HX332 := Lib.hid (set5_box HX326.out (.int .i64 T2.ck) (.int .i64 T2.h) (.int .i64 T2.c.k) (.bool T2.c.h) (.int .u64 T2.c.n))
                    have HX333 := Lib.hid (set5_far hne330 HX327.out (.int .i64 T2.ck) (.int .i64 T2.h) (.int .i64 T2.c.k) (.bool T2.c.h) (.int .u64 T2.c.n))
                    have HF334 := Lib.hid ((((((HF328.out.setp (j := 0) hf (by have := HL24.out; omega) (.int .i64 T2.ck)).setp (j := 1) hf (by have := HL24.out; omega) (.int .i64 T2.h)).setp (j := 2) hf (by have := HL24.out; omega) (.int .i64 T2.c.k)).setp (j := 3) hf (by have := HL24.out; omega) (.bool T2.c.h)).setp (j := 4) hf (by have := HL24.out; omega) (.int .u64 T2.c.n)))
                    clear hf HX325 HX326 HX327 HF328
                    go_wp2_with fail
                    clear cs0 cs1 cs2 cs3 cs4 ls fs ct0 ct1 ct2 ct3 ct4 lt ft
                    clear hne329 hne330
                    go_roundg (os.length - (k + 1))
                    case rel => exact ⟨k + 1, by omega, by go_num, _, _, _, _, _, HF334.out, HL2.out, HD2.out, HX331.out, HX332.out⟩
                    case measure => omega
        · obtain rfl : k = os.length := by omega
          have hlt' : ¬ (os.length : Int) < os.length := by omega
          have HA9 := Lib.hid (HAw.out _ HFr.out.st.bel)
          go_wp2_with fail
          go_at_call 7
          refine HA9.out.mono ?_
          rintro e w9 ⟨rfl, hb9⟩
          go_wp2_with fail
          go_ret
          exact ⟨rfl, (HFr.out.st.keep hb9).bel⟩
end Go.Proofs.YtgjhhipkfglpgaaDoor
