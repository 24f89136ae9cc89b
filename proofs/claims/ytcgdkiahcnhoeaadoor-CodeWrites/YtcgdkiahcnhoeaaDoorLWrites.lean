/- The walk of CodeWrites: the rows, and the text, of any ref are the document's. -/
import Derived.Test.YtcgdkiahcnhoeaaDoorTc
import Derived.Test.YtcgdkiahcnhoeaaDoorLApart
namespace Go.Proofs.YtcgdkiahcnhoeaaDoor
open Go.RowKit Go.Maps Go.Shelf

set_option maxRecDepth 100000 in
set_option maxHeartbeats 1000000 in
theorem writes_long (s : Option Addr) (n c : Nat) (hn : 40 < n) (_hm : n ≤ maxLen) (x : Int) (_hx : i64ok x) (w : World) (hE : Env w) :
    Calls Tryd.prog 3 #[.slice s n c, .int .i64 x] w fun e w' => e = .returned (.bool true) ∧ Below w.heap.size w w' := by
  have HA := Lib.hid (awake_any w hE)
  have hn1 : (40 : Int) < (n : Int) := by omega
  clear hE
  go_enter Tryd.func3, Tryd.ntmps3
  go_wp2_with (go_at_call 9; refine HA.out.mono ?_; rintro e w2 ⟨rfl, hb2⟩)
  go_ret
  exact ⟨rfl, hb2⟩

set_option maxRecDepth 100000 in
set_option maxHeartbeats 2000000 in
theorem writes_good (s : Option Addr) (c : Nat) (ns : List Nd) (hn : ns.length ≤ 40) (x : Int) (hx : i64ok x) (w : World) (hE : Env w) (hB : BuiltAt w (.slice s ns.length c) ns) :
    Calls Tryd.prog 3 #[.slice s ns.length c, .int .i64 x] w fun e w' => e = .returned (.bool true) ∧ Below w.heap.size w w' := by
  have HB := Lib.hid (built_at hB (lim := 100) (by decide) (Below.refl _ _))
  have HAW : Hid (∀ w1, Below w.heap.size w w1 → Calls Tryd.prog 9 #[] w1 fun e w' => e = .returned (.bool true) ∧ Below w1.heap.size w1 w') := Lib.hid (fun w1 h => awake_any w1 (hE.below h))
  have hn1 : decide ((40 : Int) < (ns.length : Int)) = false := by simp; omega
  have hn2 : ¬ (40 : Int) < (ns.length : Int) := by omega
  unfold BuiltPost at HB
  obtain ⟨L, hL⟩ : ∃ L, L = bld 100 ns := ⟨_, rfl⟩
  rw [← hL] at HB
  have HRO : Hid (∀ w1 b g bm cap, St w w1 b g bm cap 100 L → Calls Tryd.prog 11 #[.pointer (some ⟨b, 0, none⟩), .int .i64 x] w1 fun e w' => ∃ v, e = .returned v ∧ w'.ownsRow w1.heap.size 3 1 v (rows L x).length ((rows L x).map (Value.int .i64)) ∧ Below w1.heap.size w1 w') := Lib.hid (fun w1 b g bm cap h => rowsF_any x hx w1 (hE.below h.bel) h.ar)
  have HSZ : Hid (∀ w1 b g bm cap, St w w1 b g bm cap 100 L → Calls Tryd.prog 13 #[.pointer (some ⟨b, 0, none⟩), .int .i64 x] w1 fun e w' => e = .returned (.int .i64 (rows L x).length) ∧ Below w1.heap.size w1 w') := Lib.hid (fun w1 b g bm cap h => sizeF_any x hx w1 (hE.below h.bel) h.ar)
  have HWR : Hid (∀ w1 b g bm cap, St w w1 b g bm cap 100 L → Calls Tryd.prog 14 #[.pointer (some ⟨b, 0, none⟩), .int .i64 x] w1 fun e w' => e = .returned (.string ⟨(txt L x).toArray⟩) ∧ Below w1.heap.size w1 w') := Lib.hid (fun w1 b g bm cap h => write_any x hx w1 (hE.below h.bel) h.ar)
  have HHA : Hid (∀ w1 gr capr, Calls Tryd.prog 12 #[.agg #[.int .i64 100, .slice (some ⟨gr, 0, none⟩) L.length capr], .int .i64 x] w1 fun e w' => e = .returned (.bool (hasB L.length x)) ∧ Below w1.heap.size w1 w') := Lib.hid (fun w1 gr capr => (refHas_any _ _ _ _ x w1).mono fun e w' h => ⟨h.1, by rw [← h.2]; exact (Below.refl _ _).alloc (Nat.le_refl _) _⟩)
  clear hE hB hL
  obtain ⟨R, hR⟩ : ∃ R, R = rows L x := ⟨_, rfl⟩
  rw [← hR] at HRO HSZ
  by_cases hh : hasB L.length x = true
  · have HH := Lib.hid hh
    -- the reference's answers, in whatever later world
    have HR2 : Hid (∀ w1 b g bm cap gr capr W, Pair w w1 b g bm cap gr capr 100 L → Below w1.heap.size w1 W → Calls Tryd.prog 15 #[.agg #[.int .i64 100, .slice (some ⟨gr, 0, none⟩) L.length capr], .slice none 0 0, .int .i64 x] W fun e w' => ∃ v, e = .returned v ∧ w'.ownsRow W.heap.size 3 1 v R.length (R.map (Value.int .i64)) ∧ Below W.heap.size W w') := Lib.hid (fun w1 b g bm cap gr capr W hP hW => by
      refine (refRows_any hP.st.ar.wf hP.st.ar.small 100 gr capr W.heap.size (by have := hW.size; have := hP.lt; omega) (x.toNat + 1) x [] (.slice none 0 0) W (by omega) hh (Acc.nil L) (hP.row.keep (hW.block gr hP.lt)) (Nat.le_refl _) (World.ownsRow_nil _ _ _ _)).mono ?_
      rintro e w' ⟨v, rfl, ho, hf⟩
      rw [hR]
      exact ⟨v, rfl, ho, hf.below (Nat.le_refl _) (fun k e => by simp [Value.ownBlock] at e)⟩)
    have HW2 : Hid (∀ w1 b g bm cap gr capr W, Pair w w1 b g bm cap gr capr 100 L → Below w1.heap.size w1 W → Calls Tryd.prog 16 #[.agg #[.int .i64 100, .slice (some ⟨gr, 0, none⟩) L.length capr], .int .i64 x] W fun e w' => e = .returned (.string ⟨(txt L x).toArray⟩) ∧ Below W.heap.size W w') := Lib.hid (fun w1 b g bm cap gr capr W hP hW => refWrite_any hP.st.ar.wf hP.st.ar.small 100 gr capr x hh W (hP.row.keep (hW.block gr hP.lt)) (by have := hW.size; have := hP.lt; omega))
    have HRL : Hid (∀ w1 b g bm cap, St w w1 b g bm cap 100 L → R.length ≤ 65536) := Lib.hid (fun w1 b g bm cap h => by rw [hR]; exact Nat.le_trans (rows_acc h.ar.wf x).len h.ar.small)
    obtain ⟨tx, htx⟩ : ∃ t : ByteArray, t = ⟨(txt L x).toArray⟩ := ⟨_, rfl⟩
    rw [← htx] at HWR HW2
    clear hh hR htx
    go_enter Tryd.func3, Tryd.ntmps3
    go_wp2_with (first
      | (go_at_call 10; refine HB.out.mono ?_; rintro e w1 ⟨b, g, bm, cap, gr, capr, rfl, hP⟩; have hB0 := fun o => (Below.refl w1.heap.size w1).alloc (Nat.le_refl _) o; have hrl := HRL.out w1 b g bm cap hP.st)
      | (go_at_call 11; refine (HRO.out _ b g bm cap (hP.st.keep (hB0 _))).mono ?_; rintro e w3 ⟨v, rfl, ho, hb3⟩; obtain ⟨sp, cp, rfl⟩ := own_slice ho; have hB3 := (hB0 _).trans (hb3.mono (hB0 _).size); have cA := (hb3.cell (p := ⟨w1.heap.size, 0, none⟩) (by simp)).trans (new_cell w1 0 _ _ _ rfl); have cB := (hb3.cell (p := ⟨w1.heap.size, 1, none⟩) (by simp)).trans (new_cell w1 1 _ _ _ rfl))
      | (go_at_call 12; refine (HHA.out w3 gr capr).mono ?_; rintro e w4 ⟨rfl, hb4⟩; rw [HH.out]; have hB4 := hB3.trans (hb4.mono hB3.size); have cA4 := (hb4.cell (p := ⟨w1.heap.size, 0, none⟩) (World.block_lt_of_cell? w3 _ cA)).trans cA; have cB4 := (hb4.cell (p := ⟨w1.heap.size, 1, none⟩) (World.block_lt_of_cell? w3 _ cB)).trans cB)
      | (go_at_call 15; refine (HR2.out w1 b g bm cap gr capr w4 hP hB4).mono ?_; rintro e w5 ⟨v5, rfl, ho5, hb5⟩; obtain ⟨sq, cq, rfl⟩ := own_slice ho5; have hB5 := hB4.trans (hb5.mono hB4.size))
      | (go_at_call 13; refine (HSZ.out w5 b g bm cap (hP.st.keep hB5)).mono ?_; rintro e w6 ⟨rfl, hb6⟩))
    have hB6 : Below w1.heap.size w1 w6 := hB5.trans (hb6.mono hB5.size)
    have HR3 := Lib.hid (row_below (row_below (row_below ho hb4) hb5) hb6)
    have HR5 := Lib.hid (row_below ho5 hb6)
    have cA5 := (hb5.cell (p := ⟨w1.heap.size, 0, none⟩) (World.block_lt_of_cell? w4 _ cA4)).trans cA4
    have cB5 := (hb5.cell (p := ⟨w1.heap.size, 1, none⟩) (World.block_lt_of_cell? w4 _ cB4)).trans cB4
    have cA6 : w6.cell? ⟨w1.heap.size, 0, none⟩ = some (.int .i64 100) := (hb6.cell (p := ⟨w1.heap.size, 0, none⟩) (World.block_lt_of_cell? w5 _ cA5)).trans cA5
    have cB6 : w6.cell? ⟨w1.heap.size, 1, none⟩ = some (.slice (some ⟨gr, 0, none⟩) L.length capr) := (hb6.cell (p := ⟨w1.heap.size, 1, none⟩) (World.block_lt_of_cell? w5 _ cB5)).trans cB5
    have HCE : Hid (∀ W, Below w6.heap.size w6 W → W.cell? ⟨w1.heap.size, 0, none⟩ = some (.int .i64 100) ∧ W.cell? ⟨w1.heap.size, 1, none⟩ = some (.slice (some ⟨gr, 0, none⟩) L.length capr)) := Lib.hid (fun W hW =>
      ⟨(hW.cell (p := ⟨w1.heap.size, 0, none⟩) (World.block_lt_of_cell? w6 _ cA6)).trans cA6, (hW.cell (p := ⟨w1.heap.size, 1, none⟩) (World.block_lt_of_cell? w6 _ cB6)).trans cB6⟩)
    have HP := Lib.hid hP
    have HB6 := Lib.hid hB6
    clear cA cB cA4 cB4 cA5 cB5 cA6 cB6 ho ho5 hb3 hb4 hb5 hb6 hB3 hB4 hB5 hB6 hB0 hP
    obtain ⟨pb, hpb⟩ : ∃ pb, pb = w1.heap.size := ⟨_, rfl⟩
    rw [← hpb] at HCE
    rw [← hpb]
    clear hpb
    go_loopg [10, 66] R.length (fun q _ u66 wr => ∃ k : Nat, k + q = R.length ∧ u66 = .int .i64 k ∧ Below w6.heap.size w6 wr)
    case atStart => exact ⟨0, by omega, rfl, Below.refl _ _⟩
    case round =>
      obtain ⟨k, hkq, rfl, hbr⟩ := hrel
      by_cases hlt : k < R.length
      · have r3 := row_below HR3.out hbr
        have r5 := row_below HR5.out hbr
        obtain ⟨gq, rfl⟩ : ∃ gq, sp = some ⟨gq, 0, none⟩ := by
          rcases r3.2 with ⟨h1, h2⟩ | ⟨gq, _, _, h1, _⟩
          · omega
          · exact ⟨gq, by injection h1⟩
        obtain ⟨gs, rfl⟩ : ∃ gs, sq = some ⟨gs, 0, none⟩ := by
          rcases r5.2 with ⟨h1, h2⟩ | ⟨gs, _, _, h1, _⟩
          · omega
          · exact ⟨gs, by injection h1⟩
        obtain ⟨i, hi⟩ : ∃ i : Int, R[k] = i := ⟨_, rfl⟩
        have cX : wr.cell? ⟨gq, k, none⟩ = some (.int .i64 i) := by
          rw [r3.cellAt k (by omega)]
          simp [hlt, hi]
        have cY : wr.cell? ⟨gs, k, none⟩ = some (.int .i64 i) := by
          rw [r5.cellAt k (by omega)]
          simp [hlt, hi]
        have HBR := Lib.hid hbr
        clear r3 r5 hi hbr
        go_wp2_with fail
        go_region_held3 (fun w' => w'.cell? ⟨gq, k, none⟩ = some (.int .i64 i) ∧ w'.cell? ⟨gs, k, none⟩ = some (.int .i64 i)) (go_keep) (fail)
        all_goals
          go_wp2_with fail
          go_roundg (R.length - (k + 1))
          case rel => exact ⟨k + 1, by omega, by simp, HBR.out.drew⟩
          case measure => omega
      · obtain ⟨cA, cB⟩ := HCE.out wr hbr
        have hBw := HB6.out.trans (hbr.mono HB6.out.size)
        have hpl := World.block_lt_of_cell? wr _ cA
        go_wp2_with fail
        go_region_held3 (fun w' => w'.cell? ⟨pb, 0, none⟩ = some (.int .i64 100) ∧ w'.cell? ⟨pb, 1, none⟩ = some (.slice (some ⟨gr, 0, none⟩) L.length capr)) (go_keep)
          (first
            | (go_at_call 14; refine (HWR.out _ b g bm cap (HP.out.st.keep hBw.drew)).mono ?_; rintro e w7 ⟨rfl, hb7⟩; have hb7' := hbr.drew.trans (hb7.mono hbr.drew.size); obtain ⟨cA7, cB7⟩ := HCE.out w7 hb7')
            | (go_at_call 16; refine (HW2.out w1 b g bm cap gr capr _ HP.out (hBw.drew.trans (hb7.mono hBw.drew.size))).mono ?_; rintro e w8 ⟨rfl, hb8⟩; have hb8' := hb7'.trans (hb8.mono hb7'.size); obtain ⟨cA8, cB8⟩ := HCE.out w8 hb8')
            | (go_at_call 9; refine (HAW.out _ (HP.out.st.keep (HB6.out.trans (hb8'.mono HB6.out.size))).bel).mono ?_; rintro e w9 ⟨rfl, hb9⟩; have hb9' := hb8'.trans (hb9.mono hb8'.size); obtain ⟨cA9, cB9⟩ := HCE.out w9 hb9'))
        all_goals
          go_wp2_with fail
          go_ret
          exact ⟨rfl, (HP.out.st.keep (HB6.out.trans (hb9'.mono HB6.out.size))).bel⟩
  · have hh' : hasB L.length x = false := by simpa using hh
    have HH := Lib.hid hh'
    have hR0 : R = [] := by rw [hR]; exact rows_no hh'
    have hE0 : Hid (∀ w1 b g bm cap, St w w1 b g bm cap 100 L → Calls Tryd.prog 14 #[.pointer (some ⟨b, 0, none⟩), .int .i64 x] w1 fun e w' => e = .returned (.string ⟨#[]⟩) ∧ Below w1.heap.size w1 w') := Lib.hid (fun w1 b g bm cap h => by
      have := HWR.out w1 b g bm cap h
      rw [txt_no hh'] at this; exact this)
    clear hh hh' hR HWR
    subst hR0
    go_enter Tryd.func3, Tryd.ntmps3
    go_wp2_with (first
      | (go_at_call 10; refine HB.out.mono ?_; rintro e w1 ⟨b, g, bm, cap, gr, capr, rfl, hP⟩; have hB0 := fun o => (Below.refl w1.heap.size w1).alloc (Nat.le_refl _) o)
      | (go_at_call 11; refine (HRO.out _ b g bm cap (hP.st.keep (hB0 _))).mono ?_; rintro e w3 ⟨v, rfl, ho, hb3⟩; obtain ⟨sp, cp, rfl⟩ := own_slice ho; have hB3 := (hB0 _).trans (hb3.mono (hB0 _).size); have cA := (hb3.cell (p := ⟨w1.heap.size, 0, none⟩) (by simp)).trans (new_cell w1 0 _ _ _ rfl); have cB := (hb3.cell (p := ⟨w1.heap.size, 1, none⟩) (by simp)).trans (new_cell w1 1 _ _ _ rfl))
      | (go_at_call 12; refine (HHA.out w3 gr capr).mono ?_; rintro e w4 ⟨rfl, hb4⟩; rw [HH.out]; have hB4 := hB3.trans (hb4.mono hB3.size))
      | (go_at_call 13; refine (HSZ.out w4 b g bm cap (hP.st.keep hB4)).mono ?_; rintro e w5 ⟨rfl, hb5⟩; have hB5 := hB4.trans (hb5.mono hB4.size))
      | (go_at_call 14; refine (hE0.out _ b g bm cap (hP.st.keep hB5)).mono ?_; rintro e w6 ⟨rfl, hb6⟩; have hB6 := hB5.trans (hb6.mono hB5.size))
      | (go_at_call 9; refine (HAW.out _ (hP.st.keep hB6).bel).mono ?_; rintro e w7 ⟨rfl, hb7⟩))
    go_ret
    exact ⟨rfl, ((hP.st.keep hB6).keep hb7).bel⟩
end Go.Proofs.YtcgdkiahcnhoeaaDoor
