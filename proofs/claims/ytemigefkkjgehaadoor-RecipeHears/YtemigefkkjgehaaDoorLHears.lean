/- The walk of RecipeHears: what was heard is made, each by its number, and no other one. -/
import Derived.Test.YtemigefkkjgehaaDoorEo
namespace Go.Proofs.YtemigefkkjgehaaDoor
open Go.RowKit Go.Maps

set_option maxRecDepth 100000 in
set_option maxHeartbeats 1000000 in
theorem hears_long (s sr : Option Addr) (n m c cr : Nat) (i : Int) (hn : 30 < n ∨ 30 < m) (w : World) (hs : Shp w) (hR : Rsh w) : Calls Tryd.prog 8 #[.slice s n c, .slice sr m cr, .int .i64 i] w fun e w' => e = .returned (.bool true) ∧ Below w.heap.size w w' := by
  have HA := Lib.hid (awake4_any w hs hR)
  clear hs hR
  by_cases h : (30 : Int) < n
  · clear hn
    go_enter Tryd.func8, Tryd.ntmps8
    go_wp2_with (go_at_call 23; refine HA.out.mono ?_; rintro e w2 ⟨rfl, hb2⟩)
    go_ret
    exact ⟨rfl, hb2⟩
  · have h2 : (30 : Int) < m := by omega
    clear hn
    go_enter Tryd.func8, Tryd.ntmps8
    go_wp2_with (go_at_call 23; refine HA.out.mono ?_; rintro e w2 ⟨rfl, hb2⟩)
    go_ret
    exact ⟨rfl, hb2⟩
theorem hear_run {lim : Nat} {H : List Int} {L : List Nd} {n : Int} : runY lim H [⟨0, 0, n, 0, 0⟩] L [] 0 = if 0 ≤ n ∧ n < H.length then ⟨L, [H.getD n.toNat 0], 0, 0⟩ else ⟨L, [], 0, 12⟩ := by
  have hu : usedB ⟨0, 0, n, 0, 0⟩ = true := by simp [usedB, opOk, loS, hiS, ixS]
  have hi : idx ⟨0, 0, n, 0, 0⟩ = [n] := by simp [idx, ixS]
  have hsr : srcS H [] ⟨0, 0, n, 0, 0⟩ = H := by simp [srcS]
  unfold runY stepY
  rw [if_pos hu, hi, hsr]
  by_cases h : 0 ≤ n ∧ n < H.length
  · rw [if_pos h]
    have hp : pickB H [n] = true := by simp [pickB, h.1, h.2]
    rw [if_pos hp]
    have hd : ∀ y z, doY lim L ⟨0, 0, n, 0, 0⟩ ((pickL H [n]).getD 0 0) y z = ⟨L, H.getD n.toNat 0, 0⟩ := fun y z => by simp [doY, pickL]
    rw [hd]
    simp [runY]
  · rw [if_neg h]
    have hp : pickB H [n] = false := by
      rw [Bool.eq_false_iff]
      intro e
      simp only [pickB, List.all_cons, List.all_nil, Bool.and_true, Bool.and_eq_true, decide_eq_true_eq] at e
      exact h e
    rw [hp]
    simp [bad]
theorem h_steps (w6 : World) (n : Int) : StepsV (w6.alloc (.cells #[.int .i64 0, .int .u64 0, .int .i64 n, .int .i64 0, .int .i64 0] 60)) (some ⟨w6.heap.size, 0, none⟩) [⟨0, 0, n, 0, 0⟩] := fun _ => by
  have h := heap_alloc_new w6 (.cells #[.int .i64 0, .int .u64 0, .int .i64 n, .int .i64 0, .int .i64 0] 60)
  refine ⟨_, _, rfl, by simp, fun i hi => ?_⟩
  match i, hi with
  | 0, _ => exact ⟨(cell_of_row _ _ 0 _ _ _ h).trans rfl, (cell_of_row _ _ 1 _ _ _ h).trans rfl, (cell_of_row _ _ 2 _ _ _ h).trans rfl, (cell_of_row _ _ 3 _ _ _ h).trans rfl, (cell_of_row _ _ 4 _ _ _ h).trans rfl⟩
theorem hears_call {w0 w2 : World} {bk b g bm cap lim : Nat} {L : List Nd} {mk : Nat} {hv : Value} {hs : List Int} {K : Int → Bool} (h : Kx w0 w2 bk b g bm cap lim L mk hv hs K) (hsh : Shp w0) (hS : Rsh w0) (hm : hs.length ≤ 1000001) (hK : ∀ x ∈ hs, K x = true) (n : Int) :
    Calls Tryd.prog 25 #[.pointer (some ⟨b, 0, none⟩), .pointer (some ⟨bk, 0, none⟩), .slice (some ⟨w2.heap.size, 0, none⟩) 1 1] (w2.alloc (.cells #[.int .i64 0, .int .u64 0, .int .i64 n, .int .i64 0, .int .i64 0] 60)) fun e w' => Below w0.heap.size w0 w' ∧ Kept (w2.alloc (.cells #[.int .i64 0, .int .u64 0, .int .i64 n, .int .i64 0, .int .i64 0] 60)) w' b g bm ∧
      ((0 ≤ n ∧ n < hs.length ∧ ∃ gl ol cy, e = .returned (.tuple #[.slice (some ⟨gl, ol, none⟩) 1 cy, .int .i64 0, .int .i64 0]) ∧ w'.cell? ⟨gl, ol, none⟩ = some (.int .i64 (hs.getD n.toNat 0))) ∨
       (¬ (0 ≤ n ∧ n < hs.length) ∧ ∃ sy cy, e = .returned (.tuple #[.slice sy 0 cy, .int .i64 0, .int .i64 12]))) := by
  have hb : Below w2.heap.size w2 (w2.alloc (.cells #[.int .i64 0, .int .u64 0, .int .i64 n, .int .i64 0, .int .i64 0] 60)) := (Below.refl _ _).alloc (Nat.le_refl _) _
  have h1 := h.kn.ar.blt
  have h2 := h.kn.ar.glt
  have h3 := h.kn.ar.mlt
  have hc := run_kx (h.keep hb) hsh hS hm hK (some ⟨w2.heap.size, 0, none⟩) 1 [⟨0, 0, n, 0, 0⟩] (h_steps w2 n) (fun p hp => by
    obtain rfl := Option.some.inj hp
    refine ⟨?_, ?_, ?_⟩ <;> simp only <;> omega) (by simp)
  rw [hear_run] at hc
  refine hc.mono ?_
  rintro e w' ⟨sy, cy, g', cap', rfl, hKx, hi, _, _, hk⟩
  by_cases h0 : 0 ≤ n ∧ n < hs.length
  · rw [if_pos h0] at hi hKx ⊢
    obtain ⟨gl, ol, rfl, _, hia⟩ := hi Nat.zero_lt_one
    exact ⟨(hKx [] (by simp)).st.bel, hk, .inl ⟨h0.1, h0.2, gl, ol, cy, rfl, hia 0 Nat.zero_lt_one⟩⟩
  · rw [if_neg h0] at hi hKx ⊢
    exact ⟨(hKx [] (by simp)).st.bel, hk, .inr ⟨h0, sy, cy, rfl⟩⟩
theorem hears_yes {w0 w2 : World} {bk b g bm cap lim : Nat} {L : List Nd} {mk : Nat} {hv : Value} {hs : List Int} {K : Int → Bool} (h : Kx w0 w2 bk b g bm cap lim L mk hv hs K) (hsh : Shp w0) (hS : Rsh w0) (hm : hs.length ≤ 1000001) (hK : ∀ x ∈ hs, K x = true) (n : Int) (h0 : 0 ≤ n ∧ n < hs.length) :
    Calls Tryd.prog 25 #[.pointer (some ⟨b, 0, none⟩), .pointer (some ⟨bk, 0, none⟩), .slice (some ⟨w2.heap.size, 0, none⟩) 1 1] (w2.alloc (.cells #[.int .i64 0, .int .u64 0, .int .i64 n, .int .i64 0, .int .i64 0] 60)) fun e w' => ∃ gl ol cy, e = .returned (.tuple #[.slice (some ⟨gl, ol, none⟩) 1 cy, .int .i64 0, .int .i64 0]) ∧ w'.cell? ⟨gl, ol, none⟩ = some (.int .i64 (hs.getD n.toNat 0)) ∧ Below w0.heap.size w0 w' ∧ Kept (w2.alloc (.cells #[.int .i64 0, .int .u64 0, .int .i64 n, .int .i64 0, .int .i64 0] 60)) w' b g bm :=
  (hears_call h hsh hS hm hK n).mono fun e w' ⟨h1, h2, h3⟩ => by
    rcases h3 with ⟨_, _, gl, ol, cy, he, hc⟩ | ⟨hn, _⟩
    · exact ⟨gl, ol, cy, he, hc, h1, h2⟩
    · exact absurd h0 hn
theorem hears_no {w0 w2 : World} {bk b g bm cap lim : Nat} {L : List Nd} {mk : Nat} {hv : Value} {hs : List Int} {K : Int → Bool} (h : Kx w0 w2 bk b g bm cap lim L mk hv hs K) (hsh : Shp w0) (hS : Rsh w0) (hm : hs.length ≤ 1000001) (hK : ∀ x ∈ hs, K x = true) (n : Int) (h0 : ¬ (0 ≤ n ∧ n < hs.length)) :
    Calls Tryd.prog 25 #[.pointer (some ⟨b, 0, none⟩), .pointer (some ⟨bk, 0, none⟩), .slice (some ⟨w2.heap.size, 0, none⟩) 1 1] (w2.alloc (.cells #[.int .i64 0, .int .u64 0, .int .i64 n, .int .i64 0, .int .i64 0] 60)) fun e w' => ∃ sy cy, e = .returned (.tuple #[.slice sy 0 cy, .int .i64 0, .int .i64 12]) ∧ Below w0.heap.size w0 w' :=
  (hears_call h hsh hS hm hK n).mono fun e w' ⟨h1, h2, h3⟩ => by
    rcases h3 with ⟨n0, n1, _⟩ | ⟨_, sy, cy, he⟩
    · exact absurd ⟨n0, n1⟩ h0
    · exact ⟨sy, cy, he, h1⟩
set_option maxRecDepth 100000 in
set_option maxHeartbeats 4000000 in
theorem hears_good (s sr : Option Addr) (c cr : Nat) (ns : List Nd) (refs : List Int) (n : Int) (hn : ns.length ≤ 30) (hm : refs.length ≤ 30) (w : World) (hs : Shp w) (hR : Rsh w) (hB : BuiltAt w (.slice s ns.length c) ns) (hI : IntsV w sr refs) : Calls Tryd.prog 8 #[.slice s ns.length c, .slice sr refs.length cr, .int .i64 n] w fun e w' => e = .returned (.bool true) ∧ Below w.heap.size w w' := by
  have HKI := Lib.hid (kitchen_any s sr c cr ns refs 200 200 rfl hm w hB hI w (Below.refl _ _))
  have HAw := Lib.hid (fun w1 (h : Below w.heap.size w w1) => awake4_any w1 (hs.below h) (hR.below h))
  have HSH := Lib.hid hs
  have HRS := Lib.hid hR
  obtain ⟨L, hLe⟩ : ∃ L, L = bld 200 ns := ⟨_, rfl⟩
  rw [← hLe] at HKI
  have h1 : ¬ (30 : Int) < ns.length := by omega
  have h2 : ¬ (30 : Int) < refs.length := by omega
  have HM := Lib.hid hm
  clear hs hR hB hI hn hm hLe
  go_enter Tryd.func8, Tryd.ntmps8
  go_wp2_with (go_at_call 24; refine HKI.out.mono ?_; rintro e w1 ⟨bk, b, g, bm, cap, gr, capr, mk, hv, K, rfl, hK1, hA1, hr1, hl1⟩)
  obtain ⟨H, hHe⟩ : ∃ H, H = refs.filter fun x => hasB L.length x := ⟨_, rfl⟩
  rw [← hHe] at hK1
  have HK1 := Lib.hid hK1
  have HHK : Hid (∀ x ∈ H, K x = true) := Lib.hid (fun x hx => by
    rw [hHe] at hx
    obtain ⟨hx1, hx2⟩ := List.mem_filter.1 hx
    exact (hl1 x).2 (cl_in ⟨hx1, hx2⟩))
  have HHL : Hid (H.length ≤ 30) := Lib.hid (by rw [hHe]; exact Nat.le_trans (List.length_filter_le _ _) HM.out)
  clear hK1 hA1 hr1 hl1 hHe
  have HHD := Lib.hid (fun w2 (hb : Below w1.heap.size w1 w2) => heard_any (HK1.out.keep hb).kn (by have := HHL.out; omega))
  unfold HdC at HHD
  go_wp2_with (go_at_call 17; refine (HHD.out _ (by first | exact Below.refl _ _ | exact (Below.refl _ _).alloc (Nat.le_refl _) _)).mono ?_; rintro e w2 ⟨sh, ch, rfl, hi2, hp2, hb2⟩)
  have hb12 : Below w1.heap.size w1 w2 := ((Below.refl _ _).alloc (Nat.le_refl _) _).trans (hb2.mono (by simp))
  have HK2 := Lib.hid (HK1.out.keep hb12)
  have HOFF := Lib.hid (HK1.out.kn.ar)
  have HI2 := Lib.hid hi2
  have HP2 := Lib.hid hp2
  clear hi2 hp2 hb2 HHD hb12
  have HL1 : Hid (H.length ≤ 1000001) := Lib.hid (by have := HHL.out; omega)
  by_cases h0 : 0 ≤ n ∧ n < H.length
  · have HRUN := Lib.hid (hears_yes HK2.out HSH.out HRS.out HL1.out HHK.out n h0)
    obtain ⟨n0, n1⟩ := h0
    have hn0 : ¬ n < 0 := by omega
    have hn1 : ¬ (H.length : Int) ≤ n := by omega
    obtain ⟨i, rfl⟩ : ∃ i : Nat, n = i := ⟨n.toNat, by omega⟩
    obtain ⟨gh, oh, rfl, hgh, hih⟩ := HI2.out (by omega)
    have HY1 : Hid (∀ w3, Kept (w2.alloc (.cells #[.int .i64 0, .int .u64 0, .int .i64 i, .int .i64 0, .int .i64 0] 60)) w3 b g bm → w3.cell? ⟨gh, oh + i, none⟩ = some (.int .i64 (H.getD i 0))) := Lib.hid (fun w3 hk3 => by
      obtain ⟨p1, p2⟩ := HP2.out _ rfl
      have a1 := HOFF.out.blt
      have a2 := HOFF.out.glt
      have a3 := HOFF.out.mlt
      have p1 : w1.heap.size ≤ gh := Nat.le_trans (by simp) p1
      exact (World.cell?_of_block ((hk3.block gh (by simp; omega) (by omega) (by omega) (by omega)).trans (Below.heap_alloc _ _ _ hgh))).trans (hih i (by omega)))
    rw [Int.toNat_natCast] at HRUN
    clear hih hgh HI2 HP2
    go_wp2_with (go_at_call 25; refine HRUN.out.mono ?_; rintro e w3 ⟨gl, ol, cy, rfl, y0, hb3, hk3⟩; have y1 := HY1.out w3 hk3; have HB3 := Lib.hid hb3; clear hb3 hk3)
    have l0 : gl < w3.heap.size := World.block_lt_of_cell? _ _ y0
    have l1 : gh < w3.heap.size := World.block_lt_of_cell? _ _ y1
    have HBD := Lib.hid HB3.out.drew
    go_region_held3 (fun w' => w'.cell? ⟨gl, ol, none⟩ = some (.int .i64 (H.getD i 0)) ∧ w'.cell? ⟨gh, oh + i, none⟩ = some (.int .i64 (H.getD i 0))) (go_keep)
      ((go_at_call 23; refine (HAw.out _ HBD.out).mono ?_; rintro e w4 ⟨rfl, hb4⟩; have p0 := (hb4.cell (p := ⟨gl, ol, none⟩) l0).trans y0; have p1 := (hb4.cell (p := ⟨gh, oh + i, none⟩) l1).trans y1; have HB4 := Lib.hid (HBD.out.trans (hb4.mono HBD.out.size)); clear hb4))
    all_goals
      go_wp2_with fail
      go_ret
      exact ⟨rfl, HB4.out⟩
  · have HRUN := Lib.hid (hears_no HK2.out HSH.out HRS.out HL1.out HHK.out n h0)
    clear HI2 HP2
    by_cases hn0 : n < 0
    · clear h0
      go_wp2_with (first
        | (go_at_call 25; refine HRUN.out.mono ?_; rintro e w3 ⟨sy, cy, rfl, hb3⟩; have HB3 := Lib.hid hb3; clear hb3)
        | (go_at_call 23; refine (HAw.out _ HB3.out).mono ?_; rintro e w4 ⟨rfl, hb4⟩))
      go_ret
      exact ⟨rfl, HB3.out.trans (hb4.mono HB3.out.size)⟩
    · have hn1 : (H.length : Int) ≤ n := by omega
      clear h0
      go_wp2_with (first
        | (go_at_call 25; refine HRUN.out.mono ?_; rintro e w3 ⟨sy, cy, rfl, hb3⟩; have HB3 := Lib.hid hb3; clear hb3)
        | (go_at_call 23; refine (HAw.out _ HB3.out).mono ?_; rintro e w4 ⟨rfl, hb4⟩))
      go_ret
      exact ⟨rfl, HB3.out.trans (hb4.mono HB3.out.size)⟩
end Go.Proofs.YtemigefkkjgehaaDoor
