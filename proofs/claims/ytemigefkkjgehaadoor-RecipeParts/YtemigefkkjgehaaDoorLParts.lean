/- The walk of RecipeParts: a Pair is taken apart, and a Seal opened, by steps alone. -/
import Derived.Test.YtemigefkkjgehaaDoorEp
namespace Go.Proofs.YtemigefkkjgehaaDoor
open Go.RowKit Go.Maps

def pS (x y n : Int) : List Sp := [⟨1, x, 0, 0, 0⟩, ⟨1, y, 0, 0, 0⟩, ⟨8, 0, 0, 1, 0⟩, ⟨7, n, 1, 0, 2⟩, ⟨12, 0, 3, 1, 0⟩, ⟨10, 0, 4, 0, 0⟩, ⟨11, 0, 4, 0, 0⟩]
theorem runY_step {lim : Nat} {H : List Int} {s : Sp} {t : List Sp} {L L' : List Nd} {Y : List Int} {i : Nat} {r : Int} (h : stepY lim H L Y s = ⟨L', r, 0⟩) : runY lim H (s :: t) L Y i = runY lim H t L' (Y ++ [r]) (i + 1) := by
  rw [runY, h]; rfl
theorem runY_stop {lim : Nat} {H : List Int} {s : Sp} {t : List Sp} {L : List Nd} {Y : List Int} {i : Nat} (h : usedB s = false) : runY lim H (s :: t) L Y i = ⟨L, [], i, 12⟩ := by
  have e : stepY lim H L Y s = ⟨L, 0, 12⟩ := by unfold stepY; rw [h]; rfl
  rw [runY, e]; rfl
theorem step_mine {lim : Nat} {H : List Int} {L : List Nd} {Y : List Int} {x : Int} (h0 : 0 ≤ x) (h1 : x < 1048576) : stepY lim H L Y ⟨1, x, 0, 0, 0⟩ = mkY lim L ⟨1, 4294967296 + x, 0, 0, 0⟩ := by
  have hu : usedB ⟨1, x, 0, 0, 0⟩ = true := by simp [usedB, opOk, loS, hiS, ixS]; omega
  unfold stepY
  rw [if_pos hu]
  simp [idx, ixS, pickB, pickL, srcS, doY]
theorem mine_out {x : Int} (h : 1048576 ≤ x) : usedB ⟨1, x, 0, 0, 0⟩ = false := by
  cases e : usedB ⟨1, x, 0, 0, 0⟩ with
  | false => rfl
  | true => have := (used_n e).2.2 rfl; simp only at this; omega
theorem mkY_eq {lim : Nat} {L L' : List Nd} {d : Nd} {r : Int} (h : mkL lim L d = L' ∧ mkR lim L d = r ∧ mkE lim L d = 0) : mkY lim L d = ⟨L', r, 0⟩ := by
  unfold mkY; rw [h.1, h.2.1, h.2.2]
theorem step_pair {lim : Nat} {H : List Int} {L : List Nd} {a b : Int} : stepY lim H L [a, b] ⟨8, 0, 0, 1, 0⟩ = mkY lim L ⟨8, 0, a, b, 0⟩ := rfl
theorem step_seal {lim : Nat} {H : List Int} {L : List Nd} {a b c n : Int} (h0 : 0 ≤ n) (h1 : n ≤ 18446744073709551615) : stepY lim H L [a, b, c] ⟨7, n, 1, 0, 2⟩ = mkY lim L ⟨7, n, b, a, c⟩ := by
  have hu : usedB ⟨7, n, 1, 0, 2⟩ = true := by simp [usedB, opOk, loS, hiS, ixS]; omega
  unfold stepY
  rw [if_pos hu]
  simp [idx, ixS, pickB, pickL, srcS, doY]
theorem step_open {lim : Nat} {H : List Int} {L : List Nd} {a b c d n : Int} (h : nd L d = ⟨7, n, b, a, c⟩) : stepY lim H L [a, b, c, d] ⟨12, 0, 3, 1, 0⟩ = ⟨L, c, 0⟩ := by
  have e : stepY lim H L [a, b, c, d] ⟨12, 0, 3, 1, 0⟩ = outY L 12 d b := rfl
  rw [e]; unfold outY; rw [h]; simp
theorem step_first {lim : Nat} {H : List Int} {L : List Nd} {a b c d e : Int} (h : nd L e = ⟨8, 0, a, b, 0⟩) : stepY lim H L [a, b, c, d, e] ⟨10, 0, 4, 0, 0⟩ = ⟨L, a, 0⟩ := by
  have q : stepY lim H L [a, b, c, d, e] ⟨10, 0, 4, 0, 0⟩ = outY L 10 e 0 := rfl
  rw [q]; unfold outY; rw [h]; simp
theorem step_second {lim : Nat} {H : List Int} {L : List Nd} {a b c d e g : Int} (h : nd L e = ⟨8, 0, a, b, 0⟩) : stepY lim H L [a, b, c, d, e, g] ⟨11, 0, 4, 0, 0⟩ = ⟨L, b, 0⟩ := by
  have q : stepY lim H L [a, b, c, d, e, g] ⟨11, 0, 4, 0, 0⟩ = outY L 11 e 0 := rfl
  rw [q]; unfold outY; rw [h]; simp
/-- The whole recipe, of an arena in which both names are. -/
theorem parts_run {x y n : Int} (hx : 0 ≤ x ∧ x < 1048576) (hy : 0 ≤ y ∧ y < 1048576) (hn : 0 ≤ n ∧ n ≤ 18446744073709551615) {L1 L2 L3 L4 : List Nd} {a b c d : Int}
    (e1 : mkY 50 [zN] ⟨1, 4294967296 + x, 0, 0, 0⟩ = ⟨L1, a, 0⟩) (e2 : mkY 50 L1 ⟨1, 4294967296 + y, 0, 0, 0⟩ = ⟨L2, b, 0⟩) (e3 : mkY 50 L2 ⟨8, 0, a, b, 0⟩ = ⟨L3, c, 0⟩) (e4 : mkY 50 L3 ⟨7, n, b, a, c⟩ = ⟨L4, d, 0⟩) (h4 : nd L4 d = ⟨7, n, b, a, c⟩) (h3 : nd L4 c = ⟨8, 0, a, b, 0⟩) :
    runY 50 [] (pS x y n) [zN] [] 0 = ⟨L4, [a, b, c, d, c, a, b], 0, 0⟩ := by
  unfold pS
  rw [runY_step ((step_mine hx.1 hx.2).trans e1), List.nil_append, runY_step ((step_mine hy.1 hy.2).trans e2), List.cons_append, List.nil_append, runY_step (step_pair.trans e3), List.cons_append, List.cons_append, List.nil_append,
    runY_step ((step_seal hn.1 hn.2).trans e4), List.cons_append, List.cons_append, List.cons_append, List.nil_append, runY_step (step_open h4)]
  simp only [List.cons_append, List.nil_append]
  rw [runY_step (step_first h3)]
  simp only [List.cons_append, List.nil_append]
  rw [runY_step (step_second h3)]
  rfl
theorem parts_all {x y n : Int} (hx : 0 ≤ x ∧ x < 1048576) (hy : 0 ≤ y ∧ y < 1048576) (hn : 0 ≤ n ∧ n ≤ 18446744073709551615) : ∃ L4 a b c d, runY 50 [] (pS x y n) [zN] [] 0 = ⟨L4, [a, b, c, d, c, a, b], 0, 0⟩ := by
  have hz : (⟨0, 0, 0, 0, 0⟩ : Nd) ≠ ⟨1, 4294967296 + x, 0, 0, 0⟩ := by simp
  have e1 : mkY 50 [zN] ⟨1, 4294967296 + x, 0, 0, 0⟩ = ⟨[zN, ⟨1, 4294967296 + x, 0, 0, 0⟩], 1, 0⟩ := mkY_eq (mk_new (by simp [right, many, partsOk, partOk, numOk, lastOk]) (by simp [ix, zN]) (by decide))
  by_cases hxy : x = y
  · subst hxy
    have e2 : mkY 50 [zN, ⟨1, 4294967296 + x, 0, 0, 0⟩] ⟨1, 4294967296 + x, 0, 0, 0⟩ = ⟨[zN, ⟨1, 4294967296 + x, 0, 0, 0⟩], 1, 0⟩ := mkY_eq (mk_old (i := 1) (by simp [right, many, partsOk, partOk, numOk, lastOk]) (by simp [ix, zN]))
    have e3 : mkY 50 [zN, ⟨1, 4294967296 + x, 0, 0, 0⟩] ⟨8, 0, 1, 1, 0⟩ = ⟨[zN, ⟨1, 4294967296 + x, 0, 0, 0⟩, ⟨8, 0, 1, 1, 0⟩], 2, 0⟩ := mkY_eq (mk_new (by simp [right, many, partsOk, partOk, numOk, lastOk]; decide) (by simp [ix, zN]) (by simp))
    have e4 : mkY 50 [zN, ⟨1, 4294967296 + x, 0, 0, 0⟩, ⟨8, 0, 1, 1, 0⟩] ⟨7, n, 1, 1, 2⟩ = ⟨[zN, ⟨1, 4294967296 + x, 0, 0, 0⟩, ⟨8, 0, 1, 1, 0⟩, ⟨7, n, 1, 1, 2⟩], 3, 0⟩ := mkY_eq (mk_new (by simp [right, many, partsOk, partOk, numOk, lastOk]; decide) (by simp [ix, zN]) (by simp))
    exact ⟨_, _, _, _, _, parts_run hx hy hn e1 e2 e3 e4 rfl rfl⟩
  · have e2 : mkY 50 [zN, ⟨1, 4294967296 + x, 0, 0, 0⟩] ⟨1, 4294967296 + y, 0, 0, 0⟩ = ⟨[zN, ⟨1, 4294967296 + x, 0, 0, 0⟩, ⟨1, 4294967296 + y, 0, 0, 0⟩], 2, 0⟩ := mkY_eq (mk_new (by simp [right, many, partsOk, partOk, numOk, lastOk]) (by simp [ix, zN, hxy]) (by simp))
    have e3 : mkY 50 [zN, ⟨1, 4294967296 + x, 0, 0, 0⟩, ⟨1, 4294967296 + y, 0, 0, 0⟩] ⟨8, 0, 1, 2, 0⟩ = ⟨[zN, ⟨1, 4294967296 + x, 0, 0, 0⟩, ⟨1, 4294967296 + y, 0, 0, 0⟩, ⟨8, 0, 1, 2, 0⟩], 3, 0⟩ := mkY_eq (mk_new (by simp [right, many, partsOk, partOk, numOk, lastOk]; decide) (by simp [ix, zN]) (by simp))
    have e4 : mkY 50 [zN, ⟨1, 4294967296 + x, 0, 0, 0⟩, ⟨1, 4294967296 + y, 0, 0, 0⟩, ⟨8, 0, 1, 2, 0⟩] ⟨7, n, 2, 1, 3⟩ = ⟨[zN, ⟨1, 4294967296 + x, 0, 0, 0⟩, ⟨1, 4294967296 + y, 0, 0, 0⟩, ⟨8, 0, 1, 2, 0⟩, ⟨7, n, 2, 1, 3⟩], 4, 0⟩ := mkY_eq (mk_new (by simp [right, many, partsOk, partOk, numOk, lastOk]; decide) (by simp [ix, zN]) (by simp))
    exact ⟨_, _, _, _, _, parts_run hx hy hn e1 e2 e3 e4 rfl rfl⟩
theorem parts_no {x y n : Int} (hx : 0 ≤ x) (h : 1048576 ≤ x ∨ 1048576 ≤ y) : (runY 50 [] (pS x y n) [zN] [] 0).Y = [] ∧ (runY 50 [] (pS x y n) [zN] [] 0).e = 12 := by
  unfold pS
  by_cases hx1 : 1048576 ≤ x
  · rw [runY_stop (mine_out hx1)]; exact ⟨rfl, rfl⟩
  · have e1 : mkY 50 [zN] ⟨1, 4294967296 + x, 0, 0, 0⟩ = ⟨[zN, ⟨1, 4294967296 + x, 0, 0, 0⟩], 1, 0⟩ := mkY_eq (mk_new (by simp [right, many, partsOk, partOk, numOk, lastOk]) (by simp [ix, zN]) (by decide))
    rw [runY_step ((step_mine hx (by omega)).trans e1), runY_stop (mine_out (by omega))]; exact ⟨rfl, rfl⟩
/-- The steps in memory. -/
def pO (x y n : Int) : Obj := .cells #[.int .i64 1, .int .u64 x, .int .i64 0, .int .i64 0, .int .i64 0, .int .i64 1, .int .u64 y, .int .i64 0, .int .i64 0, .int .i64 0, .int .i64 8, .int .u64 0, .int .i64 0, .int .i64 1, .int .i64 0, .int .i64 7, .int .u64 n, .int .i64 1, .int .i64 0, .int .i64 2, .int .i64 12, .int .u64 0, .int .i64 3, .int .i64 1, .int .i64 0, .int .i64 10, .int .u64 0, .int .i64 4, .int .i64 0, .int .i64 0, .int .i64 11, .int .u64 0, .int .i64 4, .int .i64 0, .int .i64 0] 60
theorem p_steps (w6 : World) (x y n : Int) : StepsV (w6.alloc (pO x y n)) (some ⟨w6.heap.size, 0, none⟩) (pS x y n) := fun _ => by
  have h : (w6.alloc (pO x y n)).heap[w6.heap.size]? = some (.cells #[.int .i64 1, .int .u64 x, .int .i64 0, .int .i64 0, .int .i64 0, .int .i64 1, .int .u64 y, .int .i64 0, .int .i64 0, .int .i64 0, .int .i64 8, .int .u64 0, .int .i64 0, .int .i64 1, .int .i64 0, .int .i64 7, .int .u64 n, .int .i64 1, .int .i64 0, .int .i64 2, .int .i64 12, .int .u64 0, .int .i64 3, .int .i64 1, .int .i64 0, .int .i64 10, .int .u64 0, .int .i64 4, .int .i64 0, .int .i64 0, .int .i64 11, .int .u64 0, .int .i64 4, .int .i64 0, .int .i64 0] 60 (0, 0)) := heap_alloc_new w6 _
  refine ⟨_, _, rfl, by simp, fun i hi => ?_⟩
  match i, hi with
  | 0, _ => exact ⟨(cell_of_row _ _ 0 _ _ _ h).trans rfl, (cell_of_row _ _ 1 _ _ _ h).trans rfl, (cell_of_row _ _ 2 _ _ _ h).trans rfl, (cell_of_row _ _ 3 _ _ _ h).trans rfl, (cell_of_row _ _ 4 _ _ _ h).trans rfl⟩
  | 1, _ => exact ⟨(cell_of_row _ _ 5 _ _ _ h).trans rfl, (cell_of_row _ _ 6 _ _ _ h).trans rfl, (cell_of_row _ _ 7 _ _ _ h).trans rfl, (cell_of_row _ _ 8 _ _ _ h).trans rfl, (cell_of_row _ _ 9 _ _ _ h).trans rfl⟩
  | 2, _ => exact ⟨(cell_of_row _ _ 10 _ _ _ h).trans rfl, (cell_of_row _ _ 11 _ _ _ h).trans rfl, (cell_of_row _ _ 12 _ _ _ h).trans rfl, (cell_of_row _ _ 13 _ _ _ h).trans rfl, (cell_of_row _ _ 14 _ _ _ h).trans rfl⟩
  | 3, _ => exact ⟨(cell_of_row _ _ 15 _ _ _ h).trans rfl, (cell_of_row _ _ 16 _ _ _ h).trans rfl, (cell_of_row _ _ 17 _ _ _ h).trans rfl, (cell_of_row _ _ 18 _ _ _ h).trans rfl, (cell_of_row _ _ 19 _ _ _ h).trans rfl⟩
  | 4, _ => exact ⟨(cell_of_row _ _ 20 _ _ _ h).trans rfl, (cell_of_row _ _ 21 _ _ _ h).trans rfl, (cell_of_row _ _ 22 _ _ _ h).trans rfl, (cell_of_row _ _ 23 _ _ _ h).trans rfl, (cell_of_row _ _ 24 _ _ _ h).trans rfl⟩
  | 5, _ => exact ⟨(cell_of_row _ _ 25 _ _ _ h).trans rfl, (cell_of_row _ _ 26 _ _ _ h).trans rfl, (cell_of_row _ _ 27 _ _ _ h).trans rfl, (cell_of_row _ _ 28 _ _ _ h).trans rfl, (cell_of_row _ _ 29 _ _ _ h).trans rfl⟩
  | 6, _ => exact ⟨(cell_of_row _ _ 30 _ _ _ h).trans rfl, (cell_of_row _ _ 31 _ _ _ h).trans rfl, (cell_of_row _ _ 32 _ _ _ h).trans rfl, (cell_of_row _ _ 33 _ _ _ h).trans rfl, (cell_of_row _ _ 34 _ _ _ h).trans rfl⟩
set_option maxRecDepth 100000 in
set_option maxHeartbeats 4000000 in
theorem parts_good (x y n : Int) (hx : 0 ≤ x ∧ x ≤ 18446744073709551615) (hy : 0 ≤ y ∧ y ≤ 18446744073709551615) (hn : 0 ≤ n ∧ n ≤ 18446744073709551615) (w : World) (hs : Shp w) (hR : Rsh w) : Calls Tryd.prog 9 #[.int .u64 x, .int .u64 y, .int .u64 n] w fun e w' => e = .returned (.bool true) ∧ Below w.heap.size w w' := by
  have HAw := Lib.hid (fun w1 (h : Below w.heap.size w w1) => awake4_any w1 (hs.below h) (hR.below h))
  have HN := Lib.hid (new_any 50 w)
  have HSH := Lib.hid hs
  have HRS := Lib.hid hR
  have HX := Lib.hid (And.intro hx (And.intro hy hn))
  clear hs hR hx hy hn
  go_enter Tryd.func9, Tryd.ntmps9
  go_wp2_with fail
  go_at_call 29
  refine HN.out.mono ?_
  rintro e w1 ⟨b, g, bm, rfl, hA1, h1, h2, h3, hb1⟩
  have HS1 : Hid (St w w1 b g bm 1 50 [zN]) := Lib.hid ⟨hA1, hb1, h1, h2, h3⟩
  clear hA1 h1 h2 h3 hb1
  go_wp2_with fail
  go_at_call 30
  refine (knew_any HS1.out).mono ?_
  rintro e w2 ⟨rfl, hK2, hb2⟩
  have HK2 := Lib.hid hK2
  clear hK2 hb2
  generalize w1.heap.size + 1 = bk at *
  generalize w1.heap.size = mk at *
  have HRUN := Lib.hid (run_kz (HK2.out.keep ((Below.refl _ _).alloc (Nat.le_refl _) (pO x y n))) HSH.out HRS.out (by simp) (fun z hz => by simp at hz) (by omega) (some ⟨w2.heap.size, 0, none⟩) 7 (pS x y n) (p_steps w2 x y n) (fun _ p hp => by
    obtain rfl := Option.some.inj hp
    have h1 := HK2.out.kn.ar.blt
    have h2 := HK2.out.kn.ar.glt
    have h3 := HK2.out.kn.ar.mlt
    refine ⟨?_, ?_, ?_⟩ <;> simp only <;> omega) (by simp [pS]))
  unfold RunP pO at HRUN
  rw [show (pS x y n).length = 7 from rfl] at HRUN
  by_cases hxy : x < 1048576 ∧ y < 1048576
  · obtain ⟨L4, va, vb, vc, vd, hrun⟩ := parts_all ⟨HX.out.1.1, hxy.1⟩ ⟨HX.out.2.1.1, hxy.2⟩ HX.out.2.2
    rw [hrun] at HRUN
    clear hrun
    obtain ⟨hx1, hy1⟩ := hxy
    have hx2 : ¬ 1048576 ≤ x := by omega
    have hy2 : ¬ 1048576 ≤ y := by omega
    go_wp2_with fail
    go_at_call 25
    refine HRUN.out.mono ?_
    rintro e w3 ⟨sy, cy, g', cap', M, rfl, -, -, hK3, hi3, -, -, -⟩
    have HK3 := Lib.hid hK3
    obtain ⟨gl, ol, rfl, hgl, hia⟩ := hi3 (by simp)
    have y0 : w3.cell? ⟨gl, ol, none⟩ = some (.int .i64 va) := hia 0 (by simp)
    have y1 : w3.cell? ⟨gl, ol + 1, none⟩ = some (.int .i64 vb) := hia 1 (by simp)
    have y2 : w3.cell? ⟨gl, ol + 2, none⟩ = some (.int .i64 vc) := hia 2 (by simp)
    have y4 : w3.cell? ⟨gl, ol + 4, none⟩ = some (.int .i64 vc) := hia 4 (by simp)
    have y5 : w3.cell? ⟨gl, ol + 5, none⟩ = some (.int .i64 va) := hia 5 (by simp)
    have y6 : w3.cell? ⟨gl, ol + 6, none⟩ = some (.int .i64 vb) := hia 6 (by simp)
    clear hK3 hi3 hia HRUN
    go_wp2_with fail
    have HB3 := Lib.hid HK3.out.st.bel.drew
    refine wp_region_noPanic ?_
    refine wp_region_held_drew (S := (fun w' => w'.cell? ⟨gl, ol, none⟩ = some (.int .i64 va) ∧ w'.cell? ⟨gl, ol + 1, none⟩ = some (.int .i64 vb) ∧ w'.cell? ⟨gl, ol + 2, none⟩ = some (.int .i64 vc) ∧ w'.cell? ⟨gl, ol + 4, none⟩ = some (.int .i64 vc) ∧ w'.cell? ⟨gl, ol + 5, none⟩ = some (.int .i64 va) ∧ w'.cell? ⟨gl, ol + 6, none⟩ = some (.int .i64 vb))) (by kernel_rfl) ?_ (fun hHeld => ?_)
    · ((try dsimp only); first | (go_simp; done) | (simp [*]; done))
    refine wpAnyH_take (i := 0) (v := ?_) rfl (by kernel_rfl) (by kernel_rfl) (by kernel_rfl) (fun _ _ _ h => h) (Or.inl ⟨by rfl, ?_⟩) (by assumption) ?_
    rotate_left
    · (intro w hSw; (try dsimp only at hSw); go_simp; try with_reducible rfl)
    try simp only [List.getElem_toArray, List.getElem_cons_zero, Act.put, List.setIfInBounds_toArray, List.set_cons_zero, List.set_cons_succ]
    refine wpAnyH_take (i := 1) (v := ?_) rfl (by kernel_rfl) (by kernel_rfl) (by kernel_rfl) (fun _ _ _ h => h) (Or.inl ⟨by rfl, ?_⟩) (by assumption) ?_
    rotate_left
    · (intro w hSw; (try dsimp only at hSw); go_simp; try with_reducible rfl)
    try simp only [List.getElem_toArray, List.getElem_cons_succ, List.getElem_cons_zero, Act.put, List.setIfInBounds_toArray, List.set_cons_zero, List.set_cons_succ]
    refine wpAnyH_take (i := 2) (v := ?_) rfl (by kernel_rfl) (by kernel_rfl) (by kernel_rfl) (fun _ _ _ h => h) (Or.inl ⟨by rfl, ?_⟩) (by assumption) ?_
    rotate_left
    · (intro w hSw; (try dsimp only at hSw); go_simp; try with_reducible rfl)
    try simp only [List.getElem_toArray, List.getElem_cons_succ, List.getElem_cons_zero, Act.put, List.setIfInBounds_toArray, List.set_cons_zero, List.set_cons_succ]
    refine wpAnyH_take (i := 3) (v := ?_) rfl (by kernel_rfl) (by kernel_rfl) (by kernel_rfl) (fun _ _ _ h => h) (Or.inl ⟨by rfl, ?_⟩) (by assumption) ?_
    rotate_left
    · (intro w hSw; (try dsimp only at hSw); go_simp; try with_reducible rfl)
    try simp only [List.getElem_toArray, List.getElem_cons_succ, List.getElem_cons_zero, Act.put, List.setIfInBounds_toArray, List.set_cons_zero, List.set_cons_succ]
    refine wpAnyH_take (i := 4) (v := ?_) rfl (by kernel_rfl) (by kernel_rfl) (by kernel_rfl) (fun _ _ _ h => h) (Or.inl ⟨by rfl, ?_⟩) (by assumption) ?_
    rotate_left
    · (intro w hSw; (try dsimp only at hSw); go_simp; try with_reducible rfl)
    try simp only [List.getElem_toArray, List.getElem_cons_succ, List.getElem_cons_zero, Act.put, List.setIfInBounds_toArray, List.set_cons_zero, List.set_cons_succ]
    refine wpAnyH_take (i := 5) (v := ?_) rfl (by kernel_rfl) (by kernel_rfl) (by kernel_rfl) (fun _ _ _ h => h) (Or.inl ⟨by rfl, ?_⟩) (by assumption) ?_
    rotate_left
    · (intro w hSw; (try dsimp only at hSw); go_simp; try with_reducible rfl)
    try simp only [List.getElem_toArray, List.getElem_cons_succ, List.getElem_cons_zero, Act.put, List.setIfInBounds_toArray, List.set_cons_zero, List.set_cons_succ]
    refine wpAnyH_take (i := 6) (v := ?_) rfl (by kernel_rfl) (by kernel_rfl) (by kernel_rfl) (fun _ _ _ h => h) (Or.inl ⟨by rfl, ?_⟩) (by assumption) ?_
    rotate_left
    · (intro w hSw; (try dsimp only at hSw); go_simp; try with_reducible rfl)
    try simp only [List.getElem_toArray, List.getElem_cons_succ, List.getElem_cons_zero, Act.put, List.setIfInBounds_toArray, List.set_cons_zero, List.set_cons_succ]
    refine wpAnyH_take (i := 7) (v := ?_) rfl (by kernel_rfl) (by kernel_rfl) (by kernel_rfl) (fun _ _ _ h => h) (Or.inl ⟨by rfl, ?_⟩) (by assumption) ?_
    rotate_left
    · (intro w hSw; (try dsimp only at hSw); go_simp; try with_reducible rfl)
    try simp only [List.getElem_toArray, List.getElem_cons_succ, List.getElem_cons_zero, Act.put, List.setIfInBounds_toArray, List.set_cons_zero, List.set_cons_succ]
    refine wpAnyH_take (i := 8) (v := ?_) rfl (by kernel_rfl) (by kernel_rfl) (by kernel_rfl) (fun _ _ _ h => h) (Or.inl ⟨by rfl, ?_⟩) (by assumption) ?_
    rotate_left
    · (intro w hSw; (try dsimp only at hSw); go_simp; try with_reducible rfl)
    try simp only [List.getElem_toArray, List.getElem_cons_succ, List.getElem_cons_zero, Act.put, List.setIfInBounds_toArray, List.set_cons_zero, List.set_cons_succ]
    refine wpAnyH_take (i := 9) (v := ?_) rfl (by kernel_rfl) (by kernel_rfl) (by kernel_rfl) (fun _ _ _ h => h) (Or.inl ⟨by rfl, ?_⟩) (by assumption) ?_
    rotate_left
    · (intro w hSw; (try dsimp only at hSw); go_simp; try with_reducible rfl)
    try simp only [List.getElem_toArray, List.getElem_cons_succ, List.getElem_cons_zero, Act.put, List.setIfInBounds_toArray, List.set_cons_zero, List.set_cons_succ]
    refine wpAnyH_take (i := 10) (v := ?_) rfl (by kernel_rfl) (by kernel_rfl) (by kernel_rfl) (fun _ _ _ h => h) (Or.inl ⟨by rfl, ?_⟩) (by assumption) ?_
    rotate_left
    · (intro w hSw; (try dsimp only at hSw); go_simp; try with_reducible rfl)
    try simp only [List.getElem_toArray, List.getElem_cons_succ, List.getElem_cons_zero, Act.put, List.setIfInBounds_toArray, List.set_cons_zero, List.set_cons_succ]
    refine wpAnyH_take (i := 11) (v := ?_) rfl (by kernel_rfl) (by kernel_rfl) (by kernel_rfl) (fun _ _ _ h => h) (Or.inl ⟨by rfl, ?_⟩) (by assumption) ?_
    rotate_left
    · (intro w hSw; (try dsimp only at hSw); go_simp; try with_reducible rfl)
    try simp only [List.getElem_toArray, List.getElem_cons_succ, List.getElem_cons_zero, Act.put, List.setIfInBounds_toArray, List.set_cons_zero, List.set_cons_succ]
    refine wpAnyH_take (i := 12) (v := ?_) rfl (by kernel_rfl) (by kernel_rfl) (by kernel_rfl) (fun _ _ _ h => h) (Or.inl ⟨by rfl, ?_⟩) (by assumption) ?_
    rotate_left
    · (intro w hSw; (try dsimp only at hSw); go_simp; try with_reducible rfl)
    try simp only [List.getElem_toArray, List.getElem_cons_succ, List.getElem_cons_zero, Act.put, List.setIfInBounds_toArray, List.set_cons_zero, List.set_cons_succ]
    refine wpAnyH_take (i := 13) (v := ?_) rfl (by kernel_rfl) (by kernel_rfl) (by kernel_rfl) (fun _ _ _ h => h) (Or.inl ⟨by rfl, ?_⟩) (by assumption) ?_
    rotate_left
    · (intro w hSw; (try dsimp only at hSw); go_simp; try with_reducible rfl)
    try simp only [List.getElem_toArray, List.getElem_cons_succ, List.getElem_cons_zero, Act.put, List.setIfInBounds_toArray, List.set_cons_zero, List.set_cons_succ]
    refine wpAnyH_take (i := 14) (v := ?_) rfl (by kernel_rfl) (by kernel_rfl) (by kernel_rfl) (fun _ _ _ h => h) (Or.inl ⟨by rfl, ?_⟩) (by assumption) ?_
    rotate_left
    · (intro w hSw; (try dsimp only at hSw); go_simp; try with_reducible rfl)
    try simp only [List.getElem_toArray, List.getElem_cons_succ, List.getElem_cons_zero, Act.put, List.setIfInBounds_toArray, List.set_cons_zero, List.set_cons_succ]
    refine wpAnyH_take (i := 15) (v := ?_) rfl (by kernel_rfl) (by kernel_rfl) (by kernel_rfl) (fun _ _ _ h => h) (Or.inl ⟨by rfl, ?_⟩) (by assumption) ?_
    rotate_left
    · (intro w hSw; (try dsimp only at hSw); go_simp; try with_reducible rfl)
    try simp only [List.getElem_toArray, List.getElem_cons_succ, List.getElem_cons_zero, Act.put, List.setIfInBounds_toArray, List.set_cons_zero, List.set_cons_succ]
    refine wpAnyH_take (i := 16) (v := ?_) rfl (by kernel_rfl) (by kernel_rfl) (by kernel_rfl) (fun _ _ _ h => h) (Or.inl ⟨by rfl, ?_⟩) (by assumption) ?_
    rotate_left
    · (intro w hSw; (try dsimp only at hSw); go_simp; try with_reducible rfl)
    try simp only [List.getElem_toArray, List.getElem_cons_succ, List.getElem_cons_zero, Act.put, List.setIfInBounds_toArray, List.set_cons_zero, List.set_cons_succ]
    refine wpAnyH_take (i := 17) (v := ?_) rfl (by kernel_rfl) (by kernel_rfl) (by kernel_rfl) (fun _ _ _ h => h) (Or.inl ⟨by rfl, ?_⟩) (by assumption) ?_
    rotate_left
    · (intro w hSw; (try dsimp only at hSw); go_simp; try with_reducible rfl)
    try simp only [List.getElem_toArray, List.getElem_cons_succ, List.getElem_cons_zero, Act.put, List.setIfInBounds_toArray, List.set_cons_zero, List.set_cons_succ]
    refine wpAnyH_take (i := 18) (v := ?_) rfl (by kernel_rfl) (by kernel_rfl) (by kernel_rfl) (fun _ _ _ h => h) (Or.inl ⟨by rfl, ?_⟩) (by assumption) ?_
    rotate_left
    · (intro w hSw; (try dsimp only at hSw); go_simp; try with_reducible rfl)
    try simp only [List.getElem_toArray, List.getElem_cons_succ, List.getElem_cons_zero, Act.put, List.setIfInBounds_toArray, List.set_cons_zero, List.set_cons_succ]
    refine wpAnyH_take (i := 19) (v := ?_) rfl (by kernel_rfl) (by kernel_rfl) (by kernel_rfl) (fun _ _ _ h => h) (Or.inl ⟨by rfl, ?_⟩) (by assumption) ?_
    rotate_left
    · (intro w hSw; (try dsimp only at hSw); go_simp; try with_reducible rfl)
    try simp only [List.getElem_toArray, List.getElem_cons_succ, List.getElem_cons_zero, Act.put, List.setIfInBounds_toArray, List.set_cons_zero, List.set_cons_succ]
    refine wpAnyH_take (i := 20) (v := ?_) rfl (by kernel_rfl) (by kernel_rfl) (by kernel_rfl) (fun _ _ _ h => h) (Or.inl ⟨by rfl, ?_⟩) (by assumption) ?_
    rotate_left
    · (intro w hSw; (try dsimp only at hSw); go_simp; try with_reducible rfl)
    try simp only [List.getElem_toArray, List.getElem_cons_succ, List.getElem_cons_zero, Act.put, List.setIfInBounds_toArray, List.set_cons_zero, List.set_cons_succ]
    refine wpAnyH_take (i := 21) (v := ?_) rfl (by kernel_rfl) (by kernel_rfl) (by kernel_rfl) (fun _ _ _ h => h) (Or.inl ⟨by rfl, ?_⟩) (by assumption) ?_
    rotate_left
    · (intro w hSw; (try dsimp only at hSw); go_simp; try with_reducible rfl)
    try simp only [List.getElem_toArray, List.getElem_cons_succ, List.getElem_cons_zero, Act.put, List.setIfInBounds_toArray, List.set_cons_zero, List.set_cons_succ]
    refine wpAnyH_take (i := 22) (v := ?_) rfl (by kernel_rfl) (by kernel_rfl) (by kernel_rfl) (fun _ _ _ h => h) (Or.inl ⟨by rfl, ?_⟩) (by assumption) ?_
    rotate_left
    · (intro w hSw; (try dsimp only at hSw); go_simp; try with_reducible rfl)
    try simp only [List.getElem_toArray, List.getElem_cons_succ, List.getElem_cons_zero, Act.put, List.setIfInBounds_toArray, List.set_cons_zero, List.set_cons_succ]
    refine wpAnyH_take (i := 23) (v := ?_) rfl (by kernel_rfl) (by kernel_rfl) (by kernel_rfl) (fun _ _ _ h => h) (Or.inl ⟨by rfl, ?_⟩) (by assumption) ?_
    rotate_left
    · (intro w hSw; (try dsimp only at hSw); go_simp; try with_reducible rfl)
    try simp only [List.getElem_toArray, List.getElem_cons_succ, List.getElem_cons_zero, Act.put, List.setIfInBounds_toArray, List.set_cons_zero, List.set_cons_succ]
    refine wpAnyH_take (i := 24) (v := ?_) rfl (by kernel_rfl) (by kernel_rfl) (by kernel_rfl) (fun _ _ _ h => h) (Or.inl ⟨by rfl, ?_⟩) (by assumption) ?_
    rotate_left
    · (intro w hSw; (try dsimp only at hSw); go_simp; try with_reducible rfl)
    try simp only [List.getElem_toArray, List.getElem_cons_succ, List.getElem_cons_zero, Act.put, List.setIfInBounds_toArray, List.set_cons_zero, List.set_cons_succ]
    refine wpAnyH_take (i := 25) (v := ?_) rfl (by kernel_rfl) (by kernel_rfl) (by kernel_rfl) (fun _ _ _ h => h) (Or.inl ⟨by rfl, ?_⟩) (by assumption) ?_
    rotate_left
    · (intro w hSw; (try dsimp only at hSw); go_simp; try with_reducible rfl)
    try simp only [List.getElem_toArray, List.getElem_cons_succ, List.getElem_cons_zero, Act.put, List.setIfInBounds_toArray, List.set_cons_zero, List.set_cons_succ]
    refine wpAnyH_take (i := 26) (v := ?_) rfl (by kernel_rfl) (by kernel_rfl) (by kernel_rfl) (fun _ _ _ h => h) (Or.inl ⟨by rfl, ?_⟩) (by assumption) ?_
    rotate_left
    · (intro w hSw; (try dsimp only at hSw); go_simp; try with_reducible rfl)
    try simp only [List.getElem_toArray, List.getElem_cons_succ, List.getElem_cons_zero, Act.put, List.setIfInBounds_toArray, List.set_cons_zero, List.set_cons_succ]
    refine wpAnyH_take (i := 27) (v := ?_) rfl (by kernel_rfl) (by kernel_rfl) (by kernel_rfl) (fun _ _ _ h => h) (Or.inl ⟨by rfl, ?_⟩) (by assumption) ?_
    rotate_left
    · (intro w hSw; (try dsimp only at hSw); go_simp; try with_reducible rfl)
    try simp only [List.getElem_toArray, List.getElem_cons_succ, List.getElem_cons_zero, Act.put, List.setIfInBounds_toArray, List.set_cons_zero, List.set_cons_succ]
    refine wpAnyH_take (i := 28) (v := ?_) rfl (by kernel_rfl) (by kernel_rfl) (by kernel_rfl) (fun _ _ _ h => h) (Or.inl ⟨by rfl, ?_⟩) (by assumption) ?_
    rotate_left
    · (intro w hSw; (try dsimp only at hSw); go_simp; try with_reducible rfl)
    try simp only [List.getElem_toArray, List.getElem_cons_succ, List.getElem_cons_zero, Act.put, List.setIfInBounds_toArray, List.set_cons_zero, List.set_cons_succ]
    refine wpAnyH_take (i := 29) (v := ?_) rfl (by kernel_rfl) (by kernel_rfl) (by kernel_rfl) (fun _ _ _ h => h) (Or.inl ⟨by rfl, ?_⟩) (by assumption) ?_
    rotate_left
    · (intro w hSw; (try dsimp only at hSw); go_simp; try with_reducible rfl)
    try simp only [List.getElem_toArray, List.getElem_cons_succ, List.getElem_cons_zero, Act.put, List.setIfInBounds_toArray, List.set_cons_zero, List.set_cons_succ]
    refine wpAnyH_take (i := 30) (v := ?_) rfl (by kernel_rfl) (by kernel_rfl) (by kernel_rfl) (fun _ _ _ h => h) (Or.inl ⟨by rfl, ?_⟩) (by assumption) ?_
    rotate_left
    · (intro w hSw; (try dsimp only at hSw); go_simp; try with_reducible rfl)
    try simp only [List.getElem_toArray, List.getElem_cons_succ, List.getElem_cons_zero, Act.put, List.setIfInBounds_toArray, List.set_cons_zero, List.set_cons_succ]
    refine wpAnyH_take (i := 31) (v := ?_) rfl (by kernel_rfl) (by kernel_rfl) (by kernel_rfl) (fun _ _ _ h => h) (Or.inl ⟨by rfl, ?_⟩) (by assumption) ?_
    rotate_left
    · (intro w hSw; (try dsimp only at hSw); go_simp; try with_reducible rfl)
    try simp only [List.getElem_toArray, List.getElem_cons_succ, List.getElem_cons_zero, Act.put, List.setIfInBounds_toArray, List.set_cons_zero, List.set_cons_succ]
    refine wpAnyH_take (i := 32) (v := ?_) rfl (by kernel_rfl) (by kernel_rfl) (by kernel_rfl) (fun _ _ _ h => h) (Or.inl ⟨by rfl, ?_⟩) (by assumption) ?_
    rotate_left
    · (intro w hSw; (try dsimp only at hSw); go_simp; try with_reducible rfl)
    try simp only [List.getElem_toArray, List.getElem_cons_succ, List.getElem_cons_zero, Act.put, List.setIfInBounds_toArray, List.set_cons_zero, List.set_cons_succ]
    refine wpAnyH_take (i := 33) (v := ?_) rfl (by kernel_rfl) (by kernel_rfl) (by kernel_rfl) (fun _ _ _ h => h) (Or.inl ⟨by rfl, ?_⟩) (by assumption) ?_
    rotate_left
    · (intro w hSw; (try dsimp only at hSw); go_simp; try with_reducible rfl)
    try simp only [List.getElem_toArray, List.getElem_cons_succ, List.getElem_cons_zero, Act.put, List.setIfInBounds_toArray, List.set_cons_zero, List.set_cons_succ]
    refine wpAnyH_take (i := 34) (v := ?_) rfl (by kernel_rfl) (by kernel_rfl) (by kernel_rfl) (fun _ _ _ h => h) (Or.inl ⟨by rfl, ?_⟩) (by assumption) ?_
    rotate_left
    · (intro w hSw; (try dsimp only at hSw); go_simp; try with_reducible rfl)
    try simp only [List.getElem_toArray, List.getElem_cons_succ, List.getElem_cons_zero, Act.put, List.setIfInBounds_toArray, List.set_cons_zero, List.set_cons_succ]
    refine wpAnyH_ready (rs := [35]) (by kernel_rfl) (by simp) ?_
    refine AllReadyH.cons rfl (fun K hK => ?_) AllReadyH.nil
    go_simp
    (refine (HAw.out _ HB3.out).mono ?_; rintro e w4 ⟨rfl, hb4⟩; have HB4 := Lib.hid (HB3.out.trans (hb4.mono HB3.out.size)); have y0 := (hb4.cell (p := ⟨gl, ol, none⟩) hgl).trans y0; have y1 := (hb4.cell (p := ⟨gl, ol + 1, none⟩) hgl).trans y1; have y2 := (hb4.cell (p := ⟨gl, ol + 2, none⟩) hgl).trans y2; have y4 := (hb4.cell (p := ⟨gl, ol + 4, none⟩) hgl).trans y4; have y5 := (hb4.cell (p := ⟨gl, ol + 5, none⟩) hgl).trans y5; have y6 := (hb4.cell (p := ⟨gl, ol + 6, none⟩) hgl).trans y6; clear hb4)
    go_wp2_with fail
    refine hK.out _ _ ?_ (fun hHeld => ?_)
    · ((try dsimp only); first | (go_simp; done) | (simp [*]; done))
    clear hK K
    try simp only [List.getElem_toArray, List.getElem_cons_succ, List.getElem_cons_zero, Act.put, List.setIfInBounds_toArray, List.set_cons_zero, List.set_cons_succ]
    refine wpAnyH_take (i := 36) (v := ?_) rfl (by kernel_rfl) (by kernel_rfl) (by kernel_rfl) (fun _ _ _ h => h) (Or.inl ⟨by rfl, ?_⟩) (by assumption) ?_
    rotate_left
    · (intro w hSw; (try dsimp only at hSw); go_simp; try with_reducible rfl)
    try simp only [List.getElem_toArray, List.getElem_cons_succ, List.getElem_cons_zero, Act.put, List.setIfInBounds_toArray, List.set_cons_zero, List.set_cons_succ]
    refine wpAnyH_take (i := 37) (v := ?_) rfl (by kernel_rfl) (by kernel_rfl) (by kernel_rfl) (fun _ _ _ h => h) (Or.inl ⟨by rfl, ?_⟩) (by assumption) ?_
    rotate_left
    · (intro w hSw; (try dsimp only at hSw); go_simp; try with_reducible rfl)
    try simp only [List.getElem_toArray, List.getElem_cons_succ, List.getElem_cons_zero, Act.put, List.setIfInBounds_toArray, List.set_cons_zero, List.set_cons_succ]
    refine wpAnyH_done (by kernel_rfl) ?_ _
    refine NoPanic.normal ?_
    go_wp2_with fail
    go_ret
    exact ⟨rfl, HB4.out⟩
  · have hno := parts_no (n := n) HX.out.1.1 (by omega : 1048576 ≤ x ∨ 1048576 ≤ y)
    generalize runY 50 [] (pS x y n) [zN] [] 0 = R at *
    obtain ⟨RL, Y, ri, re⟩ := R
    obtain ⟨rfl, rfl⟩ : Y = [] ∧ re = 12 := hno
    simp only [List.length_nil] at HRUN
    rcases (show 1048576 ≤ x ∨ (¬ 1048576 ≤ x ∧ 1048576 ≤ y) by omega) with h | ⟨h, h2⟩
    all_goals
      clear hxy
      go_wp2_with fail
      go_at_call 25
      refine HRUN.out.mono ?_
      rintro e w3 ⟨sy, cy, g', cap', M, rfl, -, -, hK3, -, -, -, -⟩
      have HK3 := Lib.hid hK3
      clear hK3 HRUN
      go_wp2_with fail
      go_at_call 23
      refine (HAw.out _ HK3.out.st.bel).mono ?_
      rintro e w4 ⟨rfl, hb4⟩
      have HB4 := Lib.hid (HK3.out.st.bel.trans (hb4.mono HK3.out.st.bel.size))
      clear hb4
      go_wp2_with fail
      go_ret
      exact ⟨rfl, HB4.out⟩
end Go.Proofs.YtemigefkkjgehaaDoor
