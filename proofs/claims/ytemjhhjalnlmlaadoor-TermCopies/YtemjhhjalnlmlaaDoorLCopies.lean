/- The walk of TermCopies: what is made in a copy is not made in the arena itself; a term that is there is made again as it was. -/
import Derived.Test.YtemjhhjalnlmlaaDoorLFinds
import Derived.Test.YtemjhhjalnlmlaaDoorWs
namespace Go.Proofs.YtemjhhjalnlmlaaDoor
open Go.RowKit Go.Maps

set_option maxHeartbeats 1000000 in
theorem copies_long (s : Option Addr) (n c : Nat) (hn : 40 < n) (hm : n ≤ maxLen) (d : Nd) (hd : d.ok) (w : World) (hs : Shp w) :
    Calls Tryd.prog 6 #[.slice s n c, agg d] w fun e w' => e = .returned (.bool true) ∧ Below w.heap.size w w' := by
  unfold maxLen at hm
  obtain ⟨k1, n1, a1, b1, c1⟩ := d
  unfold agg
  have HB := Lib.hid (fun o => (Below.refl w.heap.size w).alloc (Nat.le_refl _) o)
  have HW := Lib.hid (fun o => awake_any (w.alloc o) (hs.below (HB.out o)))
  have hn1 : (40 : Int) < (n : Int) := by omega
  go_enter Tryd.func6, Tryd.ntmps6
  go_wp2_with (go_at_call 11; refine (HW.out _).mono ?_; rintro e w5 ⟨rfl, hb5⟩)
  go_ret
  exact ⟨rfl, (HB.out _).trans (hb5.mono (HB.out _).size)⟩

theorem Kept.old {w w' : World} {b g bm B : Nat} (h : Kept w w' b g bm) (hB : B ≤ w.heap.size) (h1 : B ≤ b) (h2 : B ≤ g) (h3 : B ≤ bm) : Below B w w' :=
  h.below (Below.refl _ _) hB h1 h2 h3

/-- A making that changes no term: the pair stands. -/
theorem Pair.again {w wr W w' : World} {b g bm cap gr capr lim g' cap' : Nat} {L : List Nd} (h : Pair w wr b g bm cap gr capr lim L) (hW : Below wr.heap.size wr W) (hA : Ar w' b g' bm cap' lim L) (hg : g' = g ∨ W.heap.size ≤ g') (hk : Kept W w' b g bm) : Pair w w' b g' bm cap' gr capr lim L := by
  have hP := h.below hW
  have l1 := hP.lt
  refine ⟨hP.st.step hA hg hk, hP.row.keep (hk.block gr hP.lt h.nb h.ng h.nm), Nat.lt_of_lt_of_le hP.lt hk.size, h.ge, h.nb, ?_, h.nm⟩
  rcases hg with e | e
  · rw [e]; exact h.ng
  · omega

set_option maxHeartbeats 4000000 in
theorem copies_good (s : Option Addr) (c : Nat) (ns : List Nd) (hn : ns.length ≤ 40) (d : Nd) (hd : d.ok) (w : World) (hs : Shp w) (hB : BuiltAt w (.slice s ns.length c) ns) :
    Calls Tryd.prog 6 #[.slice s ns.length c, agg d] w fun e w' => e = .returned (.bool true) ∧ Below w.heap.size w w' := by
  obtain ⟨k1, n1, a1, b1, c1⟩ := d
  unfold agg
  have HS := Lib.hid hs; clear hs
  have HD := Lib.hid hd; clear hd
  have HB0 := Lib.hid (fun o => (Below.refl w.heap.size w).alloc (Nat.le_refl _) o)
  have HB := Lib.hid (fun o => hB 100 100 (by decide) (w.alloc o) (HB0.out o)); clear hB
  have hn1 : decide ((40 : Int) < (ns.length : Int)) = false := by simp; omega
  go_enter Tryd.func6, Tryd.ntmps6
  go_wp2_with fail
  refine (HB.out _).mono ?_
  rintro e w1 ⟨b, g, bm, cap, gr, capr, rfl, hP⟩
  obtain ⟨L, hL⟩ : ∃ L, L = bld 100 ns := ⟨_, rfl⟩
  rw [← hL] at hP ⊢
  clear hL HB
  have p0 : w1.cell? ⟨w.heap.size, 0, none⟩ = some (.int .i64 k1) := (bcell hP.st.bel w.heap.size 0 (by simp)).trans (by go_simp)
  have p1 : w1.cell? ⟨w.heap.size, 1, none⟩ = some (.int .u64 n1) := (bcell hP.st.bel w.heap.size 1 (by simp)).trans (by go_simp)
  have p2 : w1.cell? ⟨w.heap.size, 2, none⟩ = some (.int .i64 a1) := (bcell hP.st.bel w.heap.size 2 (by simp)).trans (by go_simp)
  have p3 : w1.cell? ⟨w.heap.size, 3, none⟩ = some (.int .i64 b1) := (bcell hP.st.bel w.heap.size 3 (by simp)).trans (by go_simp)
  have p4 : w1.cell? ⟨w.heap.size, 4, none⟩ = some (.int .i64 c1) := (bcell hP.st.bel w.heap.size 4 (by simp)).trans (by go_simp)
  have pl : w.heap.size < w1.heap.size := by have := hP.st.bel.size; simp at this; omega
  have HP0 : Hid (Pair w w1 b g bm cap gr capr 100 L) := Lib.hid ⟨St.from (HB0.out _) hP.st, hP.row, hP.lt, Nat.le_trans (HB0.out _).size hP.ge, hP.nb, hP.ng, hP.nm⟩
  clear hP
  have HB1 := Lib.hid (fun o => (Below.refl w1.heap.size w1).alloc (Nat.le_refl _) o)
  have HCP := Lib.hid (fun o => copy_any b g bm cap 100 L (w1.alloc o) (HP0.out.below (HB1.out o)).st.ar)
  go_wp2_with fail
  refine (HCP.out _).mono ?_
  rintro e w2 ⟨b', g', bm', cap', rfl, hA', hb', hg', hm', hb2⟩
  have q0 := (bcell hb2 w.heap.size 0 (by simp; omega)).trans (show _ = some (.int .i64 k1) by go_simp)
  have q1 := (bcell hb2 w.heap.size 1 (by simp; omega)).trans (show _ = some (.int .u64 n1) by go_simp)
  have q2 := (bcell hb2 w.heap.size 2 (by simp; omega)).trans (show _ = some (.int .i64 a1) by go_simp)
  have q3 := (bcell hb2 w.heap.size 3 (by simp; omega)).trans (show _ = some (.int .i64 b1) by go_simp)
  have q4 := (bcell hb2 w.heap.size 4 (by simp; omega)).trans (show _ = some (.int .i64 c1) by go_simp)
  have z0 : w2.cell? ⟨w1.heap.size, 0, none⟩ = some (.int .i64 100) := (bcell hb2 w1.heap.size 0 (by simp)).trans (by go_simp)
  have z1 : w2.cell? ⟨w1.heap.size, 1, none⟩ = some (.slice (some ⟨gr, 0, none⟩) L.length capr) := (bcell hb2 w1.heap.size 1 (by simp)).trans (by go_simp)
  have zl : w1.heap.size < w2.heap.size := by have := hb2.size; simp at this; omega
  have ql : w.heap.size < w2.heap.size := by omega
  have HP2 := Lib.hid ((HP0.out.below (HB1.out _)).below hb2)
  have HA' := Lib.hid hA'
  simp only [World.size_alloc] at hb' hg' hm'
  clear hA' hb2 p0 p1 p2 p3 p4 HCP
  go_wp2_with fail
  refine (mk_any b' g' bm' cap' 100 L k1 n1 a1 b1 c1 w2 HA'.out (HP2.out.st.shp HS.out) HD.out).mono ?_
  rintro e w3 ⟨g3, cap3, rfl, hA3, hg3, hk3⟩
  have hold : Below (w1.heap.size + 1) w2 w3 := hk3.old (by omega) hb' hg' hm'
  have y0 := (cell_keep (hold.block w1.heap.size (by omega)) 0).trans z0
  have y1 := (cell_keep (hold.block w1.heap.size (by omega)) 1).trans z1
  have yl : w1.heap.size < w3.heap.size := Nat.lt_of_lt_of_le zl hk3.size
  have e0 := HP0.out.st.ar.blt
  have e1 := HP0.out.st.ar.glt
  have e2 := HP0.out.st.ar.mlt
  have e3 := HP0.out.lt
  have HP3 : Hid (Pair w w3 b g bm cap gr capr 100 L) := Lib.hid ⟨⟨HP2.out.st.ar.keep (hold.block b (by omega)) (hold.block g (by omega)) (hold.block bm (by omega)), HP2.out.st.bel.trans (hold.mono (by omega)), HP2.out.st.hb, HP2.out.st.hg, HP2.out.st.hm⟩,
    HP2.out.row.keep (hold.block gr (by omega)), by have := hk3.size; have := HP2.out.lt; omega, HP2.out.ge, HP2.out.nb, HP2.out.ng, HP2.out.nm⟩
  have HNE : Hid (w1.heap.size ≠ b ∧ w1.heap.size ≠ g ∧ w1.heap.size ≠ bm) := Lib.hid (by omega)
  clear hA3 hg3 hk3 hold q0 q1 q2 q3 q4 z0 z1 zl ql e0 e1 e2 e3 hb' hg' hm' HA' HP2 HP0 HB1
  generalize mkR 100 L ⟨k1, n1, a1, b1, c1⟩ = r3
  generalize mkE 100 L ⟨k1, n1, a1, b1, c1⟩ = x3
  go_wp2_with fail
  refine (same_any b g bm cap 100 gr capr L w3 HP3.out.st.ar HP3.out.row HP3.out.lt).mono ?_
  rintro e w4 ⟨rfl, hb4⟩
  have HP := Lib.hid (HP3.out.below hb4)
  have x0 := (bcell hb4 w1.heap.size 0 yl).trans y0
  have x1 := (bcell hb4 w1.heap.size 1 yl).trans y1
  have xl : w1.heap.size < w4.heap.size := Nat.lt_of_lt_of_le yl hb4.size
  clear hb4 y0 y1 yl
  have hm : L.length ≤ 65536 := HP.out.st.ar.small
  have HWF := Lib.hid HP.out.st.ar.wf
  have hpos := HP.out.pos
  go_wp2_with fail
  go_loopg [9, 10, 11, 12, 13, 14, 15, 42] L.length (fun r _ _ _ _ _ _ _ u42 wr => ∃ k : Nat, k + r = L.length ∧ u42 = .int .i64 k ∧ ∃ g cap, Pair w wr b g bm cap gr capr 100 L ∧ (w1.heap.size ≠ b ∧ w1.heap.size ≠ g ∧ w1.heap.size ≠ bm) ∧ w1.heap.size < wr.heap.size ∧ wr.cell? ⟨w1.heap.size, 0, none⟩ = some (.int .i64 100) ∧ wr.cell? ⟨w1.heap.size, 1, none⟩ = some (.slice (some ⟨gr, 0, none⟩) L.length capr))
  case atStart => exact ⟨0, by omega, rfl, g, cap, HP.out, HNE.out, xl, x0, x1⟩
  case round =>
    clear HP HNE HP3 xl x0 x1
    clear g cap
    obtain ⟨k, hkr, rfl, g, cap, hP, hne, xl, x0, x1⟩ := hrel
    have HP := Lib.hid hP; clear hP
    have HNE := Lib.hid hne; clear hne
    by_cases hlt : k < L.length
    · have HOKD := Lib.hid (HWF.out.ok k hlt)
      have HIX := Lib.hid (HWF.out.ix_at hlt)
      have HG := Lib.hid (get_yes b g bm cap 100 L k hlt wr HP.out.st.ar)
      obtain ⟨m, hmm⟩ : ∃ m, m = L.getD k zN := ⟨_, rfl⟩
      rw [← hmm] at HOKD HIX HG
      clear hmm
      have HMK := Lib.hid (mk_had (lim := 100) HWF.out HIX.out)
      obtain ⟨k2, n2, a2, b2, e2⟩ := m
      unfold agg at HG
      have hlt1 : (k : Int) < (L.length : Int) := by omega
      go_wp2_with fail
      refine HG.out.mono ?_
      rintro e w5 ⟨rfl, hb5⟩
      have HB5 := Lib.hid hb5
      have HB6 := Lib.hid (fun o => HB5.out.alloc HB5.out.size o)
      have v0 := (bcell hb5 w1.heap.size 0 xl).trans x0
      have v1 := (bcell hb5 w1.heap.size 1 xl).trans x1
      have vl : w1.heap.size < w5.heap.size := Nat.lt_of_lt_of_le xl hb5.size
      clear hb5 x0 x1 xl
      go_wp2_with fail
      refine (mk_any b g bm cap 100 L k2 n2 a2 b2 e2 _ (HP.out.below (HB6.out _)).st.ar ((HP.out.below (HB6.out _)).st.shp HS.out) HOKD.out).mono ?_
      rintro e w6 ⟨g6, cap6, rfl, hA6, hg6, hk6⟩
      rw [HMK.out.1] at hA6
      rw [HMK.out.2.1, HMK.out.2.2]
      have f0 := (HP.out.below HB5.out).st.ar.blt
      have f1 := (HP.out.below HB5.out).st.ar.glt
      have f2 := (HP.out.below HB5.out).st.ar.mlt
      have hbox := (hk6.block w5.heap.size (by simp) (by omega) (by omega) (by omega)).trans (heap_alloc_new w5 _)
      have z0 : w6.cell? ⟨w5.heap.size, 0, none⟩ = some (.int .i64 k2) := by rw [cell_of_row w6 _ 0 _ _ _ hbox]; rfl
      have z1 : w6.cell? ⟨w5.heap.size, 1, none⟩ = some (.int .u64 n2) := by rw [cell_of_row w6 _ 1 _ _ _ hbox]; rfl
      have z2 : w6.cell? ⟨w5.heap.size, 2, none⟩ = some (.int .i64 a2) := by rw [cell_of_row w6 _ 2 _ _ _ hbox]; rfl
      have z3 : w6.cell? ⟨w5.heap.size, 3, none⟩ = some (.int .i64 b2) := by rw [cell_of_row w6 _ 3 _ _ _ hbox]; rfl
      have z4 : w6.cell? ⟨w5.heap.size, 4, none⟩ = some (.int .i64 e2) := by rw [cell_of_row w6 _ 4 _ _ _ hbox]; rfl
      have hblk : w6.heap[w1.heap.size]? = w5.heap[w1.heap.size]? := (hk6.block w1.heap.size (by simp; omega) HNE.out.1 HNE.out.2.1 HNE.out.2.2).trans (Below.heap_alloc _ _ _ vl)
      have u0 := (cell_keep hblk 0).trans v0
      have u1 := (cell_keep hblk 1).trans v1
      have ul : w1.heap.size < w6.heap.size := by have := hk6.size; simp at this; omega
      have HP6 := Lib.hid (HP.out.again (HB6.out _) hA6 hg6 hk6)
      have HNE6 : Hid (w1.heap.size ≠ b ∧ w1.heap.size ≠ g6 ∧ w1.heap.size ≠ bm) := Lib.hid ⟨HNE.out.1, by
        rcases hg6 with h | h
        · rw [h]; exact HNE.out.2.1
        · simp at h; omega, HNE.out.2.2⟩
      clear hA6 hg6 hk6 hbox hblk f0 f1 f2 v0 v1 vl
      go_wp2_with fail
      refine (find_any b g6 bm cap6 100 L k2 n2 a2 b2 e2 w6 HP6.out.st.ar HOKD.out).mono ?_
      rw [HIX.out]
      rintro e w7 ⟨rfl, hb7⟩
      simp only [Option.getD_some, Option.isSome_some]
      have t0 := (bcell hb7 w1.heap.size 0 ul).trans u0
      have t1 := (bcell hb7 w1.heap.size 1 ul).trans u1
      have HP7 := Lib.hid (HP6.out.below hb7)
      have tl : w1.heap.size < w7.heap.size := Nat.lt_of_lt_of_le ul hb7.size
      clear hb7 u0 u1 ul z0 z1 z2 z3 z4
      go_wp2_with fail
      go_roundg (L.length - (k + 1))
      case measure => omega
      case rel => exact ⟨k + 1, by omega, by go_num, g6, cap6, HP7.out, HNE6.out, tl, t0, t1⟩
    · obtain rfl : k = L.length := by omega
      have hlt1 : decide ((L.length : Int) < (L.length : Int)) = false := by simp
      go_wp2_with fail
      refine (same_any b g bm cap 100 gr capr L wr HP.out.st.ar HP.out.row HP.out.lt).mono ?_
      rintro e w5 ⟨rfl, hb5⟩
      have HP5 := Lib.hid (HP.out.below hb5)
      have HAW := Lib.hid (awake_any w5 (HP5.out.st.shp HS.out))
      go_wp2_with (go_at_call 11; refine HAW.out.mono ?_; rintro e w8 ⟨rfl, hb8⟩)
      go_ret
      exact ⟨rfl, (HP5.out.below hb8).st.bel⟩
end Go.Proofs.YtemjhhjalnlmlaaDoor
