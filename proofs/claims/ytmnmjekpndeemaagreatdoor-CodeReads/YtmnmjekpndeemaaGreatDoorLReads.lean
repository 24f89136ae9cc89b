/- The walk of CodeReads: the term of any text, in any arena, or why there is none, is the document's; with an error nothing has changed. -/
import Derived.Test.YtmnmjekpndeemaaGreatDoorUh
import Derived.Test.YtmnmjekpndeemaaGreatDoorQj
import Derived.Test.YtmnmjekpndeemaaGreatDoorLb
namespace Go.Proofs.YtmnmjekpndeemaaGreatDoor
open Go.RowKit Go.Maps Go.Shelf

/-- What lies there behind a reading: the arena, the reference's, and where its value is. -/
structure Cr (w wx : World) (b g bm cap lim : Nat) (M : List Nd) (gr capr : Nat) (L : List Nd) (p : Nat) : Prop where
  st : St w wx b g bm cap lim M
  row : rowAt wx gr L
  lt : gr < wx.heap.size
  box : wx.heap[p]? = some (.cells #[.int .i64 lim, .slice (some ⟨gr, 0, none⟩) L.length capr] 27 (0, 0))
theorem Cr.keep {w wx w' : World} {b g bm cap lim gr capr p : Nat} {M L : List Nd} (h : Cr w wx b g bm cap lim M gr capr L p) (hb : Below wx.heap.size wx w') : Cr w w' b g bm cap lim M gr capr L p :=
  ⟨h.st.keep hb, h.row.keep (hb.block _ h.lt), Nat.lt_of_lt_of_le h.lt hb.size, (hb.block _ (lt_of_heap h.box)).trans h.box⟩
theorem Cr.c0 {w wx : World} {b g bm cap lim gr capr p : Nat} {M L : List Nd} (h : Cr w wx b g bm cap lim M gr capr L p) : wx.cell? ⟨p, 0, none⟩ = some (.int .i64 lim) := (cell_of_row wx _ 0 _ _ _ h.box).trans rfl
theorem Cr.c1 {w wx : World} {b g bm cap lim gr capr p : Nat} {M L : List Nd} (h : Cr w wx b g bm cap lim M gr capr L p) : wx.cell? ⟨p, 1, none⟩ = some (.slice (some ⟨gr, 0, none⟩) L.length capr) := (cell_of_row wx _ 1 _ _ _ h.box).trans rfl

set_option maxRecDepth 100000 in
set_option maxHeartbeats 1000000 in
theorem reads_long (x : Int) (_ : i64ok x) (s : Option Addr) (n c : Nat) (hn : 40 < n) (_hm : n ≤ maxLen) (t : ByteArray) (_ht : t.size ≤ maxLen) (w : World) (hE : Env w) :
    Calls Tryz.prog 3 #[.int .i64 x, .slice s n c, .string t] w fun e w' => e = .returned (.bool true) ∧ Below w.heap.size w w' := by
  have HA := Lib.hid (awake_any w hE)
  have hn1 : (40 : Int) < (n : Int) := by omega
  clear hE
  go_enter Tryz.func3, Tryz.ntmps3
  go_wp2_with (go_at_call 4; refine HA.out.mono ?_; rintro e w2 ⟨rfl, hb2⟩)
  go_ret
  exact ⟨rfl, hb2⟩

set_option maxRecDepth 100000 in
set_option maxHeartbeats 4000000 in
theorem reads_good (x : Int) (_ : i64ok x) (s : Option Addr) (c : Nat) (ns : List Nd) (hn : ns.length ≤ 40) (t : ByteArray) (ht : t.size ≤ maxLen) (w : World) (hE : Env w) (hB : BuiltAt w (.slice s ns.length c) ns) :
    Calls Tryz.prog 3 #[.int .i64 x, .slice s ns.length c, .string t] w fun e w' => e = .returned (.bool true) ∧ Below w.heap.size w w' := by
  have q1 : decide ((40 : Int) < (ns.length : Int)) = false := by simp; omega
  have q2 : ¬ (40 : Int) < (ns.length : Int) := by omega
  have ht' := ht
  unfold maxLen at ht'
  have HAW : Hid (∀ w1, Below w.heap.size w w1 → Calls Tryz.prog 4 #[] w1 fun e w' => e = .returned (.bool true) ∧ Below w1.heap.size w1 w') := Lib.hid (fun w1 h => awake_any w1 (hE.below h))
  by_cases hmid : 600 < t.size ∧ t.size ≤ 16384
  · have m1 : (600 : Int) < (t.size : Int) := by omega
    have m2 : (t.size : Int) ≤ 16384 := by omega
    clear hE hB
    go_enter Tryz.func3, Tryz.ntmps3
    go_wp2_with (go_at_call 4; refine (HAW.out w (Below.refl _ _)).mono ?_; rintro e w2 ⟨rfl, hb2⟩)
    go_ret
    exact ⟨rfl, hb2⟩
  · obtain ⟨lim, hlim⟩ : ∃ lim, lim = limZ x := ⟨_, rfl⟩
    have hlb := limZ_bd x
    rw [← hlim] at hlb
    have HB := Lib.hid (hB x lim hlim.symm w (Below.refl _ _))
    have hbl := (bld_len lim hlb.1 ns).2
    unfold BuiltPost at HB
    obtain ⟨L, hL⟩ : ∃ L, L = bld lim ns := ⟨_, rfl⟩
    rw [← hL] at HB hbl
    obtain ⟨M, hM⟩ : ∃ M, M = rdL lim L t.data.toList := ⟨_, rfl⟩
    obtain ⟨rr, hrr⟩ : ∃ r, r = rdR lim L t.data.toList := ⟨_, rfl⟩
    obtain ⟨ee, hee⟩ : ∃ r, r = rdE lim L t.data.toList := ⟨_, rfl⟩
    have HR : Hid (∀ w1 b g bm cap gr capr, Pair w w1 b g bm cap gr capr lim L → Calls Tryz.prog 6 #[.pointer (some ⟨b, 0, none⟩), .string t] (w1.alloc (.cells #[.int .i64 lim, .slice (some ⟨gr, 0, none⟩) L.length capr] 27)) fun e w3 => ∃ g3 cap3, e = .returned (.tuple #[.int .i64 rr, .int .i64 ee]) ∧ Cr w w3 b g3 bm cap3 lim M gr capr L w1.heap.size) := Lib.hid (fun w1 b g bm cap gr capr hP => by
      have hA0 : Below w1.heap.size w1 (w1.alloc (.cells #[.int .i64 lim, .slice (some ⟨gr, 0, none⟩) L.length capr] 27)) := (Below.refl _ _).alloc (Nat.le_refl _) _
      have hS1 := hP.st.keep hA0
      refine (read_any t ht _ hE hS1).mono ?_
      rintro e w3 ⟨g3, cap3, rfl, hA, hg, hk⟩
      rw [← hM] at hA
      rw [← hrr, ← hee]
      have hb : b < w1.heap.size := World.block_lt_of_cell? w1 _ hP.st.ar.c0
      have hgl := hP.st.ar.glt
      have hml := hP.st.ar.mlt
      have hlt := hP.lt
      refine ⟨g3, cap3, rfl, hS1.step hA hg hk, (hP.row.keep (hA0.block gr hP.lt)).keep (hk.block gr (by simp; omega) hP.nb hP.ng hP.nm), by have := hk.size; simp at this; omega, ?_⟩
      rw [hk.block _ (by simp) (by omega) (by omega) (by omega)]
      exact heap_alloc_new w1 _)
    have HWF : Hid (∀ w1 b g bm cap gr capr, Pair w w1 b g bm cap gr capr lim L → WF L) := Lib.hid (fun w1 b g bm cap gr capr h => h.st.ar.wf)
    clear hL hlim hB
    have HSM : Hid (∀ wx b g bm cap gr capr, St w wx b g bm cap lim M → rowAt wx gr M → gr < wx.heap.size → Calls Tryz.prog 7 #[.pointer (some ⟨b, 0, none⟩), .agg #[.int .i64 lim, .slice (some ⟨gr, 0, none⟩) M.length capr]] wx fun e w' => e = .returned (.bool true) ∧ Below wx.heap.size wx w') := Lib.hid (fun wx b g bm cap gr capr h h1 h2 => same_any b g bm cap lim gr capr M wx h.ar h1 h2)
    by_cases hbig : 16384 < t.size
    · obtain ⟨h1, h2, h3⟩ := reads_long' (lim := lim) (M := L) (s := t.data.toList) (by rw [← Lib.size_eq]; exact hbig)
      rw [← hee] at h1
      rw [← hM] at h2
      rw [← hrr] at h3
      subst h1 h2 h3
      have m1 : (16384 : Int) < (t.size : Int) := by omega
      have m2 : ¬ (t.size : Int) ≤ 16384 := by omega
      have m3 : (600 : Int) < (t.size : Int) := by omega
      clear hE hM hrr hee hmid
      go_enter Tryz.func3, Tryz.ntmps3
      go_wp2_with (first
        | (go_at_call 5; refine HB.out.mono ?_; rintro e w1 ⟨b, g, bm, cap, gr, capr, rfl, hP⟩)
        | (go_at_call 6; refine (HR.out w1 b g bm cap gr capr hP).mono ?_; rintro e w3 ⟨g3, cap3, rfl, hC3⟩; have a0 := hC3.c0; have a1 := hC3.c1; have l3 := lt_of_heap hC3.box)
        | (go_at_call 7; refine (HSM.out _ b g3 bm cap3 gr capr hC3.st hC3.row hC3.lt).mono ?_; rintro e w8 ⟨rfl, hb8⟩; have hC8 := hC3.keep hb8)
        | (go_at_call 4; refine (HAW.out _ hC8.st.bel).mono ?_; rintro e w9 ⟨rfl, hb9⟩; have hC9 := hC8.keep hb9))
      go_ret
      exact ⟨rfl, hC9.st.bel⟩
    · have hsz : t.size ≤ 16384 := by omega
      have hsz' : t.data.toList.length ≤ 16384 := by rw [← Lib.size_eq]; exact hsz
      have m1 : ¬ (16384 : Int) < (t.size : Int) := by omega
      have m4 : decide ((16384 : Int) < (t.size : Int)) = false := by simpa using m1
      have m3 : ¬ (600 : Int) < (t.size : Int) := by omega
      have m5 : decide ((600 : Int) < (t.size : Int)) = false := by simpa using m3
      have HRD1 : Hid (∀ W g4, rowAt W g4 [zN] → g4 < W.heap.size → Calls Tryz.prog 8 #[.agg #[.int .i64 65536, .slice (some ⟨g4, 0, none⟩) 1 1], .string t] W fun e w' => (∃ g n cap r, e = .returned (.tuple #[.agg #[.int .i64 65536, .slice (some ⟨g, 0, none⟩) n cap], .int .i64 r, .bool (rrd 65536 [zN] t.data.toList).isSome]) ∧ ∀ x, rrd 65536 [zN] t.data.toList = some x → n = x.1.length ∧ r = x.2 ∧ rowAt w' g x.1 ∧ g < w'.heap.size) ∧ Below W.heap.size W w') := Lib.hid (fun W g4 h1 h2 => refRead_any t hsz 65536 (by omega) [zN] WF.one (by simp) g4 1 W h1 h2)
      cases hown : rrd 65536 [zN] t.data.toList with
      | none =>
        obtain ⟨h1, h2, h3⟩ := reads_form' (lim := lim) (M := L) hsz' hown
        rw [← hee] at h1
        rw [← hM] at h2
        rw [← hrr] at h3
        subst h1 h2 h3
        rw [hown] at HRD1
        clear hE hM hrr hee hmid hown
        go_enter Tryz.func3, Tryz.ntmps3
        go_wp2_with (first
        | (go_at_call 5; refine HB.out.mono ?_; rintro e w1 ⟨b, g, bm, cap, gr, capr, rfl, hP⟩)
        | (go_at_call 6; refine (HR.out w1 b g bm cap gr capr hP).mono ?_; rintro e w3 ⟨g3, cap3, rfl, hC3⟩; have a0 := hC3.c0; have a1 := hC3.c1; have l3 := lt_of_heap hC3.box)
        | (go_at_call 9; refine (refNew_any 65536 w3).mono ?_; rintro e w4 ⟨g4, rfl, hRf, hb4⟩; rw [show ((limZ 65536 : Nat) : Int) = 65536 by decide]; have hC4 := hC3.keep hb4)
        | (go_at_call 8; refine (HRD1.out w4 g4 hRf.row hRf.lt).mono ?_; rintro e w5 ⟨⟨g5, n5, cap5, r5, rfl, hx5⟩, hb5⟩; have hC5 := hC4.keep hb5; have p0 := hC5.c0; have p1 := hC5.c1; have l5 := lt_of_heap hC5.box)
        | (go_at_call 7; refine (HSM.out _ b g3 bm cap3 gr capr (hC5.keep ((Below.refl _ _).alloc (Nat.le_refl _) _)).st (hC5.keep ((Below.refl _ _).alloc (Nat.le_refl _) _)).row (hC5.keep ((Below.refl _ _).alloc (Nat.le_refl _) _)).lt).mono ?_; rintro e w8 ⟨rfl, hb8⟩; have hC8 := (hC5.keep ((Below.refl _ _).alloc (Nat.le_refl _) _)).keep hb8)
        | (go_at_call 4; refine (HAW.out _ hC8.st.bel).mono ?_; rintro e w9 ⟨rfl, hb9⟩; have hC9 := hC8.keep hb9))
        go_ret
        exact ⟨rfl, hC9.st.bel⟩
      | some xo =>
        have hpos : 1 ≤ xo.1.length := by
          have h := hown
          rw [rrd_own hsz'] at h
          exact (pars_ok (own := xo.1) (ref := xo.2) h).1.pos
        have HOWN := Lib.hid hown
        rw [hown] at HRD1
        clear hown
        by_cases hwf : WF L
        · have HRD2 : Hid (∀ W gr capr, rowAt W gr L → gr < W.heap.size → Calls Tryz.prog 8 #[.agg #[.int .i64 lim, .slice (some ⟨gr, 0, none⟩) L.length capr], .string t] W fun e w' => (∃ g n cap r, e = .returned (.tuple #[.agg #[.int .i64 lim, .slice (some ⟨g, 0, none⟩) n cap], .int .i64 r, .bool (rrd lim L t.data.toList).isSome]) ∧ ∀ x, rrd lim L t.data.toList = some x → n = x.1.length ∧ r = x.2 ∧ rowAt w' g x.1 ∧ g < w'.heap.size) ∧ Below W.heap.size W w') := Lib.hid (fun W gr capr h1 h2 => refRead_any t hsz lim hlb.2 L hwf hbl gr capr W h1 h2)
          cases hroom : rrd lim L t.data.toList with
          | none =>
            obtain ⟨h1, h2, h3⟩ := reads_full' hwf hbl hlb.2 hsz' HOWN.out hroom
            rw [← hee] at h1
            rw [← hM] at h2
            rw [← hrr] at h3
            subst h1 h2 h3
            rw [hroom] at HRD2
            clear hE hM hrr hee hmid hroom hwf
            go_enter Tryz.func3, Tryz.ntmps3
            go_wp2_with (first
        | (go_at_call 5; refine HB.out.mono ?_; rintro e w1 ⟨b, g, bm, cap, gr, capr, rfl, hP⟩)
        | (go_at_call 6; refine (HR.out w1 b g bm cap gr capr hP).mono ?_; rintro e w3 ⟨g3, cap3, rfl, hC3⟩; have a0 := hC3.c0; have a1 := hC3.c1; have l3 := lt_of_heap hC3.box)
        | (go_at_call 9; refine (refNew_any 65536 w3).mono ?_; rintro e w4 ⟨g4, rfl, hRf, hb4⟩; rw [show ((limZ 65536 : Nat) : Int) = 65536 by decide]; have hC4 := hC3.keep hb4)
        | (go_at_call 8; have _hq := hC5; clear _hq; refine (HRD2.out _ gr capr (hC5.keep ((Below.refl _ _).alloc (Nat.le_refl _) _)).row (hC5.keep ((Below.refl _ _).alloc (Nat.le_refl _) _)).lt).mono ?_; rintro e w6 ⟨⟨g6, n6, cap6, r6, rfl, hx6⟩, hb6⟩; have hC6 := (hC5.keep ((Below.refl _ _).alloc (Nat.le_refl _) _)).keep hb6; have e0 := hC6.c0; have e1 := hC6.c1; have l6 := lt_of_heap hC6.box)
        | (go_at_call 8; refine (HRD1.out w4 g4 hRf.row hRf.lt).mono ?_; rintro e w5 ⟨⟨g5, n5, cap5, r5, rfl, hx5⟩, hb5⟩; have hC5 := hC4.keep hb5; have p0 := hC5.c0; have p1 := hC5.c1; have l5 := lt_of_heap hC5.box; have hn5 := (hx5 xo rfl).1; have hn6 : ¬ (n5 : Int) < 1 := (by omega); have hn7 : decide ((n5 : Int) < 1) = false := (by simpa using hn6); clear hn5 hx5)
        | (go_at_call 7; refine (HSM.out _ b g3 bm cap3 gr capr (hC6.keep ((Below.refl _ _).alloc (Nat.le_refl _) _)).st (hC6.keep ((Below.refl _ _).alloc (Nat.le_refl _) _)).row (hC6.keep ((Below.refl _ _).alloc (Nat.le_refl _) _)).lt).mono ?_; rintro e w8 ⟨rfl, hb8⟩; have hC8 := (hC6.keep ((Below.refl _ _).alloc (Nat.le_refl _) _)).keep hb8)
        | (go_at_call 4; refine (HAW.out _ hC8.st.bel).mono ?_; rintro e w9 ⟨rfl, hb9⟩; have hC9 := hC8.keep hb9))
            go_ret
            exact ⟨rfl, hC9.st.bel⟩
          | some xr =>
            obtain ⟨h1, h2, h3⟩ := reads_room' hwf hbl hlb.2 hsz' HOWN.out hroom
            rw [← hee] at h1
            rw [← hM] at h2
            rw [← hrr] at h3
            obtain ⟨M', r'⟩ := xr
            subst h1 h2 h3
            rw [hroom] at HRD2
            clear hE hM hrr hee hmid hroom hwf
            go_enter Tryz.func3, Tryz.ntmps3
            go_wp2_with (first
        | (go_at_call 5; refine HB.out.mono ?_; rintro e w1 ⟨b, g, bm, cap, gr, capr, rfl, hP⟩)
        | (go_at_call 6; refine (HR.out w1 b g bm cap gr capr hP).mono ?_; rintro e w3 ⟨g3, cap3, rfl, hC3⟩; have a0 := hC3.c0; have a1 := hC3.c1; have l3 := lt_of_heap hC3.box)
        | (go_at_call 9; refine (refNew_any 65536 w3).mono ?_; rintro e w4 ⟨g4, rfl, hRf, hb4⟩; rw [show ((limZ 65536 : Nat) : Int) = 65536 by decide]; have hC4 := hC3.keep hb4)
        | (go_at_call 8; have _hq := hC5; clear _hq; refine (HRD2.out _ gr capr (hC5.keep ((Below.refl _ _).alloc (Nat.le_refl _) _)).row (hC5.keep ((Below.refl _ _).alloc (Nat.le_refl _) _)).lt).mono ?_; rintro e w6 ⟨⟨g6, n6, cap6, r6, rfl, hx6⟩, hb6⟩; have hC6 := (hC5.keep ((Below.refl _ _).alloc (Nat.le_refl _) _)).keep hb6; have e0 := hC6.c0; have e1 := hC6.c1; have l6 := lt_of_heap hC6.box; obtain ⟨y1, y2, y3, y4⟩ := hx6 _ rfl; clear hx6; subst y1 y2)
        | (go_at_call 8; refine (HRD1.out w4 g4 hRf.row hRf.lt).mono ?_; rintro e w5 ⟨⟨g5, n5, cap5, r5, rfl, hx5⟩, hb5⟩; have hC5 := hC4.keep hb5; have p0 := hC5.c0; have p1 := hC5.c1; have l5 := lt_of_heap hC5.box; have hn5 := (hx5 xo rfl).1; have hn6 : ¬ (n5 : Int) < 1 := (by omega); have hn7 : decide ((n5 : Int) < 1) = false := (by simpa using hn6); clear hn5 hx5)
        | (go_at_call 7; have hC7 := hC6.keep ((Below.refl w6.heap.size w6).alloc (Nat.le_refl _) (.cells #[.int .i64 lim, .slice (some ⟨g6, 0, none⟩) M.length cap6] 27)); refine (HSM.out _ b g3 bm cap3 g6 cap6 hC7.st (y3.keep (Below.heap_alloc _ _ _ y4)) (by simp; omega)).mono ?_; rintro e w8 ⟨rfl, hb8⟩; have hC8 := hC7.keep hb8)
        | (go_at_call 4; refine (HAW.out _ hC8.st.bel).mono ?_; rintro e w9 ⟨rfl, hb9⟩; have hC9 := hC8.keep hb9))

            go_ret
            exact ⟨rfl, hC9.st.bel⟩
        · clear HRD1
          go_enter Tryz.func3, Tryz.ntmps3
          go_wp2_with (go_at_call 5; refine HB.out.mono ?_; rintro e w1 ⟨b, g, bm, cap, gr, capr, rfl, hP⟩; exact absurd hP.st.ar.wf hwf)
end Go.Proofs.YtmnmjekpndeemaaGreatDoor
