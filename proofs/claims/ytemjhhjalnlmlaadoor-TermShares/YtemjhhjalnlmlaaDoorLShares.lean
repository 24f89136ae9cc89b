/- The walk of TermShares: what a secret and what is taken for a public key come to; the same both ways. -/
import Derived.Test.YtemjhhjalnlmlaaDoorLOdds
namespace Go.Proofs.YtemjhhjalnlmlaaDoor
open Go.RowKit Go.Maps

/-- Get, whether or not there is such a term. -/
theorem get_some (b bm lim : Nat) (L : List Nd) (y : Int) : ∃ (m : Nd) (v : Bool), (hasB L.length y = true → m = nd L y ∧ v = true) ∧ (hasB L.length y = false → m = zN ∧ v = false) ∧
    ∀ W g cap, Ar W b g bm cap lim L → Calls Tryd.prog 16 #[.pointer (some ⟨b, 0, none⟩), .int .i64 y] W fun e w' => e = .returned (.tuple #[agg m, .bool v]) ∧ Below W.heap.size W w' := by
  cases hh : hasB L.length y
  · exact ⟨zN, false, fun h => absurd h (by simp), fun _ => ⟨rfl, rfl⟩, fun W g cap hA => get_no b g bm cap lim L y hh W hA⟩
  · have := hasB_iff.1 hh
    obtain ⟨i, rfl⟩ : ∃ i : Nat, y = i := ⟨y.toNat, by omega⟩
    refine ⟨nd L i, true, fun _ => ⟨rfl, rfl⟩, fun h => absurd h (by simp), fun W g cap hA => ?_⟩
    have h2 := get_yes b g bm cap lim L i (by omega) W hA
    unfold nd
    simpa using h2

set_option maxHeartbeats 1000000 in
theorem shares_long (s : Option Addr) (n c : Nat) (hn : 40 < n) (hm : n ≤ maxLen) (z : Int) (hz : i64ok z) (x : Int) (hx : i64ok x) (y : Int) (hy : i64ok y) (w : World) (hs : Shp w) :
    Calls Tryd.prog 5 #[.int .i64 z, .slice s n c, .int .i64 x, .int .i64 y] w fun e w' => e = .returned (.bool true) ∧ Below w.heap.size w w' := by
  unfold maxLen at hm
  have HW := Lib.hid (awake_any w hs)
  have hn1 : (40 : Int) < (n : Int) := by omega
  go_enter Tryd.func5, Tryd.ntmps5
  go_wp2_with (go_at_call 11; refine HW.out.mono ?_; rintro e w5 ⟨rfl, hb5⟩)
  go_ret
  exact ⟨rfl, hb5⟩

set_option maxHeartbeats 4000000 in
theorem shares_good (s : Option Addr) (c : Nat) (ns : List Nd) (hn : ns.length ≤ 40) (z : Int) (hz : i64ok z) (x : Int) (hx : i64ok x) (y : Int) (hy : i64ok y) (w : World) (hs : Shp w) (hB : BuiltAt w (.slice s ns.length c) ns) :
    Calls Tryd.prog 5 #[.int .i64 z, .slice s ns.length c, .int .i64 x, .int .i64 y] w fun e w' => e = .returned (.bool true) ∧ Below w.heap.size w w' := by
  have HS := Lib.hid hs; clear hs
  have HX := Lib.hid hx; clear hx
  clear hz hy
  have HB := Lib.hid (hB z (limZ z) rfl w (Below.refl _ _)); clear hB
  have hn1 : decide ((40 : Int) < (ns.length : Int)) = false := by simp; omega
  go_enter Tryd.func5, Tryd.ntmps5
  go_wp2_with fail
  refine HB.out.mono ?_
  generalize limZ z = lim
  rintro e w1 ⟨b, g, bm, cap, gr, capr, rfl, hP⟩
  obtain ⟨L, hL⟩ : ∃ L, L = bld lim ns := ⟨_, rfl⟩
  rw [← hL] at hP ⊢
  clear hL HB
  have HP := Lib.hid hP; clear hP
  have HP1 := Lib.hid (fun o => HP.out.below ((Below.refl w1.heap.size w1).alloc (Nat.le_refl _) o))
  have HWF := Lib.hid HP.out.st.ar.wf
  have HSM := Lib.hid HP.out.st.ar.small
  go_wp2_with fail
  refine (share_any b g bm cap lim L x y _ (HP1.out _).st.ar ((HP1.out _).st.shp HS.out)).mono ?_
  rintro e w2 ⟨g2, cap2, rfl, hA, hg', hk⟩
  have hrow : rowAt w2 gr L := (HP1.out _).row.keep (hk.block gr (HP1.out _).lt HP.out.nb HP.out.ng HP.out.nm)
  have hgr : gr < w2.heap.size := Nat.lt_of_lt_of_le (HP1.out _).lt hk.size
  have lb := HP.out.st.ar.blt
  have lg := HP.out.st.ar.glt
  have lm := HP.out.st.ar.mlt
  have hbox := (hk.block w1.heap.size (by simp) (by omega) (by omega) (by omega)).trans (heap_alloc_new w1 _)
  have z0 : w2.cell? ⟨w1.heap.size, 0, none⟩ = some (.int .i64 lim) := by rw [cell_of_row w2 _ 0 _ _ _ hbox]; rfl
  have z1 : w2.cell? ⟨w1.heap.size, 1, none⟩ = some (.slice (some ⟨gr, 0, none⟩) L.length capr) := by rw [cell_of_row w2 _ 1 _ _ _ hbox]; rfl
  have H2 := Lib.hid ((HP1.out _).st.step hA hg' hk)
  clear hA hg' hk hbox lb lg lm
  go_wp2_with fail
  refine (refShare_any lim gr capr L HWF.out.toWFp HSM.out x y w2 hrow hgr).mono ?_
  rintro e w3 ⟨gr3, capr3, rfl, hrow3, hgr3, hb3⟩
  clear hrow hgr z0 z1
  have hpos : 0 < L.length := HWF.out.toWFp.pos
  have HBACK := Lib.hid (fun h1 h2 h3 => sh_back (lim := lim) HWF.out HSM.out (x := x) (y := y) h1 h2 h3 HX.out)
  have HBOTH := Lib.hid (fun (h : shE lim L x y = 0) => (sh_twice HWF.out HSM.out (sh_both h) h).choose_spec.2.2.2.2.1)
  generalize hL1 : shL lim L x y = L1 at *
  generalize hR1 : shR lim L x y = r1 at *
  generalize hE1 : shE lim L x y = e1 at *
  clear hL1 hR1 hE1
  have H3 := Lib.hid (H2.out.keep hb3)
  have H4 := Lib.hid (fun o => H3.out.keep ((Below.refl w3.heap.size w3).alloc (Nat.le_refl _) o))
  have HSAME := Lib.hid (fun o => same_any b g2 bm cap2 lim gr3 capr3 L1 (w3.alloc o) (H4.out o).ar (hrow3.keep (Below.heap_alloc _ _ _ hgr3)) (by simp; omega))
  clear hb3 hrow3 hgr3
  go_wp2_with fail
  refine (HSAME.out _).mono ?_
  rintro e w4 ⟨rfl, hb4⟩
  have H5 := Lib.hid ((H4.out _).keep hb4)
  clear hb4
  obtain ⟨m, v, hm1, hm0, hget⟩ := get_some b bm lim L1 y
  have HG := Lib.hid (hget w4 g2 cap2 H5.out.ar)
  have HM1 := Lib.hid hm1
  clear hget hm0 hm1
  obtain ⟨k1, n1, a1, b1, c1⟩ := m
  unfold agg at HG
  go_wp2_with fail
  refine HG.out.mono ?_
  rintro e w5 ⟨rfl, hb5⟩
  have H6 := Lib.hid (H5.out.keep hb5)
  clear hb5 HG
  have H7 := Lib.hid (fun o => H6.out.keep ((Below.refl w5.heap.size w5).alloc (Nat.le_refl _) o))
  have HXOK : Hid ((⟨2, 0, x, 0, 0⟩ : Nd).ok) := Lib.hid ⟨by simp [i64ok], by simp [u64ok], HX.out, by simp [i64ok], by simp [i64ok]⟩
  go_wp2_with fail
  refine (mk_any b g2 bm cap2 lim L1 2 0 x 0 0 _ (H7.out _).ar ((H7.out _).shp HS.out) HXOK.out).mono ?_
  rintro e w6 ⟨g6, cap6, rfl, hA, hg', hk⟩
  have lb := H6.out.ar.blt
  have lg := H6.out.ar.glt
  have lm := H6.out.ar.mlt
  have hbox := (hk.block w5.heap.size (by simp) (by omega) (by omega) (by omega)).trans (heap_alloc_new w5 _)
  have z0 : w6.cell? ⟨w5.heap.size, 0, none⟩ = some (.int .i64 k1) := by rw [cell_of_row w6 _ 0 _ _ _ hbox]; rfl
  have z2 : w6.cell? ⟨w5.heap.size, 2, none⟩ = some (.int .i64 a1) := by rw [cell_of_row w6 _ 2 _ _ _ hbox]; rfl
  have H8 := Lib.hid ((H7.out _).step hA hg' hk)
  clear hA hg' hk hbox lb lg lm
  generalize hL2 : mkL lim L1 ⟨2, 0, x, 0, 0⟩ = L2 at *
  generalize hR2 : mkR lim L1 ⟨2, 0, x, 0, 0⟩ = r2 at *
  generalize hE2 : mkE lim L1 ⟨2, 0, x, 0, 0⟩ = e2 at *
  clear hL2 hR2 hE2
  have HAW := Lib.hid (awake_any w6 (H8.out.shp HS.out))
  by_cases q1 : e1 = 0
  · subst q1
    have hb0 : both L1 x y = true := HBOTH.out rfl
    have hmd := (HM1.out (by rw [both_iff] at hb0; exact hasB_iff.2 hb0.2)).1
    have ek : k1 = (nd L1 y).k := congrArg Nd.k hmd
    have ea : a1 = (nd L1 y).a := congrArg Nd.a hmd
    have hbk := HBACK.out
    rw [← ek, ← ea] at hbk
    clear HBACK HBOTH hb0 hmd ek ea HM1
    by_cases q2 : e2 = 0
    · subst q2
      by_cases q3 : k1 = 2
      · subst q3
        have hbk := hbk rfl rfl rfl
        have HK1 := Lib.hid hbk.1
        have HK2 := Lib.hid hbk.2
        clear hbk HAW
        go_wp2_with fail
        refine (share_any b g6 bm cap6 lim L2 a1 r2 w6 H8.out.ar (H8.out.shp HS.out)).mono ?_
        rintro e w7 ⟨g7, cap7, rfl, hA, hg', hk⟩
        rw [HK1.out, HK2.out]
        have H9 := Lib.hid (H8.out.step hA hg' hk)
        clear hA hg' hk
        have HAW := Lib.hid (awake_any w7 (H9.out.shp HS.out))
        go_wp2_with (go_at_call 11; refine HAW.out.mono ?_; rintro e w8 ⟨rfl, hb8⟩)
        go_ret
        exact ⟨rfl, (H9.out.keep hb8).bel⟩
      · have hq : (k1 != 2) = true := by simpa using q3
        clear hbk
        go_wp2_with (go_at_call 11; refine HAW.out.mono ?_; rintro e w8 ⟨rfl, hb8⟩)
        go_ret
        exact ⟨rfl, (H8.out.keep hb8).bel⟩
    · have hq : (e2 != 0) = true := by simpa using q2
      clear hbk
      go_wp2_with (go_at_call 11; refine HAW.out.mono ?_; rintro e w8 ⟨rfl, hb8⟩)
      go_ret
      exact ⟨rfl, (H8.out.keep hb8).bel⟩
  · have hq : (e1 != 0) = true := by simpa using q1
    clear HBACK HBOTH
    go_wp2_with (go_at_call 11; refine HAW.out.mono ?_; rintro e w8 ⟨rfl, hb8⟩)
    go_ret
    exact ⟨rfl, (H8.out.keep hb8).bel⟩
end Go.Proofs.YtemjhhjalnlmlaaDoor
