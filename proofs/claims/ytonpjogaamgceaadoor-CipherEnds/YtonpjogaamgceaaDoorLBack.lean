/- The walk of CipherBack: what is sealed is opened by the same cipher, to what it was, and both go on alike; by one of another key, number, or beside another term it is not. -/
import Derived.Test.YtonpjogaamgceaaDoorJi
namespace Go.Proofs.YtonpjogaamgceaaDoor
open Go.RowKit

theorem hasB_app {L M : List Nd} {x : Int} (h : hasB L.length x = true) : hasB (L ++ M).length x = true := by
  rw [hasB_iff] at *; simp only [List.length_append]; omega
/-- What is sealed stands in the arena, and is opened. -/
theorem sl_stands {lim : Nat} {L : List Nd} {c : Cf} {ad p : Int} (hL : WF L) (hm : L.length ≤ 65536) (hn : u64ok c.n) (hh : c.h = true) (he : slE lim L c ad p = 0) :
    hasB (slL lim L c ad p).length (slR lim L c ad p) = true ∧ nd (slL lim L c ad p) (slR lim L c ad p) = slN c ad p ∧ (hasB (slL lim L c ad p).length ad = true ∧ hasB (slL lim L c ad p).length c.k = true) ∧ c.n ≠ lastU ∧ slC lim L c ad p = nxt c := by
  have hk : chk L.length c ad p = 0 := by
    rcases chk_cases L.length c ad p with h | h
    · have h0 : chk L.length c ad p ≠ 0 := by rcases h with h | h <;> rw [h] <;> decide
      rw [(chk_err h0).2.1] at he; exact absurd he h0
    · exact h
  obtain ⟨e1, e2, e3, e4⟩ := sl_mk (lim := lim) hk hh
  obtain ⟨⟨q1, q2⟩, q3⟩ := chk_zero hk
  obtain ⟨q4, q5⟩ := q3 hh
  rw [e2] at he
  have hok : (slN c ad p).ok := slN_ok ⟨i64ok_of (hasB_iff.1 q4) hm, hn⟩ (i64ok_of (hasB_iff.1 q1) hm) (i64ok_of (hasB_iff.1 q2) hm)
  obtain ⟨_, i, h1, h2, h3, _, _, M, hM⟩ := mk_at hL hok he
  rw [e1, e3, e4, h1, if_pos he]
  refine ⟨hasB_iff.2 ⟨by omega, by omega⟩, by unfold nd; rw [Int.toNat_natCast]; exact h3, ⟨?_, ?_⟩, q5, rfl⟩
  · rw [hM]; exact hasB_app q1
  · rw [hM]; exact hasB_app q4
theorem sl_back {lim : Nat} {L : List Nd} {c : Cf} {ad p : Int} (hL : WF L) (hm : L.length ≤ 65536) (hn : u64ok c.n) (he : slE lim L c ad p = 0) :
    opE (slL lim L c ad p) c ad (slR lim L c ad p) = 0 ∧ opR (slL lim L c ad p) c ad (slR lim L c ad p) = p ∧ opC (slL lim L c ad p) c ad (slR lim L c ad p) = slC lim L c ad p := by
  cases hh : c.h
  · have hk : chk L.length c ad p = 0 := by
      rcases chk_cases L.length c ad p with h | h
      · have h0 : chk L.length c ad p ≠ 0 := by rcases h with h | h <;> rw [h] <;> decide
        rw [(chk_err h0).2.1] at he; exact absurd he h0
      · exact h
    obtain ⟨e1, e2, e3, e4⟩ := sl_none (lim := lim) hk hh
    rw [e1, e3, e4]
    exact op_none hk hh
  · obtain ⟨h1, h2, ⟨h3, h4⟩, h5, h6⟩ := sl_stands hL hm hn hh he
    have hk := chk_good (c := c) (ad := ad) (x := slR lim L c ad p) (by rw [h3, h1]; rfl) hh h4 h5
    have hb : opB (nd (slL lim L c ad p) (slR lim L c ad p)) c ad = true := by rw [h2]; simp [opB, slN]
    obtain ⟨o1, o2, o3⟩ := op_yes hk hh hb
    exact ⟨o1, by rw [o2, h2]; rfl, by rw [o3, h6]⟩
theorem sl_other {lim : Nat} {L : List Nd} {c d : Cf} {ad p other : Int} (hL : WF L) (hm : L.length ≤ 65536) (hn : u64ok c.n) (hh : c.h = true) (hd : d.h = true) (he : slE lim L c ad p = 0) :
    opE (slL lim L c ad p) d other (slR lim L c ad p) = 0 ↔ (d.k = c.k ∧ d.n = c.n) ∧ other = ad := by
  obtain ⟨h1, h2, ⟨h3, h4⟩, h5, h6⟩ := sl_stands hL hm hn hh he
  constructor
  · intro h
    have hk : chk (slL lim L c ad p).length d other (slR lim L c ad p) = 0 := by
      rcases chk_cases (slL lim L c ad p).length d other (slR lim L c ad p) with q | q
      · have h0 : chk (slL lim L c ad p).length d other (slR lim L c ad p) ≠ 0 := by rcases q with q | q <;> rw [q] <;> decide
        rw [(op_err h0).1] at h; exact absurd h h0
      · exact q
    cases hb : opB (nd (slL lim L c ad p) (slR lim L c ad p)) d other
    · rw [(op_no hk hd hb).1] at h; exact absurd h (by decide)
    · rw [h2] at hb
      simp only [opB, slN, decide_eq_true_eq] at hb
      exact ⟨⟨hb.2.2.1.symm, hb.2.1.symm⟩, hb.2.2.2.symm⟩
  · rintro ⟨⟨e1, e2⟩, rfl⟩
    obtain rfl : d = c := Cf.ext3 e1 (by rw [hd, hh]) e2
    exact (sl_back hL hm hn he).1
theorem sl_fail {lim : Nat} {L : List Nd} {c : Cf} {ad p : Int} (he : slE lim L c ad p ≠ 0) : slC lim L c ad p = cZ ∧ slR lim L c ad p = 0 := by
  rcases chk_cases L.length c ad p with h | h
  · have h0 : chk L.length c ad p ≠ 0 := by rcases h with h | h <;> rw [h] <;> decide
    exact ⟨(chk_err h0).2.2.2, (chk_err h0).2.2.1⟩
  · cases hh : c.h
    · rw [(sl_none h hh).2.1] at he; exact absurd rfl he
    · obtain ⟨e1, e2, e3, e4⟩ := sl_mk (lim := lim) h hh
      rw [e2] at he
      exact ⟨by rw [e4, if_neg he], by rw [e3]; exact mkR_err he⟩
set_option maxRecDepth 100000 in
set_option maxHeartbeats 1000000 in
theorem back_long (s : Option Addr) (m cc : Nat) (c d : Cf) (ad other p : Int) (hm : 30 < m) (w : World) (hs : Shp w) : Calls Tryd.prog 5 #[.slice s m cc, cfV c, cfV d, .int .i64 ad, .int .i64 other, .int .i64 p] w fun e w' => e = .returned (.bool true) ∧ Below w.heap.size w w' := by
  have HA := Lib.hid (fun w1 (h : Below w.heap.size w w1) => awake_any w1 (hs.below h))
  have HB := Lib.hid (fun o o' => ((Below.refl w.heap.size w).alloc (Nat.le_refl _) o).alloc (by simp) o')
  have h30 : (30 : Int) < m := by omega
  clear hs hm
  unfold cfV
  go_enter Tryd.func5, Tryd.ntmps5
  go_wp2_with (go_at_call 10; refine (HA.out _ (HB.out _ _)).mono ?_; rintro e w1 ⟨rfl, hb1⟩)
  go_ret
  exact ⟨rfl, (HB.out _ _).trans (hb1.mono (HB.out _ _).size)⟩
set_option maxRecDepth 100000 in
set_option maxHeartbeats 16000000 in
theorem back_good (s : Option Addr) (cc : Nat) (ns : List Nd) (c d : Cf) (ad other p : Int) (hn : ns.length ≤ 30) (hu : u64ok c.n) (hv : u64ok d.n) (w : World) (hs : Shp w) (hB : BuiltAt w (.slice s ns.length cc) ns) : Calls Tryd.prog 5 #[.slice s ns.length cc, cfV c, cfV d, .int .i64 ad, .int .i64 other, .int .i64 p] w fun e w' => e = .returned (.bool true) ∧ Below w.heap.size w w' := by
  obtain ⟨W0, hW0⟩ : ∃ W, W = (w.alloc (.cells #[.int .i64 c.k, .bool c.h, .int .u64 c.n] 25)).alloc (.cells #[.int .i64 d.k, .bool d.h, .int .u64 d.n] 25) := ⟨_, rfl⟩
  have HB0 : Hid (Below w.heap.size w W0) := Lib.hid (by rw [hW0]; exact ((Below.refl _ _).alloc (Nat.le_refl _) _).alloc (by simp) _)
  have HX0 : Hid (W0.heap[w.heap.size]? = some (.cells #[.int .i64 c.k, .bool c.h, .int .u64 c.n] 25 (0, 0))) := Lib.hid (by rw [hW0, Below.heap_alloc _ _ _ (by simp)]; exact heap_alloc_new w _)
  have HY0 : Hid (W0.heap[w.heap.size + 1]? = some (.cells #[.int .i64 d.k, .bool d.h, .int .u64 d.n] 25 (0, 0))) := Lib.hid (by
    rw [hW0]
    have := heap_alloc_new (w.alloc (.cells #[.int .i64 c.k, .bool c.h, .int .u64 c.n] 25)) (.cells #[.int .i64 d.k, .bool d.h, .int .u64 d.n] 25)
    rwa [World.size_alloc] at this)
  have HBu := hB 200 200 (by decide) W0 HB0.out
  unfold BuiltPost at HBu
  have HB := Lib.hid HBu; clear HBu
  have HS := Lib.hid (hs.below HB0.out)
  have HAw := Lib.hid (fun w1 (h : Below W0.heap.size W0 w1) => awake_any w1 (HS.out.below h))
  obtain ⟨L, hLe⟩ : ∃ L, L = bld 200 ns := ⟨_, rfl⟩
  rw [← hLe] at HB
  have h30 : (ns.length : Int) ≤ 30 := by omega
  clear hs hB hn hLe
  rw [hW0] at HB
  obtain ⟨ck, ch, cn⟩ := c
  obtain ⟨dk, dh, dn⟩ := d
  unfold cfV
  go_enter Tryd.func5, Tryd.ntmps5
  go_wp2_with fail
  go_at_call 11
  refine HB.out.mono ?_
  rintro e w1 ⟨b, g, bm, cap, gr, capr, rfl, hP⟩
  rw [← hW0] at hP
  have HP1 := Lib.hid hP
  have HX1 := Lib.hid (below_box hP.st.bel HX0.out)
  have HY1 := Lib.hid (below_box hP.st.bel HY0.out)
  have hLm : L.length ≤ 65536 := hP.st.ar.small
  have HWF := Lib.hid hP.st.ar.wf
  clear hP HX0 HY0 HB
  have HB1 : Hid (Below w1.heap.size w1 (w1.alloc (.cells #[.int .i64 200, .slice (some ⟨gr, 0, none⟩) L.length capr] 30))) := Lib.hid ((Below.refl _ _).alloc (Nat.le_refl _) _)
  obtain ⟨cc0, cc1, cc2⟩ := cf_cells HX1.out
  have lc := lt_of_heap HX1.out
  have HX2 := Lib.hid (below_box HB1.out HX1.out)
  have HX3 := Lib.hid (below_box HB1.out HY1.out)
  have HX4 : Hid ((w1.alloc (.cells #[.int .i64 200, .slice (some ⟨gr, 0, none⟩) L.length capr] 30)).heap[w1.heap.size]? = some (.cells #[.int .i64 200, .slice (some ⟨gr, 0, none⟩) L.length capr] 30 (0, 0))) := Lib.hid (by have q := heap_alloc_new w1 (.cells #[.int .i64 200, .slice (some ⟨gr, 0, none⟩) L.length capr] 30); exact q)
  have HQ5 := Lib.hid (HP1.out.pq.keep HB1.out)
  clear HX1 HY1 HB1
  go_wp2_with fail
  clear cc0 cc1 cc2 lc
  generalize (w1.alloc (.cells #[.int .i64 200, .slice (some ⟨gr, 0, none⟩) L.length capr] 30)) = W1 at *
  generalize w1.heap.size = p5 at *
  have HO := Lib.hid (HQ5.out.seal HS.out ⟨ck, ch, cn⟩ ad p hu)
  unfold cfV at HO
  have HBK := Lib.hid (sl_back (lim := 200) (c := ⟨ck, ch, cn⟩) (ad := ad) (p := p) HWF.out hLm hu)
  have HOT := Lib.hid (fun h1 h2 => sl_other (lim := 200) (ad := ad) (p := p) (other := other) (c := ⟨ck, ch, cn⟩) (d := ⟨dk, dh, dn⟩) HWF.out hLm hu h1 h2)
  have HFL := Lib.hid (sl_fail (lim := 200) (L := L) (c := ⟨ck, ch, cn⟩) (ad := ad) (p := p))
  go_at_call 12
  refine (HO.out).mono ?_
  rintro e w3 ⟨g3, cap3, rfl, hQ3, hk3⟩
  have HX6 := Lib.hid (HQ5.out.box hk3 HX2.out (by decide) (by decide))
  have HX7 := Lib.hid (HQ5.out.box hk3 HX3.out (by decide) (by decide))
  have HX8 := Lib.hid (HQ5.out.box hk3 HX4.out (by decide) (by decide))
  have HQ9 := Lib.hid hQ3
  clear HX2 HX3 HX4 HQ5 hQ3 hk3
  generalize slC 200 L ⟨ck, ch, cn⟩ ad p = nx at *
  generalize slR 200 L ⟨ck, ch, cn⟩ ad p = x at *
  generalize slE 200 L ⟨ck, ch, cn⟩ ad p = er at *
  generalize slL 200 L ⟨ck, ch, cn⟩ ad p = M at *
  obtain ⟨nk, nh, nn⟩ := nx
  by_cases her : er = 0
  rotate_left
  · have hne : (er != 0) = true := by simpa using her
    obtain ⟨f1, f2⟩ := HFL.out her
    unfold cZ at f1
    cases f1
    subst f2
    clear her HBK HOT HFL
    have HQ4 := Lib.hid (HQ9.out.keep ((Below.refl _ _).alloc (Nat.le_refl _) (.cells #[.int .i64 0, .bool false, .int .u64 0] 25)))
    have HA4 := Lib.hid (HAw.out _ HQ4.out.st.bel)
    go_wp2_with fail

    go_at_call 10
    refine HA4.out.mono ?_
    rintro e w9 ⟨rfl, hb9⟩
    go_wp2_with fail
    go_ret
    exact ⟨rfl, HB0.out.trans ((HQ4.out.st.keep hb9).bel.mono HB0.out.size)⟩
  subst her
  obtain ⟨b1, b2, b3⟩ := HBK.out rfl
  clear HBK HFL
  have HB10 : Hid (Below w3.heap.size w3 (w3.alloc (.cells #[.int .i64 nk, .bool nh, .int .u64 nn] 25))) := Lib.hid ((Below.refl _ _).alloc (Nat.le_refl _) _)
  obtain ⟨cc0, cc1, cc2⟩ := cf_cells HX6.out
  have lc := lt_of_heap HX6.out
  have HX11 := Lib.hid (below_box HB10.out HX6.out)
  have HX12 := Lib.hid (below_box HB10.out HX7.out)
  have HX13 := Lib.hid (below_box HB10.out HX8.out)
  have HX14 : Hid ((w3.alloc (.cells #[.int .i64 nk, .bool nh, .int .u64 nn] 25)).heap[w3.heap.size]? = some (.cells #[.int .i64 nk, .bool nh, .int .u64 nn] 25 (0, 0))) := Lib.hid (by have q := heap_alloc_new w3 (.cells #[.int .i64 nk, .bool nh, .int .u64 nn] 25); exact q)
  have HQ15 := Lib.hid (HQ9.out.keep HB10.out)
  clear HX6 HX7 HX8 HB10 HQ9
  go_wp2_with fail
  clear cc0 cc1 cc2 lc
  generalize (w3.alloc (.cells #[.int .i64 nk, .bool nh, .int .u64 nn] 25)) = W10 at *
  generalize w3.heap.size = p15 at *
  have HO := Lib.hid (HQ15.out.opens ⟨ck, ch, cn⟩ ad x hu)
  rw [b1, b2, b3] at HO
  clear b1 b2 b3
  unfold cfV at HO
  go_at_call 16
  refine (HO.out).mono ?_
  rintro e w5 ⟨rfl, hQ5, hb5⟩
  have HX16 := Lib.hid (below_box hb5 HX11.out)
  have HX17 := Lib.hid (below_box hb5 HX12.out)
  have HX18 := Lib.hid (below_box hb5 HX13.out)
  have HX19 := Lib.hid (below_box hb5 HX14.out)
  have HQ20 := Lib.hid hQ5
  clear HX11 HX12 HX13 HX14 HQ15 hQ5 hb5
  have HB21 : Hid (Below w5.heap.size w5 (w5.alloc (.cells #[.int .i64 nk, .bool nh, .int .u64 nn] 25))) := Lib.hid ((Below.refl _ _).alloc (Nat.le_refl _) _)
  obtain ⟨ce0, ce1, ce2⟩ := cf_cells HX17.out
  have le := lt_of_heap HX17.out
  obtain ⟨cn0, cn1, cn2⟩ := cf_cells HX19.out
  have ln := lt_of_heap HX19.out
  have HX22 := Lib.hid (below_box HB21.out HX16.out)
  have HX23 := Lib.hid (below_box HB21.out HX17.out)
  have HX24 := Lib.hid (below_box HB21.out HX18.out)
  have HX25 := Lib.hid (below_box HB21.out HX19.out)
  have HX26 : Hid ((w5.alloc (.cells #[.int .i64 nk, .bool nh, .int .u64 nn] 25)).heap[w5.heap.size]? = some (.cells #[.int .i64 nk, .bool nh, .int .u64 nn] 25 (0, 0))) := Lib.hid (by have q := heap_alloc_new w5 (.cells #[.int .i64 nk, .bool nh, .int .u64 nn] 25); exact q)
  have HQ27 := Lib.hid (HQ20.out.keep HB21.out)
  clear HX16 HX17 HX18 HX19 HB21 HQ20
  go_wp2_with fail
  clear ce0 ce1 ce2 le cn0 cn1 cn2 ln
  generalize (w5.alloc (.cells #[.int .i64 nk, .bool nh, .int .u64 nn] 25)) = W21 at *
  generalize w5.heap.size = p27 at *
  have HO := Lib.hid (HQ27.out.opens ⟨dk, dh, dn⟩ other x hv)
  unfold cfV at HO
  go_at_call 16
  refine (HO.out).mono ?_
  rintro e w7 ⟨rfl, hQ7, hb7⟩
  have HX28 := Lib.hid (below_box hb7 HX22.out)
  have HX29 := Lib.hid (below_box hb7 HX23.out)
  have HX30 := Lib.hid (below_box hb7 HX24.out)
  have HX31 := Lib.hid (below_box hb7 HX25.out)
  have HX32 := Lib.hid (below_box hb7 HX26.out)
  have HQ33 := Lib.hid hQ7
  clear HX22 HX23 HX24 HX25 HX26 HQ27 hQ7 hb7
  generalize opC M ⟨dk, dh, dn⟩ other x = z at *
  generalize opR M ⟨dk, dh, dn⟩ other x = y at *
  generalize opE M ⟨dk, dh, dn⟩ other x = er at *
  obtain ⟨zk, zh, zn⟩ := z
  cases ch
  · have HQ8 := Lib.hid (HQ33.out.keep ((Below.refl _ _).alloc (Nat.le_refl _) (.cells #[.int .i64 zk, .bool zh, .int .u64 zn] 25)))
    have HA8 := Lib.hid (HAw.out _ HQ8.out.st.bel)
    obtain ⟨cc0, cc1, cc2⟩ := cf_cells HX28.out
    have lc := lt_of_heap HX28.out
    obtain ⟨ce0, ce1, ce2⟩ := cf_cells HX29.out
    have le := lt_of_heap HX29.out
    go_wp2_with fail
    go_at_call 10
    refine HA8.out.mono ?_
    rintro e w9 ⟨rfl, hb9⟩
    go_wp2_with fail
    go_ret
    exact ⟨rfl, HB0.out.trans ((HQ8.out.st.keep hb9).bel.mono HB0.out.size)⟩
  cases dh
  · have HQ8 := Lib.hid (HQ33.out.keep ((Below.refl _ _).alloc (Nat.le_refl _) (.cells #[.int .i64 zk, .bool zh, .int .u64 zn] 25)))
    have HA8 := Lib.hid (HAw.out _ HQ8.out.st.bel)
    obtain ⟨cc0, cc1, cc2⟩ := cf_cells HX28.out
    have lc := lt_of_heap HX28.out
    obtain ⟨ce0, ce1, ce2⟩ := cf_cells HX29.out
    have le := lt_of_heap HX29.out
    go_wp2_with fail
    go_at_call 10
    refine HA8.out.mono ?_
    rintro e w9 ⟨rfl, hb9⟩
    go_wp2_with fail
    go_ret
    exact ⟨rfl, HB0.out.trans ((HQ8.out.st.keep hb9).bel.mono HB0.out.size)⟩
  have hiff := HOT.out rfl rfl trivial
  clear HOT
  by_cases hdk : dk = ck
  rotate_left
  · have he1 : er ≠ 0 := fun e => hdk (by have := hiff.1 e; exact this.1.1)
    have he2 : (er == 0) = false := by simpa using he1
    have hbdk : (dk == ck) = false := by simpa using hdk
    clear he1 hdk hiff
    have HQ8 := Lib.hid (HQ33.out.keep ((Below.refl _ _).alloc (Nat.le_refl _) (.cells #[.int .i64 zk, .bool zh, .int .u64 zn] 25)))
    have HA8 := Lib.hid (HAw.out _ HQ8.out.st.bel)
    obtain ⟨cc0, cc1, cc2⟩ := cf_cells HX28.out
    have lc := lt_of_heap HX28.out
    obtain ⟨ce0, ce1, ce2⟩ := cf_cells HX29.out
    have le := lt_of_heap HX29.out
    go_wp2_with fail
    go_at_call 10
    refine HA8.out.mono ?_
    rintro e w9 ⟨rfl, hb9⟩
    go_wp2_with fail
    go_ret
    exact ⟨rfl, HB0.out.trans ((HQ8.out.st.keep hb9).bel.mono HB0.out.size)⟩
  subst hdk
  by_cases hdn : dn = cn
  rotate_left
  · have he1 : er ≠ 0 := fun e => hdn (by have := hiff.1 e; exact this.1.2)
    have he2 : (er == 0) = false := by simpa using he1
    have hbdn : (dn == cn) = false := by simpa using hdn
    clear he1 hdn hiff
    have HQ8 := Lib.hid (HQ33.out.keep ((Below.refl _ _).alloc (Nat.le_refl _) (.cells #[.int .i64 zk, .bool zh, .int .u64 zn] 25)))
    have HA8 := Lib.hid (HAw.out _ HQ8.out.st.bel)
    obtain ⟨cc0, cc1, cc2⟩ := cf_cells HX28.out
    have lc := lt_of_heap HX28.out
    obtain ⟨ce0, ce1, ce2⟩ := cf_cells HX29.out
    have le := lt_of_heap HX29.out
    go_wp2_with fail
    go_at_call 10
    refine HA8.out.mono ?_
    rintro e w9 ⟨rfl, hb9⟩
    go_wp2_with fail
    go_ret
    exact ⟨rfl, HB0.out.trans ((HQ8.out.st.keep hb9).bel.mono HB0.out.size)⟩
  subst hdn
  by_cases hother : other = ad
  rotate_left
  · have he1 : er ≠ 0 := fun e => hother (by have := hiff.1 e; exact this.2)
    have he2 : (er == 0) = false := by simpa using he1
    have hbother : (other == ad) = false := by simpa using hother
    clear he1 hother hiff
    have HQ8 := Lib.hid (HQ33.out.keep ((Below.refl _ _).alloc (Nat.le_refl _) (.cells #[.int .i64 zk, .bool zh, .int .u64 zn] 25)))
    have HA8 := Lib.hid (HAw.out _ HQ8.out.st.bel)
    obtain ⟨cc0, cc1, cc2⟩ := cf_cells HX28.out
    have lc := lt_of_heap HX28.out
    obtain ⟨ce0, ce1, ce2⟩ := cf_cells HX29.out
    have le := lt_of_heap HX29.out
    go_wp2_with fail
    go_at_call 10
    refine HA8.out.mono ?_
    rintro e w9 ⟨rfl, hb9⟩
    go_wp2_with fail
    go_ret
    exact ⟨rfl, HB0.out.trans ((HQ8.out.st.keep hb9).bel.mono HB0.out.size)⟩
  subst hother
  have he : er = 0 := hiff.2 ⟨⟨rfl, rfl⟩, rfl⟩
  subst he
  clear hiff
  have HQ8 := Lib.hid (HQ33.out.keep ((Below.refl _ _).alloc (Nat.le_refl _) (.cells #[.int .i64 zk, .bool zh, .int .u64 zn] 25)))
  have HA8 := Lib.hid (HAw.out _ HQ8.out.st.bel)
  obtain ⟨cc0, cc1, cc2⟩ := cf_cells HX28.out
  have lc := lt_of_heap HX28.out
  obtain ⟨ce0, ce1, ce2⟩ := cf_cells HX29.out
  have le := lt_of_heap HX29.out
  go_wp2_with fail
  go_at_call 10
  refine HA8.out.mono ?_
  rintro e w9 ⟨rfl, hb9⟩
  go_wp2_with fail
  go_ret
  exact ⟨rfl, HB0.out.trans ((HQ8.out.st.keep hb9).bel.mono HB0.out.size)⟩
end Go.Proofs.YtonpjogaamgceaaDoor
