/- The walk of TermOdds: what is shared with a public key is a Dh, with anything else an Odd; each is shared again as the same. -/
import Derived.Test.YtemjhhjalnlmlaaDoorLGrow
import Derived.Test.YtemjhhjalnlmlaaDoorPurc
namespace Go.Proofs.YtemjhhjalnlmlaaDoor
open Go.RowKit Go.Maps

theorem bld_len (lim : Nat) (hl : 1 ≤ lim) (ns : List Nd) : (bld lim ns).length ≤ ns.length + 1 ∧ (bld lim ns).length ≤ lim := by
  have key : ∀ k, k ≤ ns.length → (bld lim (ns.take k)).length ≤ k + 1 ∧ (bld lim (ns.take k)).length ≤ lim := by
    intro k
    induction k with
    | zero => intro _; simp [bld]; omega
    | succ k ih =>
      intro hk
      have := ih (by omega)
      have h2 := mk_len (d := ns.getD k zN) this.2
      rw [bld_succ (by omega)]
      omega
  have := key ns.length (Nat.le_refl _)
  rw [List.take_length] at this
  exact this

set_option maxHeartbeats 1000000 in
theorem odds_long (s : Option Addr) (n c : Nat) (hn : 40 < n) (hm : n ≤ maxLen) (x : Int) (hx : i64ok x) (y : Int) (hy : i64ok y) (w : World) (hs : Shp w) :
    Calls Tryd.prog 9 #[.slice s n c, .int .i64 x, .int .i64 y] w fun e w' => e = .returned (.bool true) ∧ Below w.heap.size w w' := by
  unfold maxLen at hm
  have HW := Lib.hid (awake_any w hs)
  have hn1 : (40 : Int) < (n : Int) := by omega
  go_enter Tryd.func9, Tryd.ntmps9
  go_wp2_with (go_at_call 11; refine HW.out.mono ?_; rintro e w5 ⟨rfl, hb5⟩)
  go_ret
  exact ⟨rfl, hb5⟩

set_option maxHeartbeats 4000000 in
theorem odds_good (s : Option Addr) (c : Nat) (ns : List Nd) (hn : ns.length ≤ 40) (x : Int) (hx : i64ok x) (y : Int) (hy : i64ok y) (w : World) (hs : Shp w) (hB : BuiltAt w (.slice s ns.length c) ns) :
    Calls Tryd.prog 9 #[.slice s ns.length c, .int .i64 x, .int .i64 y] w fun e w' => e = .returned (.bool true) ∧ Below w.heap.size w w' := by
  have HS := Lib.hid hs; clear hs
  have HB := Lib.hid (hB 1000 1000 (by decide) w (Below.refl _ _)); clear hB
  have hn1 : decide ((40 : Int) < (ns.length : Int)) = false := by simp; omega
  go_enter Tryd.func9, Tryd.ntmps9
  go_wp2_with fail
  refine HB.out.mono ?_
  rintro e w1 ⟨b, g, bm, cap, gr, capr, rfl, hP⟩
  have hlen := (bld_len 1000 (by decide) ns).1
  obtain ⟨L, hL⟩ : ∃ L, L = bld 1000 ns := ⟨_, rfl⟩
  rw [← hL] at hP hlen ⊢
  clear hL
  have HST := Lib.hid hP.st; clear hP
  have HLEN := Lib.hid (show L.length < 1000 by omega); clear hlen
  have c0 := HST.out.ar.c0
  have hbl := HST.out.ar.blt
  have HK := Lib.hid (fun o1 o2 => HST.out.keep (((Below.refl w1.heap.size w1).alloc (Nat.le_refl _) o1).alloc (by simp) o2))
  have HSH := Lib.hid (fun o1 o2 => share_any b g bm cap 1000 L x y _ (HK.out o1 o2).ar ((HK.out o1 o2).shp HS.out))
  cases hbo : both L x y
  · have HBO := Lib.hid hbo; clear hbo
    go_wp2_with fail
    refine (has2_any b (some ⟨g, 0, none⟩) L.length cap _ _ x y _ ?_ ?_ ?_).mono ?_
    · go_simp
    · go_simp
    · go_simp
    rintro e w' ⟨rfl, rfl⟩
    rw [show (hasB L.length x && hasB L.length y) = false from HBO.out]
    go_wp2_with fail
    refine (HSH.out _ _).mono ?_
    rintro e w2 ⟨g', cap', rfl, hA, hg', hk⟩
    have e1 : shE 1000 L x y = 1 := by unfold shE; rw [HBO.out]; rfl
    rw [e1]
    have H2 := Lib.hid ((HK.out _ _).step hA hg' hk)
    clear hA hg' hk e1
    have HAW := Lib.hid (awake_any w2 (H2.out.shp HS.out))
    go_wp2_with (go_at_call 11; refine HAW.out.mono ?_; rintro e w5 ⟨rfl, hb5⟩)
    go_ret
    exact ⟨rfl, (H2.out.keep hb5).bel⟩
  · have HBO := Lib.hid hbo; clear hbo
    have he : shE 1000 L x y = 0 := by unfold shE; rw [if_pos HBO.out]; exact mk_room (shN_right HST.out.ar.wf HBO.out) HLEN.out
    have hkd := shN_kind L x y
    obtain ⟨i, r1, r2, r3, hw1, hb1, hny, hM, q1, q2, q3⟩ := sh_twice HST.out.ar.wf HST.out.ar.small HBO.out he
    obtain ⟨L1, hL1⟩ : ∃ L1, L1 = shL 1000 L x y := ⟨_, rfl⟩
    rw [← hL1] at r2 r3 hw1 hb1 hny hM q1 q2 q3
    have HL1 := Lib.hid hL1; clear hL1
    have HE := Lib.hid he; clear he
    have HR1 := Lib.hid r1; clear r1
    have HQ1 := Lib.hid q1; clear q1
    have HQ2 := Lib.hid q2; clear q2
    have HQ3 := Lib.hid q3; clear q3
    have hb2 := both_iff.1 hb1
    obtain ⟨yn, rfl⟩ : ∃ yn : Nat, y = yn := ⟨y.toNat, by omega⟩
    have hyl : yn < L1.length := by omega
    have hyd : L1.getD yn zN = nd L (yn : Int) := by rw [← hny]; unfold nd; simp
    obtain ⟨⟨dk, dn, da, db, dc⟩, hd⟩ : ∃ d, d = shN L x (yn : Int) := ⟨_, rfl⟩
    obtain ⟨⟨mk, mn, ma, mb, mc⟩, hmd⟩ : ∃ d, d = nd L (yn : Int) := ⟨_, rfl⟩
    rw [← hd] at r3 hkd
    rw [← hmd] at hkd hyd
    simp only at hkd
    clear hd hmd hny hM hw1 hb1 hb2
    have HG1 : Hid (∀ W g cap, Ar W b g bm cap 1000 L1 → Calls Tryd.prog 16 #[.pointer (some ⟨b, 0, none⟩), .int .i64 i] W fun e w' => e = .returned (.tuple #[.agg #[.int .i64 dk, .int .u64 dn, .int .i64 da, .int .i64 db, .int .i64 dc], .bool true]) ∧ Below W.heap.size W w') :=
      Lib.hid (fun W g cap hA => by have := get_yes b g bm cap 1000 L1 i r2 W hA; rw [r3] at this; exact this)
    have HG2 : Hid (∀ W g cap, Ar W b g bm cap 1000 L1 → Calls Tryd.prog 16 #[.pointer (some ⟨b, 0, none⟩), .int .i64 yn] W fun e w' => e = .returned (.tuple #[.agg #[.int .i64 mk, .int .u64 mn, .int .i64 ma, .int .i64 mb, .int .i64 mc], .bool true]) ∧ Below W.heap.size W w') :=
      Lib.hid (fun W g cap hA => by have := get_yes b g bm cap 1000 L1 yn hyl W hA; rw [hyd] at this; exact this)
    clear r2 r3 hyl hyd
    by_cases hmk : mk = 2
    all_goals
      first
      | (subst hmk; rw [if_pos rfl] at hkd)
      | (rw [if_neg hmk] at hkd; have hmk1 : (mk == 2) = false := (by simpa using hmk); have hmk2 : (mk != 2) = true := by simpa using hmk)
      go_wp2_with fail
      refine (has2_any b (some ⟨g, 0, none⟩) L.length cap _ _ x yn _ ?_ ?_ ?_).mono ?_
      · go_simp
      · go_simp
      · go_simp
      rintro e w' ⟨rfl, rfl⟩
      rw [show (hasB L.length x && hasB L.length yn) = true from HBO.out]
      go_wp2_with fail
      refine (HSH.out _ _).mono ?_
      rintro e w2 ⟨g2, cap2, rfl, hA, hg', hk⟩
      rw [HE.out, HR1.out]
      rw [← HL1.out] at hA
      have H2 := Lib.hid ((HK.out _ _).step hA hg' hk)
      clear hA hg' hk
      go_wp2_with fail
      refine (share_any b g2 bm cap2 1000 L1 x yn _ H2.out.ar (H2.out.shp HS.out)).mono ?_
      rintro e w3 ⟨g3, cap3, rfl, hA, hg', hk⟩
      rw [HQ2.out, HQ3.out]
      rw [HQ1.out] at hA
      have H3 := Lib.hid (H2.out.step hA hg' hk)
      clear hA hg' hk H2
      go_wp2_with fail
      refine (HG1.out _ g3 cap3 H3.out.ar).mono ?_
      rintro e w4 ⟨rfl, hb4⟩
      have H4 := Lib.hid (H3.out.keep hb4)
      clear hb4 H3
      have H5 := Lib.hid (fun o => H4.out.keep ((Below.refl w4.heap.size w4).alloc (Nat.le_refl _) o))
      go_wp2_with fail
      refine (HG2.out _ g3 cap3 (H5.out _).ar).mono ?_
      rintro e w5 ⟨rfl, hb5⟩
      have z0 : w5.cell? ⟨w4.heap.size, 0, none⟩ = some (.int .i64 dk) := (bcell hb5 w4.heap.size 0 (by simp)).trans (by go_simp)
      subst hkd
      have zl : w4.heap.size < w5.heap.size := by have := hb5.size; simp at this; omega
      have H6 := Lib.hid ((H5.out _).keep hb5)
      clear hb5
      have H7 := Lib.hid (fun o => H6.out.keep ((Below.refl w5.heap.size w5).alloc (Nat.le_refl _) o))
      have HAW := Lib.hid (fun o => awake_any (w5.alloc o) ((H7.out o).shp HS.out))
      go_wp2_with (go_at_call 11; refine (HAW.out _).mono ?_; rintro e w8 ⟨rfl, hb8⟩)
      go_ret
      exact ⟨rfl, ((H7.out _).keep hb8).bel⟩
end Go.Proofs.YtemjhhjalnlmlaaDoor
