/- The walk of TermMakes: whatever nodes are made, each is found just where it stands. -/
import Derived.Test.YtemjhhjalnlmlaaDoorLOdds
namespace Go.Proofs.YtemjhhjalnlmlaaDoor
open Go.RowKit Go.Maps

set_option maxHeartbeats 1000000 in
theorem makes_long (s : Option Addr) (n c : Nat) (hn : 40 < n) (hm : n ≤ maxLen) (z : Int) (hz : i64ok z) (w : World) (hs : Shp w) :
    Calls Tryd.prog 3 #[.int .i64 z, .slice s n c] w fun e w' => e = .returned (.bool true) ∧ Below w.heap.size w w' := by
  unfold maxLen at hm
  have HW := Lib.hid (awake_any w hs)
  have hn1 : (40 : Int) < (n : Int) := by omega
  go_enter Tryd.func3, Tryd.ntmps3
  go_wp2_with (go_at_call 11; refine HW.out.mono ?_; rintro e w5 ⟨rfl, hb5⟩)
  go_ret
  exact ⟨rfl, hb5⟩

set_option maxHeartbeats 8000000 in
theorem makes_good (s : Option Addr) (c : Nat) (ns : List Nd) (hn : ns.length ≤ 40) (z : Int) (hz : i64ok z) (w : World) (hs : Shp w) (hB : BuiltAt w (.slice s ns.length c) ns) (hok : ∀ i, i < ns.length → (ns.getD i zN).ok)
    (hsrc : 0 < ns.length → ∃ sb so, s = some ⟨sb, so, none⟩ ∧ sb < w.heap.size ∧ srcAt w sb so ns) :
    Calls Tryd.prog 3 #[.int .i64 z, .slice s ns.length c] w fun e w' => e = .returned (.bool true) ∧ Below w.heap.size w w' := by
  have HS := Lib.hid hs; clear hs
  have HOK := Lib.hid hok; clear hok
  have HSRC := Lib.hid hsrc; clear hsrc
  have HB := Lib.hid (hB z (limZ z) rfl w (Below.refl _ _)); clear hB
  have hn1 : decide ((40 : Int) < (ns.length : Int)) = false := by simp; omega
  go_enter Tryd.func3, Tryd.ntmps3
  go_wp2_with fail
  refine HB.out.mono ?_
  generalize limZ z = lim
  rintro e w1 ⟨b, g, bm, cap, gr, capr, rfl, hP⟩
  obtain ⟨L, hL⟩ : ∃ L, L = bld lim ns := ⟨_, rfl⟩
  rw [← hL] at hP ⊢
  clear hL HB
  have HP0 := Lib.hid hP; clear hP
  have HB0 := Lib.hid (fun o => (Below.refl w1.heap.size w1).alloc (Nat.le_refl _) o)
  have HSAME := Lib.hid (fun o => same_any b g bm cap lim gr capr L (w1.alloc o) (HP0.out.below (HB0.out o)).st.ar (HP0.out.below (HB0.out o)).row (HP0.out.below (HB0.out o)).lt)
  go_wp2_with fail
  refine (HSAME.out _).mono ?_
  rintro e w2 ⟨rfl, hb2⟩
  have HP := Lib.hid ((HP0.out.below (HB0.out _)).below hb2)
  have z1 : w2.cell? ⟨w1.heap.size, 1, none⟩ = some (.slice (some ⟨gr, 0, none⟩) L.length capr) := (bcell hb2 w1.heap.size 1 (by simp)).trans (by go_simp)
  have zl : w1.heap.size < w2.heap.size := by have := hb2.size; simp at this; omega
  clear hb2 HSAME HB0 HP0
  have hm : L.length ≤ 65536 := HP.out.st.ar.small
  have hpos := HP.out.pos
  go_wp2_with fail
  go_loopg [9, 10, 11, 12, 13, 39] ns.length (fun r _ _ _ _ _ u39 wr => ∃ k : Nat, k + r = ns.length ∧ u39 = .int .i64 k ∧ Below w2.heap.size w2 wr)
  case atStart => exact ⟨0, by omega, rfl, Below.refl _ _⟩
  case round =>
    obtain ⟨wo, hwo⟩ : ∃ wo : World, wo = wr := ⟨_, rfl⟩
    subst hwo
    obtain ⟨k0, hkr0, rfl, hbel⟩ := hrel
    have HPr := Lib.hid (HP.out.below hbel)
    by_cases hlt0 : k0 < ns.length
    · obtain ⟨sb, so, rfl, hsb, hsrc⟩ := HSRC.out (by omega)
      have hsc := hsrc k0 hlt0
      have hdok := HOK.out k0 hlt0
      have e5 : ∀ o, wo.cell? ⟨sb, o, none⟩ = w.cell? ⟨sb, o, none⟩ := fun o => HPr.out.st.bel.cell (p := ⟨sb, o, none⟩) hsb
      rw [← e5, ← e5, ← e5, ← e5, ← e5] at hsc
      clear e5
      have hsr : sb < wo.heap.size := Nat.lt_of_lt_of_le hsb HPr.out.st.bel.size
      obtain ⟨d, hd⟩ : ∃ d, d = ns.getD k0 zN := ⟨_, rfl⟩
      rw [← hd] at hsc hdok
      clear hd hsrc
      have HDD : Hid (∃ d', d' = d) := Lib.hid ⟨d, rfl⟩
      clear HDD
      obtain ⟨k1, n1, a1, b1, e1⟩ := d
      obtain ⟨s0, s1, s2, s3, s4⟩ := hsc
      simp only at s0 s1 s2 s3 s4
      have HDOK := Lib.hid hdok; clear hdok
      have hk00 : (0 : Int) ≤ (k0 : Int) := by omega
      have hk01 : (k0 : Int) < (ns.length : Int) := by omega
      have y1 := (bcell hbel w1.heap.size 1 zl).trans z1
      have yl : w1.heap.size < wo.heap.size := Nat.lt_of_lt_of_le zl hbel.size
      have HBA := Lib.hid (fun o => (Below.refl wo.heap.size wo).alloc (Nat.le_refl _) o)
      have HFD := Lib.hid (fun o => find_any b g bm cap lim L k1 n1 a1 b1 e1 (wo.alloc o) (HPr.out.below (HBA.out o)).st.ar HDOK.out)
      go_wp2_with fail
      refine (HFD.out _).mono ?_
      rintro e w3 ⟨rfl, hb3⟩
      have H3 := Lib.hid ((HPr.out.below (HBA.out _)).below hb3)
      have x0 : w3.cell? ⟨wo.heap.size, 0, none⟩ = some (.int .i64 k1) := (bcell hb3 wo.heap.size 0 (by simp)).trans (by go_simp)
      have x1 : w3.cell? ⟨wo.heap.size, 1, none⟩ = some (.int .u64 n1) := (bcell hb3 wo.heap.size 1 (by simp)).trans (by go_simp)
      have x2 : w3.cell? ⟨wo.heap.size, 2, none⟩ = some (.int .i64 a1) := (bcell hb3 wo.heap.size 2 (by simp)).trans (by go_simp)
      have x3 : w3.cell? ⟨wo.heap.size, 3, none⟩ = some (.int .i64 b1) := (bcell hb3 wo.heap.size 3 (by simp)).trans (by go_simp)
      have x4 : w3.cell? ⟨wo.heap.size, 4, none⟩ = some (.int .i64 e1) := (bcell hb3 wo.heap.size 4 (by simp)).trans (by go_simp)
      have t1 : w3.cell? ⟨w1.heap.size, 1, none⟩ = some (.slice (some ⟨gr, 0, none⟩) L.length capr) := (bcell hb3 w1.heap.size 1 (by simp; omega)).trans (by go_simp)
      have xl : wo.heap.size < w3.heap.size := by have := hb3.size; simp at this; omega
      have tl : w1.heap.size < w3.heap.size := by omega
      have HBW : Hid (Below w2.heap.size w2 w3) := Lib.hid (hbel.trans (((HBA.out _).trans (hb3.mono (HBA.out _).size)).mono hbel.size))
      clear hb3 s0 s1 s2 s3 s4 y1 yl HFD HBA hsr
      have HIX : Hid (((ix ⟨k1, n1, a1, b1, e1⟩ L).isSome = true ↔ ∃ j, j < L.length ∧ L.getD j zN = ⟨k1, n1, a1, b1, e1⟩) ∧ (∀ j, j < L.length → L.getD j zN = ⟨k1, n1, a1, b1, e1⟩ → (ix ⟨k1, n1, a1, b1, e1⟩ L).getD 0 = j) ∧ ((ix ⟨k1, n1, a1, b1, e1⟩ L).isSome = false → (ix ⟨k1, n1, a1, b1, e1⟩ L).getD 0 = 0)) := Lib.hid (by
        cases hi : ix ⟨k1, n1, a1, b1, e1⟩ L with
        | none => exact ⟨⟨fun h => absurd h (by simp), fun ⟨j, hj, h⟩ => absurd h (ix_none hi j hj)⟩, fun j hj h => absurd h (ix_none hi j hj), fun _ => rfl⟩
        | some i =>
          obtain ⟨q1, q2, q3⟩ := ix_some hi
          exact ⟨⟨fun _ => ⟨i, q1, q2⟩, fun _ => rfl⟩, fun j hj h => HP.out.st.ar.wf.nodup i j q1 hj (q2.trans h.symm), fun h => absurd h (by simp)⟩)
      generalize (ix ⟨k1, n1, a1, b1, e1⟩ L).getD 0 = at0 at *
      generalize (ix ⟨k1, n1, a1, b1, e1⟩ L).isSome = found at *
      go_wp2_with fail
      go_loopg [12, 13, 52] L.length (fun r u12 _ u52 wi => ∃ (k : Nat) (q : Bool), k + r = L.length ∧ u52 = .int .i64 k ∧ u12 = .bool q ∧ (q = true ↔ ∃ j, j < k ∧ L.getD j zN = ⟨k1, n1, a1, b1, e1⟩) ∧ Below w3.heap.size w3 wi)
      case atStart => exact ⟨0, false, by omega, rfl, rfl, ⟨fun h => (by cases h), fun ⟨j, hj, _⟩ => absurd hj (Nat.not_lt_zero _)⟩, Below.refl _ _⟩
      case round =>
        obtain ⟨k, q, hkr, rfl, rfl, hq, hbi⟩ := hrel
        have HQ := Lib.hid hq; clear hq
        by_cases hlt : k < L.length
        · have H4 := Lib.hid (H3.out.below hbi)
          have ri := H4.out.row k hlt
          have gl := H4.out.lt
          have c0 := (bcell hbi wo.heap.size 0 xl).trans x0
          have c1 := (bcell hbi wo.heap.size 1 xl).trans x1
          have c2 := (bcell hbi wo.heap.size 2 xl).trans x2
          have c3 := (bcell hbi wo.heap.size 3 xl).trans x3
          have c4 := (bcell hbi wo.heap.size 4 xl).trans x4
          have v1 := (bcell hbi w1.heap.size 1 tl).trans t1
          have hbs := hbi.size
          have l0 : w1.heap.size < wr.heap.size := by omega
          have l1 : w1.heap.size < wr.heap.size + 1 := by omega
          have l2 : wo.heap.size < wr.heap.size := by omega
          have l3 : wo.heap.size < wr.heap.size + 1 := by omega
          have l4 : gr < wr.heap.size + 1 := by omega
          have hk0 : (0 : Int) ≤ (k : Int) := by omega
          have hk1 : (k : Int) < (L.length : Int) := by omega
          clear hbs x0 x1 x2 x3 x4 t1 xl tl z1 zl hk00 hk01
          have HBI := Lib.hid hbi; clear hbi
          have hM : L.getD k zN = L.getD k zN := rfl
          obtain ⟨m, hmm⟩ : ∃ m, m = L.getD k zN := ⟨_, rfl⟩
          rw [← hmm] at ri
          have HMM := Lib.hid hmm; clear hmm hM
          obtain ⟨k2, n2, a2, b2, e2⟩ := m
          obtain ⟨r0, r1, r2, r3, r4⟩ := ri
          simp only at r0 r1 r2 r3 r4
          cases q
          · by_cases heq : (⟨k2, n2, a2, b2, e2⟩ : Nd) = ⟨k1, n1, a1, b1, e1⟩
            · have HEQ : Hid (L.getD k zN = ⟨k1, n1, a1, b1, e1⟩) := Lib.hid (HMM.out.symm.trans heq)
              obtain rfl : k = at0 := (HIX.out.2.1 k hlt HEQ.out).symm
              simp only [Nd.mk.injEq] at heq
              have g0 := beq_iff_eq.2 heq.1
              have g1 := beq_iff_eq.2 heq.2.1
              have g2 := beq_iff_eq.2 heq.2.2.1
              have g3 := beq_iff_eq.2 heq.2.2.2.1
              have g4 := beq_iff_eq.2 heq.2.2.2.2
              clear HMM heq
              go_upto_region 14 with fail
              refine wp_region_held_drew (S := (fun w' => w'.cell? ⟨w1.heap.size, 1, none⟩ = some (.slice (some ⟨gr, 0, none⟩) L.length capr) ∧ w'.cell? ⟨gr, k * 5, none⟩ = some (.int .i64 k2) ∧ w'.cell? ⟨gr, k * 5 + 1, none⟩ = some (.int .u64 n2) ∧ w'.cell? ⟨gr, k * 5 + 2, none⟩ = some (.int .i64 a2) ∧ w'.cell? ⟨gr, k * 5 + 3, none⟩ = some (.int .i64 b2) ∧ w'.cell? ⟨gr, k * 5 + 4, none⟩ = some (.int .i64 e2) ∧ w'.cell? ⟨wo.heap.size, 0, none⟩ = some (.int .i64 k1) ∧ w'.cell? ⟨wo.heap.size, 1, none⟩ = some (.int .u64 n1) ∧ w'.cell? ⟨wo.heap.size, 2, none⟩ = some (.int .i64 a1) ∧ w'.cell? ⟨wo.heap.size, 3, none⟩ = some (.int .i64 b1) ∧ w'.cell? ⟨wo.heap.size, 4, none⟩ = some (.int .i64 e1))) (by kernel_rfl) ?_ (fun hHeld => ?_)
              · (first | (go_simp; done) | (simp [*]; done))
              refine wpAnyH_take (i := 0) (v := ?_) rfl (by kernel_rfl) (by kernel_rfl) (by kernel_rfl) (fun _ _ _ h => h) (Or.inl ⟨by rfl, ?_⟩) (by assumption) ?_
              rotate_left
              · (intro w hSw; (try dsimp only at hSw); go_simp; try with_reducible rfl)
              try simp only [List.getElem_toArray, List.getElem_cons_succ, List.getElem_cons_zero, Act.put, List.setIfInBounds_toArray, List.set_cons_zero, List.set_cons_succ]
              refine wpAnyH_take (i := 1) (v := ?_) rfl (by kernel_rfl) (by kernel_rfl) (by kernel_rfl) (fun _ _ _ h => h) (Or.inl ⟨by rfl, ?_⟩) (by assumption) ?_
              rotate_left
              · (intro w hSw; (try dsimp only at hSw); go_simp; try with_reducible rfl)
              try simp only [List.getElem_toArray, List.getElem_cons_succ, List.getElem_cons_zero, Act.put, List.setIfInBounds_toArray, List.set_cons_zero, List.set_cons_succ]
              refine wpAnyH_take (i := 2) (v := ?_) rfl (by kernel_rfl) (by kernel_rfl) (by kernel_rfl) (fun _ _ _ h => h) (Or.inl ⟨by rfl, ?_⟩) (by assumption) ?_
              rotate_left
              · (intro w hSw; (try dsimp only at hSw); go_simp; try with_reducible rfl)
              try simp only [List.getElem_toArray, List.getElem_cons_succ, List.getElem_cons_zero, Act.put, List.setIfInBounds_toArray, List.set_cons_zero, List.set_cons_succ]
              refine wpAnyH_take (i := 3) (v := ?_) rfl (by kernel_rfl) (by kernel_rfl) (by kernel_rfl) (fun _ _ _ h => h) (Or.inl ⟨by rfl, ?_⟩) (by assumption) ?_
              rotate_left
              · (intro w hSw; (try dsimp only at hSw); go_simp; try with_reducible rfl)
              try simp only [List.getElem_toArray, List.getElem_cons_succ, List.getElem_cons_zero, Act.put, List.setIfInBounds_toArray, List.set_cons_zero, List.set_cons_succ]
              refine wpAnyH_take (i := 4) (v := ?_) rfl (by kernel_rfl) (by kernel_rfl) (by kernel_rfl) (fun _ _ _ h => h) (Or.inl ⟨by rfl, ?_⟩) (by assumption) ?_
              rotate_left
              · (intro w hSw; (try dsimp only at hSw); go_simp; try with_reducible rfl)
              try simp only [List.getElem_toArray, List.getElem_cons_succ, List.getElem_cons_zero, Act.put, List.setIfInBounds_toArray, List.set_cons_zero, List.set_cons_succ]
              refine wpAnyH_take (i := 5) (v := ?_) rfl (by kernel_rfl) (by kernel_rfl) (by kernel_rfl) (fun _ _ _ h => h) (Or.inl ⟨by rfl, ?_⟩) (by assumption) ?_
              rotate_left
              · (intro w hSw; (try dsimp only at hSw); go_simp; try with_reducible rfl)
              try simp only [List.getElem_toArray, List.getElem_cons_succ, List.getElem_cons_zero, Act.put, List.setIfInBounds_toArray, List.set_cons_zero, List.set_cons_succ]
              refine wpAnyH_take (i := 6) (v := ?_) rfl (by kernel_rfl) (by kernel_rfl) (by kernel_rfl) (fun _ _ _ h => h) (Or.inl ⟨by rfl, ?_⟩) (by assumption) ?_
              rotate_left
              · (intro w hSw; (try dsimp only at hSw); go_simp; try with_reducible rfl)
              try simp only [List.getElem_toArray, List.getElem_cons_succ, List.getElem_cons_zero, Act.put, List.setIfInBounds_toArray, List.set_cons_zero, List.set_cons_succ]
              refine wpAnyH_take (i := 7) (v := ?_) rfl (by kernel_rfl) (by kernel_rfl) (by kernel_rfl) (fun _ _ _ h => h) (Or.inl ⟨by rfl, ?_⟩) (by assumption) ?_
              rotate_left
              · (intro w hSw; (try dsimp only at hSw); go_simp; try with_reducible rfl)
              try simp only [List.getElem_toArray, List.getElem_cons_succ, List.getElem_cons_zero, Act.put, List.setIfInBounds_toArray, List.set_cons_zero, List.set_cons_succ]
              refine wpAnyH_ready (rs := [8]) (by kernel_rfl) (by simp) ?_
              refine AllReadyH.cons rfl (fun K hK => ?_) AllReadyH.nil
              go_simp
              (refine (one_any _ _ _ _ _ _).mono ?_; rintro e w' ⟨rfl, rfl⟩)
              go_wp2_with fail
              refine hK.out _ _ ?_ (fun hHeld => ?_)
              · (first | (go_simp; done) | (simp [*]; done))
              clear hK K
              try simp only [List.getElem_toArray, List.getElem_cons_succ, List.getElem_cons_zero, Act.put, List.setIfInBounds_toArray, List.set_cons_zero, List.set_cons_succ]
              refine wpAnyH_take (i := 9) (v := ?_) rfl (by kernel_rfl) (by kernel_rfl) (by kernel_rfl) (fun _ _ _ h => h) (Or.inl ⟨by rfl, ?_⟩) (by assumption) ?_
              rotate_left
              · (intro w hSw; (try dsimp only at hSw); go_simp; try with_reducible rfl)
              try simp only [List.getElem_toArray, List.getElem_cons_succ, List.getElem_cons_zero, Act.put, List.setIfInBounds_toArray, List.set_cons_zero, List.set_cons_succ]
              refine wpAnyH_take (i := 10) (v := ?_) rfl (by kernel_rfl) (by kernel_rfl) (by kernel_rfl) (fun _ _ _ h => h) (Or.inl ⟨by rfl, ?_⟩) (by assumption) ?_
              rotate_left
              · (intro w hSw; (try dsimp only at hSw); go_simp; try with_reducible rfl)
              try simp only [List.getElem_toArray, List.getElem_cons_succ, List.getElem_cons_zero, Act.put, List.setIfInBounds_toArray, List.set_cons_zero, List.set_cons_succ]
              refine wpAnyH_take (i := 11) (v := ?_) rfl (by kernel_rfl) (by kernel_rfl) (by kernel_rfl) (fun _ _ _ h => h) (Or.inl ⟨by rfl, ?_⟩) (by assumption) ?_
              rotate_left
              · (intro w hSw; (try dsimp only at hSw); go_simp; try with_reducible rfl)
              try simp only [List.getElem_toArray, List.getElem_cons_succ, List.getElem_cons_zero, Act.put, List.setIfInBounds_toArray, List.set_cons_zero, List.set_cons_succ]
              refine wpAnyH_take (i := 12) (v := ?_) rfl (by kernel_rfl) (by kernel_rfl) (by kernel_rfl) (fun _ _ _ h => h) (Or.inl ⟨by rfl, ?_⟩) (by assumption) ?_
              rotate_left
              · (intro w hSw; (try dsimp only at hSw); go_simp; try with_reducible rfl)
              try simp only [List.getElem_toArray, List.getElem_cons_succ, List.getElem_cons_zero, Act.put, List.setIfInBounds_toArray, List.set_cons_zero, List.set_cons_succ]
              refine wpAnyH_take (i := 13) (v := ?_) rfl (by kernel_rfl) (by kernel_rfl) (by kernel_rfl) (fun _ _ _ h => h) (Or.inl ⟨by rfl, ?_⟩) (by assumption) ?_
              rotate_left
              · (intro w hSw; (try dsimp only at hSw); go_simp; try with_reducible rfl)
              try simp only [List.getElem_toArray, List.getElem_cons_succ, List.getElem_cons_zero, Act.put, List.setIfInBounds_toArray, List.set_cons_zero, List.set_cons_succ]
              refine wpAnyH_take (i := 14) (v := ?_) rfl (by kernel_rfl) (by kernel_rfl) (by kernel_rfl) (fun _ _ _ h => h) (Or.inl ⟨by rfl, ?_⟩) (by assumption) ?_
              rotate_left
              · (intro w hSw; (try dsimp only at hSw); go_simp; try with_reducible rfl)
              try simp only [List.getElem_toArray, List.getElem_cons_succ, List.getElem_cons_zero, Act.put, List.setIfInBounds_toArray, List.set_cons_zero, List.set_cons_succ]
              refine wpAnyH_take (i := 15) (v := ?_) rfl (by kernel_rfl) (by kernel_rfl) (by kernel_rfl) (fun _ _ _ h => h) (Or.inl ⟨by rfl, ?_⟩) (by assumption) ?_
              rotate_left
              · (intro w hSw; (try dsimp only at hSw); go_simp; try with_reducible rfl)
              try simp only [List.getElem_toArray, List.getElem_cons_succ, List.getElem_cons_zero, Act.put, List.setIfInBounds_toArray, List.set_cons_zero, List.set_cons_succ]
              refine wpAnyH_take (i := 16) (v := ?_) rfl (by kernel_rfl) (by kernel_rfl) (by kernel_rfl) (fun _ _ _ h => h) (Or.inl ⟨by rfl, ?_⟩) (by assumption) ?_
              rotate_left
              · (intro w hSw; (try dsimp only at hSw); go_simp; try with_reducible rfl)
              try simp only [List.getElem_toArray, List.getElem_cons_succ, List.getElem_cons_zero, Act.put, List.setIfInBounds_toArray, List.set_cons_zero, List.set_cons_succ]
              refine wpAnyH_done (by kernel_rfl) ?_ _
              go_wp2_with fail
              go_roundg (L.length - (k + 1))
              case measure => omega
              case rel =>
                exact ⟨k + 1, true, by omega, by go_num, rfl, ⟨fun _ => ⟨k, by omega, HEQ.out⟩, fun _ => rfl⟩, ((HBI.out.drew.alloc HBI.out.size _).alloc (Nat.le_trans HBI.out.size (by simp)) _)⟩
            · have HNE : Hid (∀ j, j < k + 1 → L.getD j zN ≠ ⟨k1, n1, a1, b1, e1⟩) := Lib.hid (fun j hj hd => by
                by_cases hjk : j < k
                · have := HQ.out.2 ⟨j, hjk, hd⟩; cases this
                · obtain rfl : j = k := by omega
                  exact heq (HMM.out.trans hd))
              have hcase : k2 ≠ k1 ∨ (k2 = k1 ∧ n2 ≠ n1) ∨ (k2 = k1 ∧ n2 = n1 ∧ a2 ≠ a1) ∨ (k2 = k1 ∧ n2 = n1 ∧ a2 = a1 ∧ b2 ≠ b1) ∨ (k2 = k1 ∧ n2 = n1 ∧ a2 = a1 ∧ b2 = b1 ∧ e2 ≠ e1) := by
                by_cases q1 : k2 = k1
                · by_cases q2 : n2 = n1
                  · by_cases q3 : a2 = a1
                    · by_cases q4 : b2 = b1
                      · by_cases q5 : e2 = e1
                        · exact absurd (by rw [q1, q2, q3, q4, q5]) heq
                        · exact .inr (.inr (.inr (.inr ⟨q1, q2, q3, q4, q5⟩)))
                      · exact .inr (.inr (.inr (.inl ⟨q1, q2, q3, q4⟩)))
                    · exact .inr (.inr (.inl ⟨q1, q2, q3⟩))
                  · exact .inr (.inl ⟨q1, q2⟩)
                · exact .inl q1
              clear heq HMM
              rcases hcase with h | ⟨g0, h⟩ | ⟨g0, g1, h⟩ | ⟨g0, g1, g2, h⟩ | ⟨g0, g1, g2, g3, h⟩
              all_goals
                have hq := beq_eq_false_iff_ne.2 h
                clear h
                try replace g0 := beq_iff_eq.2 g0
                try replace g1 := beq_iff_eq.2 g1
                try replace g2 := beq_iff_eq.2 g2
                try replace g3 := beq_iff_eq.2 g3
                go_upto_region 14 with fail
                refine wp_region_held_drew (S := (fun w' => w'.cell? ⟨w1.heap.size, 1, none⟩ = some (.slice (some ⟨gr, 0, none⟩) L.length capr) ∧ w'.cell? ⟨gr, k * 5, none⟩ = some (.int .i64 k2) ∧ w'.cell? ⟨gr, k * 5 + 1, none⟩ = some (.int .u64 n2) ∧ w'.cell? ⟨gr, k * 5 + 2, none⟩ = some (.int .i64 a2) ∧ w'.cell? ⟨gr, k * 5 + 3, none⟩ = some (.int .i64 b2) ∧ w'.cell? ⟨gr, k * 5 + 4, none⟩ = some (.int .i64 e2) ∧ w'.cell? ⟨wo.heap.size, 0, none⟩ = some (.int .i64 k1) ∧ w'.cell? ⟨wo.heap.size, 1, none⟩ = some (.int .u64 n1) ∧ w'.cell? ⟨wo.heap.size, 2, none⟩ = some (.int .i64 a1) ∧ w'.cell? ⟨wo.heap.size, 3, none⟩ = some (.int .i64 b1) ∧ w'.cell? ⟨wo.heap.size, 4, none⟩ = some (.int .i64 e1))) (by kernel_rfl) ?_ (fun hHeld => ?_)
                · (first | (go_simp; done) | (simp [*]; done))
                refine wpAnyH_take (i := 0) (v := ?_) rfl (by kernel_rfl) (by kernel_rfl) (by kernel_rfl) (fun _ _ _ h => h) (Or.inl ⟨by rfl, ?_⟩) (by assumption) ?_
                rotate_left
                · (intro w hSw; (try dsimp only at hSw); go_simp; try with_reducible rfl)
                try simp only [List.getElem_toArray, List.getElem_cons_succ, List.getElem_cons_zero, Act.put, List.setIfInBounds_toArray, List.set_cons_zero, List.set_cons_succ]
                refine wpAnyH_take (i := 1) (v := ?_) rfl (by kernel_rfl) (by kernel_rfl) (by kernel_rfl) (fun _ _ _ h => h) (Or.inl ⟨by rfl, ?_⟩) (by assumption) ?_
                rotate_left
                · (intro w hSw; (try dsimp only at hSw); go_simp; try with_reducible rfl)
                try simp only [List.getElem_toArray, List.getElem_cons_succ, List.getElem_cons_zero, Act.put, List.setIfInBounds_toArray, List.set_cons_zero, List.set_cons_succ]
                refine wpAnyH_take (i := 2) (v := ?_) rfl (by kernel_rfl) (by kernel_rfl) (by kernel_rfl) (fun _ _ _ h => h) (Or.inl ⟨by rfl, ?_⟩) (by assumption) ?_
                rotate_left
                · (intro w hSw; (try dsimp only at hSw); go_simp; try with_reducible rfl)
                try simp only [List.getElem_toArray, List.getElem_cons_succ, List.getElem_cons_zero, Act.put, List.setIfInBounds_toArray, List.set_cons_zero, List.set_cons_succ]
                refine wpAnyH_take (i := 3) (v := ?_) rfl (by kernel_rfl) (by kernel_rfl) (by kernel_rfl) (fun _ _ _ h => h) (Or.inl ⟨by rfl, ?_⟩) (by assumption) ?_
                rotate_left
                · (intro w hSw; (try dsimp only at hSw); go_simp; try with_reducible rfl)
                try simp only [List.getElem_toArray, List.getElem_cons_succ, List.getElem_cons_zero, Act.put, List.setIfInBounds_toArray, List.set_cons_zero, List.set_cons_succ]
                refine wpAnyH_take (i := 4) (v := ?_) rfl (by kernel_rfl) (by kernel_rfl) (by kernel_rfl) (fun _ _ _ h => h) (Or.inl ⟨by rfl, ?_⟩) (by assumption) ?_
                rotate_left
                · (intro w hSw; (try dsimp only at hSw); go_simp; try with_reducible rfl)
                try simp only [List.getElem_toArray, List.getElem_cons_succ, List.getElem_cons_zero, Act.put, List.setIfInBounds_toArray, List.set_cons_zero, List.set_cons_succ]
                refine wpAnyH_take (i := 5) (v := ?_) rfl (by kernel_rfl) (by kernel_rfl) (by kernel_rfl) (fun _ _ _ h => h) (Or.inl ⟨by rfl, ?_⟩) (by assumption) ?_
                rotate_left
                · (intro w hSw; (try dsimp only at hSw); go_simp; try with_reducible rfl)
                try simp only [List.getElem_toArray, List.getElem_cons_succ, List.getElem_cons_zero, Act.put, List.setIfInBounds_toArray, List.set_cons_zero, List.set_cons_succ]
                refine wpAnyH_take (i := 6) (v := ?_) rfl (by kernel_rfl) (by kernel_rfl) (by kernel_rfl) (fun _ _ _ h => h) (Or.inl ⟨by rfl, ?_⟩) (by assumption) ?_
                rotate_left
                · (intro w hSw; (try dsimp only at hSw); go_simp; try with_reducible rfl)
                try simp only [List.getElem_toArray, List.getElem_cons_succ, List.getElem_cons_zero, Act.put, List.setIfInBounds_toArray, List.set_cons_zero, List.set_cons_succ]
                refine wpAnyH_take (i := 7) (v := ?_) rfl (by kernel_rfl) (by kernel_rfl) (by kernel_rfl) (fun _ _ _ h => h) (Or.inl ⟨by rfl, ?_⟩) (by assumption) ?_
                rotate_left
                · (intro w hSw; (try dsimp only at hSw); go_simp; try with_reducible rfl)
                try simp only [List.getElem_toArray, List.getElem_cons_succ, List.getElem_cons_zero, Act.put, List.setIfInBounds_toArray, List.set_cons_zero, List.set_cons_succ]
                refine wpAnyH_ready (rs := [8]) (by kernel_rfl) (by simp) ?_
                refine AllReadyH.cons rfl (fun K hK => ?_) AllReadyH.nil
                go_simp
                (refine (one_any _ _ _ _ _ _).mono ?_; rintro e w' ⟨rfl, rfl⟩)
                go_wp2_with fail
                refine hK.out _ _ ?_ (fun hHeld => ?_)
                · (first | (go_simp; done) | (simp [*]; done))
                clear hK K
                try simp only [List.getElem_toArray, List.getElem_cons_succ, List.getElem_cons_zero, Act.put, List.setIfInBounds_toArray, List.set_cons_zero, List.set_cons_succ]
                refine wpAnyH_take (i := 9) (v := ?_) rfl (by kernel_rfl) (by kernel_rfl) (by kernel_rfl) (fun _ _ _ h => h) (Or.inl ⟨by rfl, ?_⟩) (by assumption) ?_
                rotate_left
                · (intro w hSw; (try dsimp only at hSw); go_simp; try with_reducible rfl)
                try simp only [List.getElem_toArray, List.getElem_cons_succ, List.getElem_cons_zero, Act.put, List.setIfInBounds_toArray, List.set_cons_zero, List.set_cons_succ]
                refine wpAnyH_take (i := 10) (v := ?_) rfl (by kernel_rfl) (by kernel_rfl) (by kernel_rfl) (fun _ _ _ h => h) (Or.inl ⟨by rfl, ?_⟩) (by assumption) ?_
                rotate_left
                · (intro w hSw; (try dsimp only at hSw); go_simp; try with_reducible rfl)
                try simp only [List.getElem_toArray, List.getElem_cons_succ, List.getElem_cons_zero, Act.put, List.setIfInBounds_toArray, List.set_cons_zero, List.set_cons_succ]
                refine wpAnyH_take (i := 11) (v := undef) rfl (by kernel_rfl) (by kernel_rfl) (by kernel_rfl) (fun _ _ _ h => h) (Or.inr ⟨by rfl, rfl⟩) (by assumption) ?_
                try simp only [List.getElem_toArray, List.getElem_cons_succ, List.getElem_cons_zero, Act.put, List.setIfInBounds_toArray, List.set_cons_zero, List.set_cons_succ]
                refine wpAnyH_take (i := 12) (v := undef) rfl (by kernel_rfl) (by kernel_rfl) (by kernel_rfl) (fun _ _ _ h => h) (Or.inr ⟨by rfl, rfl⟩) (by assumption) ?_
                try simp only [List.getElem_toArray, List.getElem_cons_succ, List.getElem_cons_zero, Act.put, List.setIfInBounds_toArray, List.set_cons_zero, List.set_cons_succ]
                refine wpAnyH_take (i := 13) (v := undef) rfl (by kernel_rfl) (by kernel_rfl) (by kernel_rfl) (fun _ _ _ h => h) (Or.inr ⟨by rfl, rfl⟩) (by assumption) ?_
                try simp only [List.getElem_toArray, List.getElem_cons_succ, List.getElem_cons_zero, Act.put, List.setIfInBounds_toArray, List.set_cons_zero, List.set_cons_succ]
                refine wpAnyH_take (i := 14) (v := ?_) rfl (by kernel_rfl) (by kernel_rfl) (by kernel_rfl) (fun _ _ _ h => h) (Or.inl ⟨by rfl, ?_⟩) (by assumption) ?_
                rotate_left
                · (intro w hSw; (try dsimp only at hSw); go_simp; try with_reducible rfl)
                try simp only [List.getElem_toArray, List.getElem_cons_succ, List.getElem_cons_zero, Act.put, List.setIfInBounds_toArray, List.set_cons_zero, List.set_cons_succ]
                refine wpAnyH_take (i := 15) (v := ?_) rfl (by kernel_rfl) (by kernel_rfl) (by kernel_rfl) (fun _ _ _ h => h) (Or.inl ⟨by rfl, ?_⟩) (by assumption) ?_
                rotate_left
                · (intro w hSw; (try dsimp only at hSw); go_simp; try with_reducible rfl)
                try simp only [List.getElem_toArray, List.getElem_cons_succ, List.getElem_cons_zero, Act.put, List.setIfInBounds_toArray, List.set_cons_zero, List.set_cons_succ]
                refine wpAnyH_take (i := 16) (v := ?_) rfl (by kernel_rfl) (by kernel_rfl) (by kernel_rfl) (fun _ _ _ h => h) (Or.inl ⟨by rfl, ?_⟩) (by assumption) ?_
                rotate_left
                · (intro w hSw; (try dsimp only at hSw); go_simp; try with_reducible rfl)
                try simp only [List.getElem_toArray, List.getElem_cons_succ, List.getElem_cons_zero, Act.put, List.setIfInBounds_toArray, List.set_cons_zero, List.set_cons_succ]
                refine wpAnyH_done (by kernel_rfl) ?_ _
                go_wp2_with fail
                go_roundg (L.length - (k + 1))
                case measure => omega
                case rel =>
                  exact ⟨k + 1, false, by omega, by go_num, rfl, ⟨fun h => (by cases h), fun ⟨j, hj, hd⟩ => absurd hd (HNE.out j hj)⟩, ((HBI.out.drew.alloc HBI.out.size _).alloc (Nat.le_trans HBI.out.size (by simp)) _)⟩
          · clear HMM
            go_upto_region 14 with fail
            refine wp_region_held_drew (S := (fun w' => w'.cell? ⟨w1.heap.size, 1, none⟩ = some (.slice (some ⟨gr, 0, none⟩) L.length capr) ∧ w'.cell? ⟨gr, k * 5, none⟩ = some (.int .i64 k2) ∧ w'.cell? ⟨gr, k * 5 + 1, none⟩ = some (.int .u64 n2) ∧ w'.cell? ⟨gr, k * 5 + 2, none⟩ = some (.int .i64 a2) ∧ w'.cell? ⟨gr, k * 5 + 3, none⟩ = some (.int .i64 b2) ∧ w'.cell? ⟨gr, k * 5 + 4, none⟩ = some (.int .i64 e2) ∧ w'.cell? ⟨wo.heap.size, 0, none⟩ = some (.int .i64 k1) ∧ w'.cell? ⟨wo.heap.size, 1, none⟩ = some (.int .u64 n1) ∧ w'.cell? ⟨wo.heap.size, 2, none⟩ = some (.int .i64 a1) ∧ w'.cell? ⟨wo.heap.size, 3, none⟩ = some (.int .i64 b1) ∧ w'.cell? ⟨wo.heap.size, 4, none⟩ = some (.int .i64 e1))) (by kernel_rfl) ?_ (fun hHeld => ?_)
            · (first | (go_simp; done) | (simp [*]; done))
            refine wpAnyH_take (i := 0) (v := ?_) rfl (by kernel_rfl) (by kernel_rfl) (by kernel_rfl) (fun _ _ _ h => h) (Or.inl ⟨by rfl, ?_⟩) (by assumption) ?_
            rotate_left
            · (intro w hSw; (try dsimp only at hSw); go_simp; try with_reducible rfl)
            try simp only [List.getElem_toArray, List.getElem_cons_succ, List.getElem_cons_zero, Act.put, List.setIfInBounds_toArray, List.set_cons_zero, List.set_cons_succ]
            refine wpAnyH_take (i := 1) (v := ?_) rfl (by kernel_rfl) (by kernel_rfl) (by kernel_rfl) (fun _ _ _ h => h) (Or.inl ⟨by rfl, ?_⟩) (by assumption) ?_
            rotate_left
            · (intro w hSw; (try dsimp only at hSw); go_simp; try with_reducible rfl)
            try simp only [List.getElem_toArray, List.getElem_cons_succ, List.getElem_cons_zero, Act.put, List.setIfInBounds_toArray, List.set_cons_zero, List.set_cons_succ]
            refine wpAnyH_take (i := 2) (v := undef) rfl (by kernel_rfl) (by kernel_rfl) (by kernel_rfl) (fun _ _ _ h => h) (Or.inr ⟨by rfl, rfl⟩) (by assumption) ?_
            try simp only [List.getElem_toArray, List.getElem_cons_succ, List.getElem_cons_zero, Act.put, List.setIfInBounds_toArray, List.set_cons_zero, List.set_cons_succ]
            refine wpAnyH_take (i := 3) (v := undef) rfl (by kernel_rfl) (by kernel_rfl) (by kernel_rfl) (fun _ _ _ h => h) (Or.inr ⟨by rfl, rfl⟩) (by assumption) ?_
            try simp only [List.getElem_toArray, List.getElem_cons_succ, List.getElem_cons_zero, Act.put, List.setIfInBounds_toArray, List.set_cons_zero, List.set_cons_succ]
            refine wpAnyH_take (i := 4) (v := undef) rfl (by kernel_rfl) (by kernel_rfl) (by kernel_rfl) (fun _ _ _ h => h) (Or.inr ⟨by rfl, rfl⟩) (by assumption) ?_
            try simp only [List.getElem_toArray, List.getElem_cons_succ, List.getElem_cons_zero, Act.put, List.setIfInBounds_toArray, List.set_cons_zero, List.set_cons_succ]
            refine wpAnyH_take (i := 5) (v := undef) rfl (by kernel_rfl) (by kernel_rfl) (by kernel_rfl) (fun _ _ _ h => h) (Or.inr ⟨by rfl, rfl⟩) (by assumption) ?_
            try simp only [List.getElem_toArray, List.getElem_cons_succ, List.getElem_cons_zero, Act.put, List.setIfInBounds_toArray, List.set_cons_zero, List.set_cons_succ]
            refine wpAnyH_take (i := 6) (v := undef) rfl (by kernel_rfl) (by kernel_rfl) (by kernel_rfl) (fun _ _ _ h => h) (Or.inr ⟨by rfl, rfl⟩) (by assumption) ?_
            try simp only [List.getElem_toArray, List.getElem_cons_succ, List.getElem_cons_zero, Act.put, List.setIfInBounds_toArray, List.set_cons_zero, List.set_cons_succ]
            refine wpAnyH_take (i := 7) (v := undef) rfl (by kernel_rfl) (by kernel_rfl) (by kernel_rfl) (fun _ _ _ h => h) (Or.inr ⟨by rfl, rfl⟩) (by assumption) ?_
            try simp only [List.getElem_toArray, List.getElem_cons_succ, List.getElem_cons_zero, Act.put, List.setIfInBounds_toArray, List.set_cons_zero, List.set_cons_succ]
            refine wpAnyH_take (i := 8) (v := undef) rfl (by kernel_rfl) (by kernel_rfl) (by kernel_rfl) (fun _ _ _ h => h) (Or.inr ⟨by rfl, rfl⟩) (by assumption) ?_
            try simp only [List.getElem_toArray, List.getElem_cons_succ, List.getElem_cons_zero, Act.put, List.setIfInBounds_toArray, List.set_cons_zero, List.set_cons_succ]
            refine wpAnyH_take (i := 9) (v := undef) rfl (by kernel_rfl) (by kernel_rfl) (by kernel_rfl) (fun _ _ _ h => h) (Or.inr ⟨by rfl, rfl⟩) (by assumption) ?_
            try simp only [List.getElem_toArray, List.getElem_cons_succ, List.getElem_cons_zero, Act.put, List.setIfInBounds_toArray, List.set_cons_zero, List.set_cons_succ]
            refine wpAnyH_take (i := 10) (v := undef) rfl (by kernel_rfl) (by kernel_rfl) (by kernel_rfl) (fun _ _ _ h => h) (Or.inr ⟨by rfl, rfl⟩) (by assumption) ?_
            try simp only [List.getElem_toArray, List.getElem_cons_succ, List.getElem_cons_zero, Act.put, List.setIfInBounds_toArray, List.set_cons_zero, List.set_cons_succ]
            refine wpAnyH_take (i := 11) (v := undef) rfl (by kernel_rfl) (by kernel_rfl) (by kernel_rfl) (fun _ _ _ h => h) (Or.inr ⟨by rfl, rfl⟩) (by assumption) ?_
            try simp only [List.getElem_toArray, List.getElem_cons_succ, List.getElem_cons_zero, Act.put, List.setIfInBounds_toArray, List.set_cons_zero, List.set_cons_succ]
            refine wpAnyH_take (i := 12) (v := undef) rfl (by kernel_rfl) (by kernel_rfl) (by kernel_rfl) (fun _ _ _ h => h) (Or.inr ⟨by rfl, rfl⟩) (by assumption) ?_
            try simp only [List.getElem_toArray, List.getElem_cons_succ, List.getElem_cons_zero, Act.put, List.setIfInBounds_toArray, List.set_cons_zero, List.set_cons_succ]
            refine wpAnyH_take (i := 13) (v := undef) rfl (by kernel_rfl) (by kernel_rfl) (by kernel_rfl) (fun _ _ _ h => h) (Or.inr ⟨by rfl, rfl⟩) (by assumption) ?_
            try simp only [List.getElem_toArray, List.getElem_cons_succ, List.getElem_cons_zero, Act.put, List.setIfInBounds_toArray, List.set_cons_zero, List.set_cons_succ]
            refine wpAnyH_take (i := 14) (v := undef) rfl (by kernel_rfl) (by kernel_rfl) (by kernel_rfl) (fun _ _ _ h => h) (Or.inr ⟨by rfl, rfl⟩) (by assumption) ?_
            try simp only [List.getElem_toArray, List.getElem_cons_succ, List.getElem_cons_zero, Act.put, List.setIfInBounds_toArray, List.set_cons_zero, List.set_cons_succ]
            refine wpAnyH_take (i := 15) (v := ?_) rfl (by kernel_rfl) (by kernel_rfl) (by kernel_rfl) (fun _ _ _ h => h) (Or.inl ⟨by rfl, ?_⟩) (by assumption) ?_
            rotate_left
            · (intro w hSw; (try dsimp only at hSw); go_simp; try with_reducible rfl)
            try simp only [List.getElem_toArray, List.getElem_cons_succ, List.getElem_cons_zero, Act.put, List.setIfInBounds_toArray, List.set_cons_zero, List.set_cons_succ]
            refine wpAnyH_take (i := 16) (v := ?_) rfl (by kernel_rfl) (by kernel_rfl) (by kernel_rfl) (fun _ _ _ h => h) (Or.inl ⟨by rfl, ?_⟩) (by assumption) ?_
            rotate_left
            · (intro w hSw; (try dsimp only at hSw); go_simp; try with_reducible rfl)
            try simp only [List.getElem_toArray, List.getElem_cons_succ, List.getElem_cons_zero, Act.put, List.setIfInBounds_toArray, List.set_cons_zero, List.set_cons_succ]
            refine wpAnyH_done (by kernel_rfl) ?_ _
            go_wp2_with fail
            go_roundg (L.length - (k + 1))
            case measure => omega
            case rel =>
              exact ⟨k + 1, true, by omega, by go_num, rfl, ⟨fun _ => (HQ.out.1 (by trivial)).imp fun j h => ⟨by omega, h.2⟩, fun _ => rfl⟩, HBI.out.drew⟩
        · obtain rfl : k = L.length := by omega
          have hqf : q = found := by
            cases q
            · cases hf : found
              · rfl
              · have := HQ.out.2 (HIX.out.1.1 hf); cases this
            · exact (HIX.out.1.2 (HQ.out.1 rfl)).symm
          subst hqf
          have hlt1 : decide ((L.length : Int) < (L.length : Int)) = false := by simp
          have HBB : Hid (Below w2.heap.size w2 wr) := Lib.hid (HBW.out.trans (hbi.mono HBW.out.size))
          cases q
          · obtain rfl : at0 = 0 := HIX.out.2.2 rfl
            go_wp2_with fail
            go_roundg (ns.length - (k0 + 1))
            case measure => omega
            case rel => exact ⟨k0 + 1, by omega, by go_num, HBB.out⟩
          · go_wp2_with fail
            go_roundg (ns.length - (k0 + 1))
            case measure => omega
            case rel => exact ⟨k0 + 1, by omega, by go_num, HBB.out⟩
    · obtain rfl : k0 = ns.length := by omega
      have hlt1 : decide ((ns.length : Int) < (ns.length : Int)) = false := by simp
      have HLEN := Lib.hid (len_any b (some ⟨g, 0, none⟩) L.length cap wo HPr.out.st.ar.c0)
      have HG1 : Hid (Calls Tryd.prog 16 #[.pointer (some ⟨b, 0, none⟩), .int .i64 L.length] wo fun e w' => e = .returned (.tuple #[.agg #[.int .i64 0, .int .u64 0, .int .i64 0, .int .i64 0, .int .i64 0], .bool false]) ∧ Below wo.heap.size wo w') :=
        Lib.hid (get_no b g bm cap lim L L.length (by rw [hasB_not]; omega) wo HPr.out.st.ar)
      have HG2 : Hid (∀ W, Below wo.heap.size wo W → Calls Tryd.prog 16 #[.pointer (some ⟨b, 0, none⟩), .int .i64 (-1)] W fun e w' => e = .returned (.tuple #[.agg #[.int .i64 0, .int .u64 0, .int .i64 0, .int .i64 0, .int .i64 0], .bool false]) ∧ Below W.heap.size W w') :=
        Lib.hid (fun W hW => get_no b g bm cap lim L (-1) (by rw [hasB_not]; omega) W (HPr.out.below hW).st.ar)
      have HAW := Lib.hid (fun W (hW : Below wo.heap.size wo W) => awake_any W ((HPr.out.below hW).st.shp HS.out))
      go_wp2_with (go_at_call 17; refine HLEN.out.mono ?_; rintro e w' ⟨rfl, rfl⟩)
      refine HG1.out.mono ?_
      rintro e w5 ⟨rfl, hb5⟩
      have HB5 := Lib.hid hb5
      have HB6 := Lib.hid (fun o => HB5.out.alloc HB5.out.size o)
      clear hb5
      go_wp2_with fail
      refine (HG2.out _ (HB6.out _)).mono ?_
      rintro e w6 ⟨rfl, hb6⟩
      have i0 : w6.cell? ⟨w5.heap.size, 0, none⟩ = some (.int .i64 0) := (bcell hb6 w5.heap.size 0 (by simp)).trans (by go_simp)
      have i1 : w6.cell? ⟨w5.heap.size, 1, none⟩ = some (.int .u64 0) := (bcell hb6 w5.heap.size 1 (by simp)).trans (by go_simp)
      have i2 : w6.cell? ⟨w5.heap.size, 2, none⟩ = some (.int .i64 0) := (bcell hb6 w5.heap.size 2 (by simp)).trans (by go_simp)
      have i3 : w6.cell? ⟨w5.heap.size, 3, none⟩ = some (.int .i64 0) := (bcell hb6 w5.heap.size 3 (by simp)).trans (by go_simp)
      have i4 : w6.cell? ⟨w5.heap.size, 4, none⟩ = some (.int .i64 0) := (bcell hb6 w5.heap.size 4 (by simp)).trans (by go_simp)
      have il : w5.heap.size < w6.heap.size := by have := hb6.size; simp at this; omega
      have HB7 := Lib.hid ((HB6.out _).trans (hb6.mono (HB6.out _).size))
      have HB8 := Lib.hid (fun o => HB7.out.alloc HB7.out.size o)
      clear hb6
      go_wp2_with (go_at_call 11; refine (HAW.out _ (HB8.out _)).mono ?_; rintro e w9 ⟨rfl, hb9⟩)
      go_ret
      exact ⟨rfl, ((HPr.out.below (HB8.out _)).below hb9).st.bel⟩
end Go.Proofs.YtemjhhjalnlmlaaDoor
