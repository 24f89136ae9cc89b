/- Layer 7: the law ValidTurns. -/
import Derived.Test.YtobpnjjgpoompaaGreatDoorCm
import Derived.Test.YtobpnjjgpoompaaGreatDoorCq
namespace Go.Proofs.YtobpnjjgpoompaaGreatDoor
open Go.RowKit Go.Shelf

theorem MsO.set {w : World} {B : Nat} {v : Value} {ms : List Ms} (h : MsO w B v ms) {b o : Nat} (hb : b < B) (u : Value) : MsO (w.setCell ⟨b, o, none⟩ u) B v ms := by
  obtain ⟨vs, h1, h2, h3⟩ := h
  exact ⟨vs, h1, own_set h2 hb u, fun i y hy => own_set (h3 i y hy) hb u⟩
/-- While messages are turned round. -/
structure Tu (w : World) (x : Sl) (p : Pt) (qb k : Nat) (v : Value) (wr : World) : Prop where
  pb : Bx w w.heap.size x p wr
  qx : wr.heap[qb]? = some (.cells #[.string ⟨p.nm.toArray⟩, .slice x.s1 p.p1.length x.c1, .slice x.s0 p.p0.length x.c0, v] 26 (0, 0))
  ms : MsO wr (qb + 1) v ((p.ms.take k).map tm)
  lt : w.heap.size < qb
theorem Tu.keep {w : World} {x : Sl} {p : Pt} {qb k : Nat} {v : Value} {wr wx : World} (h : Tu w x p qb k v wr) (hb : Below wr.heap.size wr wx) : Tu w x p qb k v wx := ⟨h.pb.keep hb, (hb.block _ (lt_of_heap h.qx)).trans h.qx, h.ms.keep hb, h.lt⟩
theorem tu_new {w w2 : World} {x : Sl} {p : Pt} (h : Bx w w.heap.size x p w2) : Tu w x p w2.heap.size 0 (.slice none 0 0) (w2.alloc (.cells #[.string ⟨p.nm.toArray⟩, .slice x.s1 p.p1.length x.c1, .slice x.s0 p.p0.length x.c0, .slice none 0 0] 26)) :=
  ⟨h.keep ((Below.refl _ _).alloc (Nat.le_refl _) _), heap_alloc_new w2 _, ⟨[], rfl, World.ownsRow_nil _ _ _ _, fun i u hu => by simp at hu⟩, lt_of_heap h.bx⟩
/-- The cells of tokens that were turned round. -/
def twV (l : List Int) (j : Nat) : List Value := ((l.take j).map tw).map (Value.int .i64)
theorem tw_next {l : List Int} {j : Nat} (h : j < l.length) : twV l (j + 1) = twV l j ++ [.int .i64 (tw (l.getD j 0))] := by
  unfold twV; rw [take_nextI h]; simp
theorem tm_next {ms : List Ms} {k : Nat} (h : k < ms.length) : (ms.take (k + 1)).map tm = (ms.take k).map tm ++ [tm (ms.getD k default)] := by
  rw [take_next h]; simp
theorem wf_rng {f : Int} (h : (Lit.int .i64 f).wf = true) : rng f := by
  simp only [Lit.wf, Bool.and_eq_true, decide_eq_true_eq] at h
  have e1 : IntKind.i64.min = -9223372036854775808 := by decide
  have e2 : IntKind.i64.max = 9223372036854775807 := by decide
  rw [e1, e2] at h
  exact h
set_option maxRecDepth 100000 in
set_option maxHeartbeats 4000000 in
theorem turns_good (x : Sl) (p : Pt) (w : World) (hE : Ev w) (hp : PatA w x p) (hg : ∀ m ∈ p.ms, (Lit.int .i64 m.fr).wf = true) : Calls Tryz.prog 8 #[patV x p] w fun e w' => e = .returned (.bool true) ∧ Below w.heap.size w w' := by
  have HE := Lib.hid hE; clear hE
  have HP := Lib.hid hp; clear hp
  have HA := Lib.hid (fun wx (hb : Below w.heap.size w wx) => awake_any wx (HE.out.keep hb))
  have HF := Lib.hid (fun wx (hb : Below w.heap.size w wx) => few_any x p wx (HP.out.keep hb))
  have HW := Lib.hid (bx_new w x p)
  have HG := Lib.hid hg; clear hg
  unfold patV at HF ⊢
  obtain ⟨n, hn⟩ : ∃ n, n = p.ms.length := ⟨_, rfl⟩
  cases f1 : fewB p with
  | false =>
    rw [f1] at HF
    clear f1 hn
    go_enter Tryz.func8, Tryz.ntmps8
    go_wp2_with (go_at_call 9; refine (HF.out _ HW.out.bel).mono ?_; rintro e w2 ⟨rfl, hb2⟩; have HW2 := Lib.hid (HW.out.keep hb2); clear hb2; obtain ⟨b0, b1, b2, b3⟩ := HW2.out.cells; have lw2 := lt_of_heap HW2.out.bx)
    go_wp2_with (go_at_call 10; refine (HA.out _ HW2.out.bel).mono ?_; rintro e w9 ⟨rfl, hb9⟩; have HB9 := Lib.hid (HW2.out.bel.trans (hb9.mono HW2.out.bel.size)); clear hb9)
    go_ret
    exact ⟨rfl, HB9.out⟩
  | true =>
    rw [f1] at HF
    by_cases h2 : n < 2
    · have h2i : (p.ms.length : Int) < 2 := by omega
      have h2n : p.ms.length < 2 := by omega
      clear f1 hn
      go_enter Tryz.func8, Tryz.ntmps8
      go_wp2_with (go_at_call 9; refine (HF.out _ HW.out.bel).mono ?_; rintro e w2 ⟨rfl, hb2⟩; have HW2 := Lib.hid (HW.out.keep hb2); clear hb2; obtain ⟨b0, b1, b2, b3⟩ := HW2.out.cells; have lw2 := lt_of_heap HW2.out.bx)
      go_wp2_with (go_at_call 10; refine (HA.out _ HW2.out.bel).mono ?_; rintro e w9 ⟨rfl, hb9⟩; have HB9 := Lib.hid (HW2.out.bel.trans (hb9.mono HW2.out.bel.size)); clear hb9)
      go_ret
      exact ⟨rfl, HB9.out⟩
    · have HSH := Lib.hid (few_short f1)
      have HTO := Lib.hid (turn_ok (p := p) (by omega) fun m hm => wf_rng (HG.out m hm))
      have h2i : ¬ (p.ms.length : Int) < 2 := by omega
      have h2n : ¬ p.ms.length < 2 := by omega
      have hn65 : (p.ms.length : Int) ≤ 65536 := by have := HSH.out.2.2.1; omega
      clear f1 h2 hn
      obtain ⟨i0, hi0, hz0, hz1, hz2⟩ := info_parts Tryz.infoM
      obtain ⟨j0, hj0, hy0, hy1, hy2⟩ := info_parts Tryz.infoI
      go_enter Tryz.func8, Tryz.ntmps8
      go_wp2_with (go_at_call 9; refine (HF.out _ HW.out.bel).mono ?_; rintro e w2 ⟨rfl, hb2⟩; have HW2 := Lib.hid (HW.out.keep hb2); clear hb2; obtain ⟨b0, b1, b2, b3⟩ := HW2.out.cells; have lw2 := lt_of_heap HW2.out.bx)
      have HT0 := Lib.hid (tu_new HW2.out)
      clear b0 b1 b2 b3 lw2
      generalize w2.alloc (.cells #[.string ⟨p.nm.toArray⟩, .slice x.s1 p.p1.length x.c1, .slice x.s0 p.p0.length x.c0, .slice none 0 0] 26) = w3 at *
      generalize w2.heap.size = qb at *
      go_loopg [38] p.ms.length (fun q u38 wr => ∃ (k : Nat) (v : Value), k + q = p.ms.length ∧ u38 = .int .i64 k ∧ Aside (Tu w x p qb k v wr))
      case atStart => exact ⟨0, .slice none 0 0, by omega, rfl, HT0.out⟩
      case round =>
        obtain ⟨k, v, hkq, rfl, htu⟩ := hrel
        have HTU := Lib.hid htu.out; clear htu
        obtain ⟨wo, rfl⟩ : ∃ wo, wo = wr := ⟨_, rfl⟩
        by_cases hlt : k < p.ms.length
        · have hk2 : (k : Int) < p.ms.length := by omega
          have HLT := Lib.hid hlt
          obtain ⟨g, o, hs, hia⟩ := (HP.out.im.keep HTU.out.pb.bel) (by omega)
          obtain ⟨s0, c0, s1, c1, s2, c2⟩ := x
          simp only at hs
          subst hs
          obtain ⟨q0, sx, cx, q1, qi⟩ := hia k hlt
          clear hia
          have lg := World.block_lt_of_cell? _ _ q0
          have hll := HSH.out.2.2.2 k hlt
          obtain ⟨fr, hfr⟩ : ∃ f, f = (p.ms.getD k default).fr := ⟨_, rfl⟩
          obtain ⟨ts, hts⟩ : ∃ f, f = (p.ms.getD k default).t := ⟨_, rfl⟩
          rw [← hfr] at q0
          rw [← hts] at q1 qi hll
          have HTM : Hid (tm (p.ms.getD k default) = ⟨trn fr, ts.map tw⟩) := Lib.hid (by unfold tm; rw [hfr, hts])
          obtain ⟨gf, hgf⟩ : ∃ gf, gf = IntKind.i64.wrap (1 - fr) := ⟨_, rfl⟩
          have HGF : Hid (trn fr = gf) := Lib.hid (by rw [hgf]; rfl)
          have hgw := hgf.symm
          obtain ⟨m, hm⟩ : ∃ m, m = ts.length := ⟨_, rfl⟩
          rw [← hm] at q1
          have hm65 : (m : Int) ≤ 65536 := by omega
          have HM := Lib.hid hm
          have HQI := Lib.hid qi
          clear hfr hts hgf hm hll qi
          go_wp2_with fail
          have HIN : Hid (Below wo.heap.size wo (wo.alloc (.cells #[.int .i64 fr, .slice sx m cx] 46)) ∧ (wo.alloc (.cells #[.int .i64 fr, .slice sx m cx] 46)).heap[wo.heap.size]? = some (.cells #[.int .i64 fr, .slice sx m cx] 46 (0, 0)) ∧ (wo.alloc (.cells #[.int .i64 fr, .slice sx m cx] 46)).ownsRow (wo.heap.size + 1) 3 1 (.slice none 0 0) 0 (twV ts 0)) := Lib.hid ⟨(Below.refl _ _).alloc (Nat.le_refl _) _, heap_alloc_new wo _, World.ownsRow_nil _ _ _ _⟩
          go_loopg [6, 45] m (fun q u6 u45 wr => ∃ j : Nat, j + q = m ∧ u45 = .int .i64 j ∧ Aside (Below wo.heap.size wo wr ∧ wr.heap[wo.heap.size]? = some (.cells #[.int .i64 fr, .slice sx m cx] 46 (0, 0)) ∧ wr.ownsRow (wo.heap.size + 1) 3 1 u6 j (twV ts j)))
          case atStart => exact ⟨0, by omega, rfl, HIN.out⟩
          case round =>
            obtain ⟨j, hjq, rfl, hin⟩ := hrel
            have HI := Lib.hid hin.out; clear hin
            obtain ⟨su, cu, hu⟩ := own_slice HI.out.2.2
            subst hu
            by_cases hjl : j < m
            · have hj2 : (j : Int) < m := by omega
              obtain ⟨gb, ob, hsa, hib⟩ := (HQI.out.keep HI.out.1) (by have := HM.out; omega)
              subst hsa
              have hx := hib j (by have := HM.out; omega)
              clear hib
              obtain ⟨t, htt⟩ : ∃ t, t = ts.getD j 0 := ⟨_, rfl⟩
              rw [← htt] at hx
              have HNX := Lib.hid (tw_next (l := ts) (j := j) (by have := HM.out; omega))
              rw [← htt] at HNX
              clear htt
              have lx := World.block_lt_of_cell? _ _ hx
              by_cases h4 : t = 4
              · subst h4
                have HTWX : Hid (tw 4 = 5) := Lib.hid rfl
                go_wp2_with (at_builtin; refine wpList_append_own _ rfl _ _ 22 rfl (wo.heap.size + 1) 3 j0 (.int .i64 0) 1 8 Tryz.underlying22 hj0 hy0 hy1 hy2 rfl (by decide) _ _ _ rfl (World.ownsRow.alloc HI.out.2.2 _) ⟨wr.heap.size, 0, none⟩ 1 1 [.int .i64 5] rfl rfl ?k1c1 ?k1c2 ?k1c3 ?k1c4 ?k1c5 ?_)
                case k1c2 => rfl
                case k1c3 => unfold maxLen; omega
                case k1c4 => omega
                case k1c5 => have := HI.out.1.size; simp; have := lt_of_heap HI.out.2.1; omega
                intro v4 w4 hown4 hgr4 _
                have HST : Hid (Below wo.heap.size wo w4 ∧ w4.heap[wo.heap.size]? = some (.cells #[.int .i64 fr, .slice (some ⟨gb, ob, none⟩) m cx] 46 (0, 0)) ∧ w4.ownsRow (wo.heap.size + 1) 3 1 v4 (j + 1) (twV ts (j + 1))) := Lib.hid (by
                  have hXB : Below wr.heap.size wr (wr.alloc (.cells #[.int .i64 5] 3)) := (Below.refl _ _).alloc (Nat.le_refl _) _
                  have hX := HI.out.1.trans (hXB.mono HI.out.1.size)
                  refine ⟨hX.grown hgr4 hX.size (fun b e => by have := (HI.out.2.2.lt b e).1; omega), ?_, by rw [HNX.out, HTWX.out]; exact hown4⟩
                  refine (hgr4.block _ (by have := hXB.size; have := lt_of_heap HI.out.2.1; omega) (fun e => by have := (HI.out.2.2.lt _ e.symm).1; omega)).trans ((hXB.block _ (lt_of_heap HI.out.2.1)).trans HI.out.2.1))
                obtain ⟨sv, cv, hv4⟩ := own_slice hown4
                subst hv4
                clear hown4 hgr4
                go_wp2_with fail
                go_roundg (m - (j + 1))
                case measure => omega
                case rel => exact ⟨j + 1, by omega, by go_num, HST.out⟩
              · by_cases h5 : t = 5
                · subst h5
                  have HTWX : Hid (tw 5 = 4) := Lib.hid rfl
                  go_wp2_with (at_builtin; refine wpList_append_own _ rfl _ _ 22 rfl (wo.heap.size + 1) 3 j0 (.int .i64 0) 1 8 Tryz.underlying22 hj0 hy0 hy1 hy2 rfl (by decide) _ _ _ rfl (World.ownsRow.alloc HI.out.2.2 _) ⟨wr.heap.size, 0, none⟩ 1 1 [.int .i64 4] rfl rfl ?k2c1 ?k2c2 ?k2c3 ?k2c4 ?k2c5 ?_)
                  case k2c2 => rfl
                  case k2c3 => unfold maxLen; omega
                  case k2c4 => omega
                  case k2c5 => have := HI.out.1.size; simp; have := lt_of_heap HI.out.2.1; omega
                  intro v4 w4 hown4 hgr4 _
                  have HST : Hid (Below wo.heap.size wo w4 ∧ w4.heap[wo.heap.size]? = some (.cells #[.int .i64 fr, .slice (some ⟨gb, ob, none⟩) m cx] 46 (0, 0)) ∧ w4.ownsRow (wo.heap.size + 1) 3 1 v4 (j + 1) (twV ts (j + 1))) := Lib.hid (by
                    have hXB : Below wr.heap.size wr (wr.alloc (.cells #[.int .i64 4] 3)) := (Below.refl _ _).alloc (Nat.le_refl _) _
                    have hX := HI.out.1.trans (hXB.mono HI.out.1.size)
                    refine ⟨hX.grown hgr4 hX.size (fun b e => by have := (HI.out.2.2.lt b e).1; omega), ?_, by rw [HNX.out, HTWX.out]; exact hown4⟩
                    refine (hgr4.block _ (by have := hXB.size; have := lt_of_heap HI.out.2.1; omega) (fun e => by have := (HI.out.2.2.lt _ e.symm).1; omega)).trans ((hXB.block _ (lt_of_heap HI.out.2.1)).trans HI.out.2.1))
                  obtain ⟨sv, cv, hv4⟩ := own_slice hown4
                  subst hv4
                  clear hown4 hgr4
                  go_wp2_with fail
                  go_roundg (m - (j + 1))
                  case measure => omega
                  case rel => exact ⟨j + 1, by omega, by go_num, HST.out⟩
                · have g4 : (t == 4) = false := by simpa using h4
                  have g5 : (t == 5) = false := by simpa using h5
                  have HTWX : Hid (tw t = t) := Lib.hid (by unfold tw; rw [if_neg h4, if_neg h5])
                  clear h4 h5
                  go_wp2_with (at_builtin; refine wpList_append_own _ rfl _ _ 22 rfl (wo.heap.size + 1) 3 j0 (.int .i64 0) 1 8 Tryz.underlying22 hj0 hy0 hy1 hy2 rfl (by decide) _ _ _ rfl (World.ownsRow.alloc HI.out.2.2 _) ⟨wr.heap.size, 0, none⟩ 1 1 [.int .i64 t] rfl rfl ?k3c1 ?k3c2 ?k3c3 ?k3c4 ?k3c5 ?_)
                  case k3c2 => rfl
                  case k3c3 => unfold maxLen; omega
                  case k3c4 => omega
                  case k3c5 => have := HI.out.1.size; simp; have := lt_of_heap HI.out.2.1; omega
                  intro v4 w4 hown4 hgr4 _
                  have HST : Hid (Below wo.heap.size wo w4 ∧ w4.heap[wo.heap.size]? = some (.cells #[.int .i64 fr, .slice (some ⟨gb, ob, none⟩) m cx] 46 (0, 0)) ∧ w4.ownsRow (wo.heap.size + 1) 3 1 v4 (j + 1) (twV ts (j + 1))) := Lib.hid (by
                    have hXB : Below wr.heap.size wr (wr.alloc (.cells #[.int .i64 t] 3)) := (Below.refl _ _).alloc (Nat.le_refl _) _
                    have hX := HI.out.1.trans (hXB.mono HI.out.1.size)
                    refine ⟨hX.grown hgr4 hX.size (fun b e => by have := (HI.out.2.2.lt b e).1; omega), ?_, by rw [HNX.out, HTWX.out]; exact hown4⟩
                    refine (hgr4.block _ (by have := hXB.size; have := lt_of_heap HI.out.2.1; omega) (fun e => by have := (HI.out.2.2.lt _ e.symm).1; omega)).trans ((hXB.block _ (lt_of_heap HI.out.2.1)).trans HI.out.2.1))
                  obtain ⟨sv, cv, hv4⟩ := own_slice hown4
                  subst hv4
                  clear hown4 hgr4
                  go_wp2_with fail
                  go_roundg (m - (j + 1))
                  case measure => omega
                  case rel => exact ⟨j + 1, by omega, by go_num, HST.out⟩
            · have hj2 : ¬ (j : Int) < m := by omega
              have HU : Hid (wr.ownsRow (wo.heap.size + 1) 3 1 (.slice su j cu) (ts.map tw).length ((ts.map tw).map (Value.int .i64))) := Lib.hid (by
                have h := HI.out.2.2
                have e : ts.take j = ts := List.take_of_length_le (by have := HM.out; omega)
                unfold twV at h
                rw [e] at h
                have e2 : (ts.map tw).length = j := by rw [List.length_map]; have := HM.out; omega
                rw [e2]; exact h)
              have HTR := Lib.hid (HTU.out.keep HI.out.1)
              obtain ⟨m0, m1⟩ := box2c HI.out.2.1
              have lm := lt_of_heap HI.out.2.1
              obtain ⟨sp, cp, hsp, -, -⟩ := HTR.out.ms.msgs
              have elen : ((p.ms.take k).map tm).length = k := by rw [List.length_map, List.length_take]; have := HLT.out; omega
              rw [elen] at hsp
              subst hsp
              obtain ⟨vs, hv1, hv2, hv3⟩ := HTR.out.ms
              have HV := Lib.hid (And.intro hv1 (And.intro hv2 hv3))
              clear hv1 hv2 hv3
              rw [elen] at HV
              obtain ⟨b0, b1, b2, b3, f0, f1, f2, f3⟩ := box4c HTR.out.qx
              have lb := lt_of_heap HTR.out.qx
              have HEL := Lib.hid elen
              clear elen
              have HFAR : Hid ((Value.slice sp k cp).ownBlock ≠ some qb) := Lib.hid (fun e => by have := (HV.out.2.1.lt _ e).1; omega)
              go_wp2_with (at_builtin; refine wpList_append_own _ rfl _ _ 24 rfl (qb + 1) 46 i0 (.agg #[.int .i64 0, .slice none 0 0]) 2 32 Tryz.underlying24 hi0 hz0 hz1 hz2 rfl (by decide) _ _ _ rfl (World.ownsRow.alloc HV.out.2.1 _) ⟨wr.heap.size, 0, none⟩ 1 1 [.int .i64 gf, .slice su j cu] rfl rfl ?c1 ?c2 ?c3 ?c4 ?c5 ?_)
              case c2 => exact ⟨rfl, rfl⟩
              case c3 => unfold maxLen; omega
              case c4 => omega
              case c5 => first | omega | (simp; omega)
              intro v4 w4 hown4 hgr4 _
              obtain ⟨sv, cv, hv4⟩ := own_slice hown4
              subst hv4
              have hXB : Below wr.heap.size wr (wr.alloc (.cells #[.int .i64 gf, .slice su j cu] 46)) := (Below.refl _ _).alloc (Nat.le_refl _) _
              have e1 : w4.cell? ⟨qb, 3, none⟩ = some (.slice sp k cp) := hgr4.cell ((hXB.cell (p := ⟨qb, 3, none⟩) lb).trans b3) (fun e => HFAR.out e.symm)
              have e2 : w4.frozen? ⟨qb, 3, none⟩ = false := (hgr4.frozen_far ⟨qb, 3, none⟩ (by have := hXB.size; simp; omega) (fun e => HFAR.out e.symm)).trans ((hXB.frozen (p := ⟨qb, 3, none⟩) lb).trans f3)
              have HGN : Hid (Tu w ⟨s0, c0, s1, c1, some ⟨g, o, none⟩, c2⟩ p qb (k + 1) (.slice sv (k + 1) cv) (w4.setCell ⟨qb, 3, none⟩ (.slice sv (k + 1) cv))) := Lib.hid (by
                have hne : ∀ b, b ≤ qb → b < wr.heap.size → w4.heap[b]? = wr.heap[b]? := fun b hb hb2 => (hgr4.block b (by have := hXB.size; omega) (fun e => by have := (HV.out.2.1.lt b e.symm).1; omega)).trans (hXB.block b hb2)
                have hst : MsO w4 (qb + 1) (.slice sv (k + 1) cv) ((p.ms.take k).map tm ++ [tm (p.ms.getD k default)]) := by
                  refine MsO.step (m := tm (p.ms.getD k default)) (u := .slice su j cu) (HV.out.1.trans HEL.out.symm) (by rw [HEL.out]; exact World.ownsRow.alloc HV.out.2.1 _) (fun i u hu => World.ownsRow.alloc (HV.out.2.2 i u hu) _) ?_ hgr4 ?_
                  · rw [HTM.out]; exact World.ownsRow.alloc (own_less HU.out (by have := lt_of_heap HTU.out.qx; omega)) _
                  · rw [HTM.out, HGF.out, HEL.out, List.map_take]; exact hown4
                have hpl := HTR.out.pb
                have hlt := HTR.out.lt
                refine ⟨⟨?_, ?_⟩, setCell_box43 ((hne qb (Nat.le_refl _) lb).trans HTR.out.qx), ?_, hlt⟩
                · rw [Below.heap_setCell _ _ _ _ (by simp; omega)]; exact (hne _ (by omega) (lt_of_heap hpl.bx)).trans hpl.bx
                · have hbx := hpl.bel.trans (hXB.mono hpl.bel.size)
                  exact (hbx.grown hgr4 (by have := hbx.size; omega) (fun b e => by have := (HV.out.2.1.lt b e).1; omega)).setCell (by simp; omega) _
                · rw [tm_next HLT.out]; exact hst.set (by omega) _)
              clear hown4 hgr4 hXB
              go_wp2_with fail
              go_roundg (p.ms.length - (k + 1))
              case measure => omega
              case rel => exact ⟨k + 1, _, by omega, by go_num, HGN.out⟩
        · have hk2 : ¬ (k : Int) < p.ms.length := by omega
          have hkn : k = p.ms.length := by omega
          obtain ⟨sp, cp, hsp, hmv, hcp⟩ := HTU.out.ms.msgs
          have elen : ((p.ms.take k).map tm).length = p.ms.length := by rw [List.length_map, List.length_take]; omega
          have etk : (p.ms.take k).map tm = (tp p).ms := by rw [List.take_of_length_le (by omega)]; rfl
          rw [elen] at hsp hcp
          rw [etk] at hmv
          subst hsp
          have HPQ : Hid (PatA wo ⟨x.s1, x.c1, x.s0, x.c0, sp, cp⟩ (tp p)) := Lib.hid ⟨HP.out.i1.keep HTU.out.pb.bel, HP.out.i0.keep HTU.out.pb.bel, hmv, by rw [← etk, elen]; exact hcp⟩
          have HC := Lib.hid (check_any x p wo (HP.out.keep HTU.out.pb.bel) (HE.out.ky.keep HTU.out.pb.bel))
          have HCQ := Lib.hid (fun wx (hb : Below wo.heap.size wo wx) => check_any ⟨x.s1, x.c1, x.s0, x.c0, sp, cp⟩ (tp p) wx (HPQ.out.keep hb) (HE.out.ky.keep (HTU.out.pb.bel.trans (hb.mono HTU.out.pb.bel.size))))
          have el2 : (tp p).ms.length = p.ms.length := by simp [tp]
          have e30 : (tp p).p0 = p.p1 := rfl
          have e31 : (tp p).p1 = p.p0 := rfl
          have e32 : (tp p).nm = p.nm := rfl
          unfold patV at HC HCQ
          simp only [el2, e30, e31, e32] at HCQ
          have HQX := Lib.hid HTU.out.qx
          have hto := HTO.out
          obtain ⟨a0, ha0⟩ : ∃ a, a = ckR p := ⟨_, rfl⟩
          obtain ⟨a1, ha1⟩ : ∃ a, a = ckI p := ⟨_, rfl⟩
          obtain ⟨a2, ha2⟩ : ∃ a, a = ckE p := ⟨_, rfl⟩
          obtain ⟨c0, hc0⟩ : ∃ a, a = ckR (tp p) := ⟨_, rfl⟩
          rw [hto.1, hto.2.1] at HCQ
          rw [← ha0, ← ha1, ← ha2] at HC
          rw [← hc0, ← ha1, ← ha2] at HCQ
          have htr := hto.2.2
          rw [← ha0, ← ha1, ← ha2, ← hc0] at htr
          clear hto ha0 ha1 ha2 hc0 el2 e30 e31 e32 elen etk hmv hcp hkn
          obtain ⟨b0, b1, b2, b3⟩ := HTU.out.pb.cells
          have lb := lt_of_heap HTU.out.pb.bx
          have HTW := Lib.hid (fun wx (hb : Below wo.heap.size wo wx) => HTU.out.keep hb)
          by_cases hz : a2 = 0
          · have hc : c0 = a0 := htr (.inl hz)
            subst hz
            subst hc
            clear htr
            go_wp2_with fail
            go_at_call 11
            refine HC.out.mono ?_
            rintro e w5 ⟨rfl, hb5⟩
            have HT5 := Lib.hid (HTW.out _ hb5)
            have HB5 := Lib.hid hb5
            clear hb5 b0 b1 b2 b3 lb
            obtain ⟨b0, b1, b2, b3, -⟩ := box4c HT5.out.qx
            have lb := lt_of_heap HT5.out.qx
            go_wp2_with fail
            go_at_call 11
            refine (HCQ.out _ HB5.out).mono ?_
            rintro e w6 ⟨rfl, hb6⟩
            have HB6 := Lib.hid (HT5.out.pb.bel.trans (hb6.mono HT5.out.pb.bel.size))
            have HT6 := Lib.hid (HT5.out.keep hb6)
            clear hb6 b0 b1 b2 b3 lb
            obtain ⟨b0, b1, b2, b3⟩ := HT6.out.pb.cells
            have lb := lt_of_heap HT6.out.pb.bx
            go_wp2_with fail
            go_at_call 10
            refine (HA.out _ HB6.out).mono ?_
            rintro e w9 ⟨rfl, hb9⟩
            have HB9 := Lib.hid (HB6.out.trans (hb9.mono HB6.out.size))
            clear hb9
            go_wp2_with fail
            go_ret
            exact ⟨rfl, HB9.out⟩
          · have hzb : (a2 == 0) = false := by simpa using hz
            by_cases hi : a1 < p.ms.length
            · have hc : c0 = a0 := htr (.inr hi)
              have hi2 : (a1 : Int) < p.ms.length := by omega
              subst hc
              clear htr hz
              go_wp2_with fail
              go_at_call 11
              refine HC.out.mono ?_
              rintro e w5 ⟨rfl, hb5⟩
              have HT5 := Lib.hid (HTW.out _ hb5)
              have HB5 := Lib.hid hb5
              clear hb5 b0 b1 b2 b3 lb
              obtain ⟨b0, b1, b2, b3, -⟩ := box4c HT5.out.qx
              have lb := lt_of_heap HT5.out.qx
              go_wp2_with fail
              go_at_call 11
              refine (HCQ.out _ HB5.out).mono ?_
              rintro e w6 ⟨rfl, hb6⟩
              have HB6 := Lib.hid (HT5.out.pb.bel.trans (hb6.mono HT5.out.pb.bel.size))
              have HT6 := Lib.hid (HT5.out.keep hb6)
              clear hb6 b0 b1 b2 b3 lb
              obtain ⟨b0, b1, b2, b3⟩ := HT6.out.pb.cells
              have lb := lt_of_heap HT6.out.pb.bx
              go_wp2_with fail
              go_at_call 10
              refine (HA.out _ HB6.out).mono ?_
              rintro e w9 ⟨rfl, hb9⟩
              have HB9 := Lib.hid (HB6.out.trans (hb9.mono HB6.out.size))
              clear hb9
              go_wp2_with fail
              go_ret
              exact ⟨rfl, HB9.out⟩
            · have hi2 : ¬ (a1 : Int) < p.ms.length := by omega
              clear htr hz
              go_wp2_with fail
              go_at_call 11
              refine HC.out.mono ?_
              rintro e w5 ⟨rfl, hb5⟩
              have HT5 := Lib.hid (HTW.out _ hb5)
              have HB5 := Lib.hid hb5
              clear hb5 b0 b1 b2 b3 lb
              obtain ⟨b0, b1, b2, b3, -⟩ := box4c HT5.out.qx
              have lb := lt_of_heap HT5.out.qx
              go_wp2_with fail
              go_at_call 11
              refine (HCQ.out _ HB5.out).mono ?_
              rintro e w6 ⟨rfl, hb6⟩
              have HB6 := Lib.hid (HT5.out.pb.bel.trans (hb6.mono HT5.out.pb.bel.size))
              have HT6 := Lib.hid (HT5.out.keep hb6)
              clear hb6 b0 b1 b2 b3 lb
              obtain ⟨b0, b1, b2, b3⟩ := HT6.out.pb.cells
              have lb := lt_of_heap HT6.out.pb.bx
              go_wp2_with fail
              go_at_call 10
              refine (HA.out _ HB6.out).mono ?_
              rintro e w9 ⟨rfl, hb9⟩
              have HB9 := Lib.hid (HB6.out.trans (hb9.mono HB6.out.size))
              clear hb9
              go_wp2_with fail
              go_ret
              exact ⟨rfl, HB9.out⟩
end Go.Proofs.YtobpnjjgpoompaaGreatDoor
