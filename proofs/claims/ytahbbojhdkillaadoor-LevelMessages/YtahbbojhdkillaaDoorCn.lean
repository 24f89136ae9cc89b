/- Layer 7: walks of the reference's Mode, Key, sealing. -/
import Derived.Test.YtahbbojhdkillaaDoorCm
namespace Go.Proofs.YtahbbojhdkillaaDoor
open Go.RowKit Go.Shelf

/-- A reference's pattern in its box. -/
structure Bf (w : World) (b : Nat) (x : Sl) (p : Pt) (wr : World) : Prop where
  bx : wr.heap[b]? = some (.cells #[.string ⟨p.nm.toArray⟩, .slice x.s0 p.p0.length x.c0, .slice x.s1 p.p1.length x.c1, .slice x.s2 p.ms.length x.c2] 43 (0, 0))
  bel : Below w.heap.size w wr
theorem Bf.keep {w : World} {b : Nat} {x : Sl} {p : Pt} {wr wx : World} (h : Bf w b x p wr) (hb : Below wr.heap.size wr wx) : Bf w b x p wx := ⟨(hb.block _ (lt_of_heap h.bx)).trans h.bx, h.bel.trans (hb.mono h.bel.size)⟩
theorem Bf.cells {w : World} {b : Nat} {x : Sl} {p : Pt} {wr : World} (h : Bf w b x p wr) : (wr.cell? ⟨b, 0, none⟩ = some (.string ⟨p.nm.toArray⟩) ∧ wr.cell? ⟨b, 1, none⟩ = some (.slice x.s0 p.p0.length x.c0) ∧ wr.cell? ⟨b, 2, none⟩ = some (.slice x.s1 p.p1.length x.c1) ∧ wr.cell? ⟨b, 3, none⟩ = some (.slice x.s2 p.ms.length x.c2)) ∧ b < wr.heap.size := by
  obtain ⟨h0, h1, h2, h3, -⟩ := box4c h.bx
  exact ⟨⟨h0, h1, h2, h3⟩, lt_of_heap h.bx⟩
theorem bf_new (w : World) (x : Sl) (p : Pt) : Bf w w.heap.size x p (w.alloc (.cells #[.string ⟨p.nm.toArray⟩, .slice x.s0 p.p0.length x.c0, .slice x.s1 p.p1.length x.c1, .slice x.s2 p.ms.length x.c2] 43)) := ⟨heap_alloc_new w _, (Below.refl _ _).alloc (Nat.le_refl _) _⟩
theorem natPos (v : Nat) : decide ((v : Int) > 0) = decide (0 < v) := by rw [Bool.eq_iff_iff]; simp
set_option maxRecDepth 100000 in
set_option maxHeartbeats 1000000 in
theorem mode_any (x : Sl) (p : Pt) (w : World) (hp : PatA w x p) (hr : right p = true) : Calls Tryd.prog 46 #[patV x p] w fun e w' => e = .returned (.bool (psk p)) ∧ Below w.heap.size w w' := by
  have HM := Lib.hid (fun wx (hb : Below w.heap.size w wx) => metA_any x p 2 7 wx (hp.keep hb) hr)
  unfold patV at HM ⊢
  have HV : Hid (psk p = decide ((met 2 7 (flat p.ms) : Int) > 0)) := Lib.hid (by unfold psk; rw [natPos])
  generalize met 2 7 (flat p.ms) = v at HM HV
  have HB := Lib.hid (bf_new w x p)
  go_enter Tryd.func46, Tryd.ntmps46
  go_wp2_with fail
  go_at_call 45
  refine (HM.out _ HB.out.bel).mono ?_
  rintro e w1 ⟨rfl, hb1⟩
  have HB1 := Lib.hid (HB.out.keep hb1)
  clear hb1
  go_wp2_with fail
  go_ret
  exact ⟨by rw [HV.out]; simp, HB1.out.bel⟩

set_option maxRecDepth 100000 in
set_option maxHeartbeats 2000000 in
theorem key_any (x : Sl) (p : Pt) (msg at_ : Nat) (w : World) (hp : PatA w x p) (hr : right p = true) (hat : at_ ≤ 65536) (hmg : msg ≤ 65536) : Calls Tryd.prog 29 #[patV x p, .int .i64 msg, .int .i64 at_] w fun e w' => e = .returned (.bool (rkey p (ahd p.ms msg at_))) ∧ Below w.heap.size w w' := by
  have HM := Lib.hid (fun (t : Int) wx (hb : Below w.heap.size w wx) => met7_any x p 2 t msg at_ wx (hp.keep hb) hr hat hmg)
  have HMO := Lib.hid (fun wx (hb : Below w.heap.size w wx) => mode_any x p wx (hp.keep hb) hr)
  have HT0 := Lib.hid (fun wx (hb : Below w.heap.size w wx) => told7_any x p 0 1 (.inl rfl) msg at_ wx (hp.keep hb) hr hat hmg)
  have HT1 := Lib.hid (fun wx (hb : Below w.heap.size w wx) => told7_any x p 1 1 (.inr rfl) msg at_ wx (hp.keep hb) hr hat hmg)
  unfold patV at HM HMO HT0 HT1 ⊢
  generalize ahd p.ms msg at_ = L at HM HT0 HT1 ⊢
  have HB := Lib.hid (bf_new w x p)
  clear hp hr hat hmg
  go_enter Tryd.func29, Tryd.ntmps29
  go_wp2_with fail
  go_loopg [7] 5 (fun g u7 wr => ∃ t : Nat, t + g = 8 ∧ u7 = .int .i64 t ∧ Aside (3 ≤ t ∧ Bf w w.heap.size x p wr ∧ ∀ u : Nat, 3 ≤ u → u < t → met 2 u L = 0))
  case atStart => exact ⟨3, rfl, rfl, (show _ ∧ _ ∧ _ from ⟨Nat.le_refl _, HB.out, fun u _ _ => by omega⟩)⟩
  case round =>
    obtain ⟨t, htg, rfl, hr⟩ := hrel
    have HR := Lib.hid hr.out
    have HBR := Lib.hid HR.out.2.1
    clear hr
    obtain ⟨⟨b0, b1, b2, b3⟩, lb⟩ := HBR.out.cells
    by_cases hlt : t ≤ 7
    · have ht2 : (t : Int) ≤ 7 := by omega
      have HMT := Lib.hid (fun wx hb => HM.out (t : Int) wx hb)
      obtain ⟨v, hv⟩ : ∃ v, v = met 2 (t : Int) L := ⟨_, rfl⟩
      rw [← hv] at HMT
      rcases Nat.eq_zero_or_pos v with h0 | h0
      · have HZ : Hid (met 2 (t : Int) L = 0) := Lib.hid (hv.symm.trans h0)
        clear hv
        subst h0
        rw [natZero] at HMT
        go_wp2_with fail
        go_at_call 45
        refine (HMT.out _ HBR.out.bel).mono ?_
        rintro e w1 ⟨rfl, hb1⟩
        have HB1 := Lib.hid (HBR.out.keep hb1)
        clear hb1 b0 b1 b2 b3 lb
        obtain ⟨⟨b0, b1, b2, b3⟩, lb⟩ := HB1.out.cells
        go_wp2_with fail
        go_roundg (8 - (t + 1))
        case measure => omega
        case rel => exact ⟨t + 1, by omega, by go_num, (show _ ∧ _ ∧ _ from ⟨by have := HR.out.1; omega, HB1.out, fun u h3 hu => by
          by_cases e : u = t
          · subst e; exact HZ.out
          · exact HR.out.2.2 u h3 (by omega)⟩)⟩
      · have HV : Hid (rkey p L = true) := Lib.hid (by
          have h3 := HR.out.1
          have hc : t = 3 ∨ t = 4 ∨ t = 5 ∨ t = 6 ∨ t = 7 := by omega
          rw [hv] at h0
          rcases hc with rfl | rfl | rfl | rfl | rfl <;> simp at h0 <;> simp [rkey, h0])
        have hv2 : (0 : Int) < v := by omega
        clear hv
        go_wp2_with fail
        go_at_call 45
        refine (HMT.out _ HBR.out.bel).mono ?_
        rintro e w1 ⟨rfl, hb1⟩
        have HB1 := Lib.hid (HBR.out.keep hb1)
        clear hb1 b0 b1 b2 b3 lb
        obtain ⟨⟨b0, b1, b2, b3⟩, lb⟩ := HB1.out.cells
        go_wp2_with fail
        go_ret
        exact ⟨by rw [HV.out]; rfl, HB1.out.bel⟩
    · have ht2 : ¬ (t : Int) ≤ 7 := by omega
      have HZ : Hid (rkey p L = (psk p && (tld p 0 1 L || tld p 1 1 L))) := Lib.hid (by
        have h := HR.out.2.2
        have a3 := h 3 (by omega) (by omega)
        have a4 := h 4 (by omega) (by omega)
        have a5 := h 5 (by omega) (by omega)
        have a6 := h 6 (by omega) (by omega)
        have a7 := h 7 (by omega) (by omega)
        simp at a3 a4 a5 a6 a7
        simp [rkey, a3, a4, a5, a6, a7])
      generalize psk p = u at HMO HZ
      generalize tld p 0 1 L = v0 at HT0 HZ
      generalize tld p 1 1 L = v1 at HT1 HZ
      cases u with
      | false =>
        go_wp2_with fail
        go_at_call 46
        refine (HMO.out _ HBR.out.bel).mono ?_
        rintro e w1 ⟨rfl, hb1⟩
        have HB1 := Lib.hid (HBR.out.keep hb1)
        clear hb1 b0 b1 b2 b3 lb
        obtain ⟨⟨b0, b1, b2, b3⟩, lb⟩ := HB1.out.cells
        go_wp2_with fail
        go_ret
        exact ⟨by rw [HZ.out]; rfl, HB1.out.bel⟩
      | true =>
        cases v0 with
        | true =>
          go_wp2_with fail
          go_at_call 46
          refine (HMO.out _ HBR.out.bel).mono ?_
          rintro e w1 ⟨rfl, hb1⟩
          have HB1 := Lib.hid (HBR.out.keep hb1)
          clear hb1 b0 b1 b2 b3 lb
          obtain ⟨⟨b0, b1, b2, b3⟩, lb⟩ := HB1.out.cells
          go_wp2_with fail
          go_at_call 44
          refine (HT0.out _ HB1.out.bel).mono ?_
          rintro e w2 ⟨rfl, hb2⟩
          have HB2 := Lib.hid (HB1.out.keep hb2)
          clear hb2 b0 b1 b2 b3 lb
          obtain ⟨⟨b0, b1, b2, b3⟩, lb⟩ := HB2.out.cells
          go_wp2_with fail
          go_ret
          exact ⟨by rw [HZ.out]; rfl, HB2.out.bel⟩
        | false =>
          go_wp2_with fail
          go_at_call 46
          refine (HMO.out _ HBR.out.bel).mono ?_
          rintro e w1 ⟨rfl, hb1⟩
          have HB1 := Lib.hid (HBR.out.keep hb1)
          clear hb1 b0 b1 b2 b3 lb
          obtain ⟨⟨b0, b1, b2, b3⟩, lb⟩ := HB1.out.cells
          go_wp2_with fail
          go_at_call 44
          refine (HT0.out _ HB1.out.bel).mono ?_
          rintro e w2 ⟨rfl, hb2⟩
          have HB2 := Lib.hid (HB1.out.keep hb2)
          clear hb2 b0 b1 b2 b3 lb
          obtain ⟨⟨b0, b1, b2, b3⟩, lb⟩ := HB2.out.cells
          go_wp2_with fail
          go_at_call 44
          refine (HT1.out _ HB2.out.bel).mono ?_
          rintro e w3 ⟨rfl, hb3⟩
          have HB3 := Lib.hid (HB2.out.keep hb3)
          clear hb3 b0 b1 b2 b3 lb
          obtain ⟨⟨b0, b1, b2, b3⟩, lb⟩ := HB3.out.cells
          go_wp2_with fail
          go_ret
          exact ⟨by rw [HZ.out]; simp, HB3.out.bel⟩

theorem eqz (v : Nat) (h : 0 < v) : ((v : Int) == 0) = false := by simp; omega
set_option maxRecDepth 100000 in
set_option maxHeartbeats 8000000 in
theorem sealing_any (x : Sl) (p : Pt) (r : Int) (hr01 : r = 0 ∨ r = 1) (msg at_ : Nat) (w : World) (hp : PatA w x p) (hr : right p = true) (hat : at_ ≤ 65536) (hmg : msg ≤ 65536) : Calls Tryd.prog 30 #[patV x p, .int .i64 r, .int .i64 msg, .int .i64 at_] w fun e w' => e = .returned (.int .i64 (rsl p r (ahd p.ms msg at_))) ∧ Below w.heap.size w w' := by
  have HM := Lib.hid (fun (t : Int) wx (hb : Below w.heap.size w wx) => met7_any x p 2 t msg at_ wx (hp.keep hb) hr hat hmg)
  have HTF := Lib.hid (fun wx (hb : Below w.heap.size w wx) => told7_any x p r 1 hr01 msg at_ wx (hp.keep hb) hr hat hmg)
  unfold patV at HM HTF ⊢
  generalize ahd p.ms msg at_ = L at HM HTF ⊢
  have HB := Lib.hid (bf_new w x p)
  have HMA := Lib.hid (HM.out (stT r))
  have HMB := Lib.hid (HM.out 3)
  have HMC := Lib.hid (HM.out 6)
  have HMD := Lib.hid (HM.out (epT r))
  have HME := Lib.hid (HM.out 7)
  obtain ⟨va, hva⟩ : ∃ v, v = met 2 (stT r) L := ⟨_, rfl⟩
  obtain ⟨vb, hvb⟩ : ∃ v, v = met 2 3 L := ⟨_, rfl⟩
  obtain ⟨vc, hvc⟩ : ∃ v, v = met 2 6 L := ⟨_, rfl⟩
  obtain ⟨vd, hvd⟩ : ∃ v, v = met 2 (epT r) L := ⟨_, rfl⟩
  obtain ⟨ve, hve⟩ : ∃ v, v = met 2 7 L := ⟨_, rfl⟩
  obtain ⟨tf, htf⟩ : ∃ v, v = tld p r 1 L := ⟨_, rfl⟩
  have HV : Hid (rsl p r L = if (decide (0 < va) && decide (vb = 0)) || (decide (0 < vc) && decide (vd = 0)) then 5 else if decide (0 < ve) && !tf then 6 else 0) := Lib.hid (by rw [hva, hvb, hvc, hvd, hve, htf]; rfl)
  rw [← hva] at HMA
  rw [← hvb] at HMB
  rw [← hvc] at HMC
  rw [← hvd] at HMD
  rw [← hve] at HME
  rw [← htf] at HTF
  clear hva hvb hvc hvd hve htf HM hp hr hat hmg
  obtain ⟨⟨b0, b1, b2, b3⟩, lb⟩ := HB.out.cells
  rcases hr01 with rfl | rfl
  · have es : stT 0 = 5 := rfl
    have ee : epT 0 = 4 := rfl
    rw [es] at HMA
    rw [ee] at HMD
    clear es ee
    rcases Nat.eq_zero_or_pos va with hA | hA
    · skip
      rcases Nat.eq_zero_or_pos vc with hC | hC
      · skip
        rcases Nat.eq_zero_or_pos ve with hE | hE
        · skip
          have HR : Hid (rsl p 0 L = 0) := Lib.hid (by rw [HV.out]; simp [hA, hC, hE] <;> omega)
          subst hA
          rw [natZero] at HMA
          subst hC
          rw [natZero] at HMC
          subst hE
          rw [natZero] at HME
          go_enter Tryd.func30, Tryd.ntmps30
          go_wp2_with fail
          go_at_call 45
          refine (HMA.out _ HB.out.bel).mono ?_
          rintro e w1 ⟨rfl, hb1⟩
          have HS1 := Lib.hid (HB.out.keep hb1)
          clear hb1 b0 b1 b2 b3 lb
          obtain ⟨⟨b0, b1, b2, b3⟩, lb⟩ := HS1.out.cells
          go_wp2_with fail
          go_at_call 45
          refine (HMC.out _ HS1.out.bel).mono ?_
          rintro e w2 ⟨rfl, hb2⟩
          have HS2 := Lib.hid (HS1.out.keep hb2)
          clear hb2 b0 b1 b2 b3 lb
          obtain ⟨⟨b0, b1, b2, b3⟩, lb⟩ := HS2.out.cells
          go_wp2_with fail
          go_at_call 45
          refine (HME.out _ HS2.out.bel).mono ?_
          rintro e w3 ⟨rfl, hb3⟩
          have HS3 := Lib.hid (HS2.out.keep hb3)
          clear hb3 b0 b1 b2 b3 lb
          obtain ⟨⟨b0, b1, b2, b3⟩, lb⟩ := HS3.out.cells
          go_wp2_with fail
          go_ret
          exact ⟨by rw [HR.out]; rfl, HS3.out.bel⟩
        · skip
          cases hT : tf with
          | false =>
            have HR : Hid (rsl p 0 L = 6) := Lib.hid (by rw [HV.out]; simp [hA, hC, hE, hT] <;> omega)
            subst hA
            rw [natZero] at HMA
            subst hC
            rw [natZero] at HMC
            have gE : (0 : Int) < ve := by omega
            have eE : ((ve : Int) == 0) = false := eqz _ hE
            have fE : (ve == 0) = false := by simp; omega
            rw [hT] at HTF
            go_enter Tryd.func30, Tryd.ntmps30
            go_wp2_with fail
            go_at_call 45
            refine (HMA.out _ HB.out.bel).mono ?_
            rintro e w1 ⟨rfl, hb1⟩
            have HS1 := Lib.hid (HB.out.keep hb1)
            clear hb1 b0 b1 b2 b3 lb
            obtain ⟨⟨b0, b1, b2, b3⟩, lb⟩ := HS1.out.cells
            go_wp2_with fail
            go_at_call 45
            refine (HMC.out _ HS1.out.bel).mono ?_
            rintro e w2 ⟨rfl, hb2⟩
            have HS2 := Lib.hid (HS1.out.keep hb2)
            clear hb2 b0 b1 b2 b3 lb
            obtain ⟨⟨b0, b1, b2, b3⟩, lb⟩ := HS2.out.cells
            go_wp2_with fail
            go_at_call 45
            refine (HME.out _ HS2.out.bel).mono ?_
            rintro e w3 ⟨rfl, hb3⟩
            have HS3 := Lib.hid (HS2.out.keep hb3)
            clear hb3 b0 b1 b2 b3 lb
            obtain ⟨⟨b0, b1, b2, b3⟩, lb⟩ := HS3.out.cells
            go_wp2_with fail
            go_at_call 44
            refine (HTF.out _ HS3.out.bel).mono ?_
            rintro e w4 ⟨rfl, hb4⟩
            have HS4 := Lib.hid (HS3.out.keep hb4)
            clear hb4 b0 b1 b2 b3 lb
            obtain ⟨⟨b0, b1, b2, b3⟩, lb⟩ := HS4.out.cells
            go_wp2_with fail
            go_ret
            exact ⟨by rw [HR.out]; rfl, HS4.out.bel⟩
          | true =>
            have HR : Hid (rsl p 0 L = 0) := Lib.hid (by rw [HV.out]; simp [hA, hC, hE, hT] <;> omega)
            subst hA
            rw [natZero] at HMA
            subst hC
            rw [natZero] at HMC
            have gE : (0 : Int) < ve := by omega
            have eE : ((ve : Int) == 0) = false := eqz _ hE
            have fE : (ve == 0) = false := by simp; omega
            rw [hT] at HTF
            go_enter Tryd.func30, Tryd.ntmps30
            go_wp2_with fail
            go_at_call 45
            refine (HMA.out _ HB.out.bel).mono ?_
            rintro e w1 ⟨rfl, hb1⟩
            have HS1 := Lib.hid (HB.out.keep hb1)
            clear hb1 b0 b1 b2 b3 lb
            obtain ⟨⟨b0, b1, b2, b3⟩, lb⟩ := HS1.out.cells
            go_wp2_with fail
            go_at_call 45
            refine (HMC.out _ HS1.out.bel).mono ?_
            rintro e w2 ⟨rfl, hb2⟩
            have HS2 := Lib.hid (HS1.out.keep hb2)
            clear hb2 b0 b1 b2 b3 lb
            obtain ⟨⟨b0, b1, b2, b3⟩, lb⟩ := HS2.out.cells
            go_wp2_with fail
            go_at_call 45
            refine (HME.out _ HS2.out.bel).mono ?_
            rintro e w3 ⟨rfl, hb3⟩
            have HS3 := Lib.hid (HS2.out.keep hb3)
            clear hb3 b0 b1 b2 b3 lb
            obtain ⟨⟨b0, b1, b2, b3⟩, lb⟩ := HS3.out.cells
            go_wp2_with fail
            go_at_call 44
            refine (HTF.out _ HS3.out.bel).mono ?_
            rintro e w4 ⟨rfl, hb4⟩
            have HS4 := Lib.hid (HS3.out.keep hb4)
            clear hb4 b0 b1 b2 b3 lb
            obtain ⟨⟨b0, b1, b2, b3⟩, lb⟩ := HS4.out.cells
            go_wp2_with fail
            go_ret
            exact ⟨by rw [HR.out]; rfl, HS4.out.bel⟩
      · skip
        rcases Nat.eq_zero_or_pos vd with hD | hD
        · skip
          have HR : Hid (rsl p 0 L = 5) := Lib.hid (by rw [HV.out]; simp [hA, hC, hD] <;> omega)
          subst hA
          rw [natZero] at HMA
          have gC : (0 : Int) < vc := by omega
          have eC : ((vc : Int) == 0) = false := eqz _ hC
          have fC : (vc == 0) = false := by simp; omega
          subst hD
          rw [natZero] at HMD
          go_enter Tryd.func30, Tryd.ntmps30
          go_wp2_with fail
          go_at_call 45
          refine (HMA.out _ HB.out.bel).mono ?_
          rintro e w1 ⟨rfl, hb1⟩
          have HS1 := Lib.hid (HB.out.keep hb1)
          clear hb1 b0 b1 b2 b3 lb
          obtain ⟨⟨b0, b1, b2, b3⟩, lb⟩ := HS1.out.cells
          go_wp2_with fail
          go_at_call 45
          refine (HMC.out _ HS1.out.bel).mono ?_
          rintro e w2 ⟨rfl, hb2⟩
          have HS2 := Lib.hid (HS1.out.keep hb2)
          clear hb2 b0 b1 b2 b3 lb
          obtain ⟨⟨b0, b1, b2, b3⟩, lb⟩ := HS2.out.cells
          go_wp2_with fail
          go_at_call 45
          refine (HMD.out _ HS2.out.bel).mono ?_
          rintro e w3 ⟨rfl, hb3⟩
          have HS3 := Lib.hid (HS2.out.keep hb3)
          clear hb3 b0 b1 b2 b3 lb
          obtain ⟨⟨b0, b1, b2, b3⟩, lb⟩ := HS3.out.cells
          go_wp2_with fail
          go_ret
          exact ⟨by rw [HR.out]; rfl, HS3.out.bel⟩
        · skip
          rcases Nat.eq_zero_or_pos ve with hE | hE
          · skip
            have HR : Hid (rsl p 0 L = 0) := Lib.hid (by rw [HV.out]; simp [hA, hC, hD, hE] <;> omega)
            subst hA
            rw [natZero] at HMA
            have gC : (0 : Int) < vc := by omega
            have eC : ((vc : Int) == 0) = false := eqz _ hC
            have fC : (vc == 0) = false := by simp; omega
            have gD : (0 : Int) < vd := by omega
            have eD : ((vd : Int) == 0) = false := eqz _ hD
            have fD : (vd == 0) = false := by simp; omega
            subst hE
            rw [natZero] at HME
            go_enter Tryd.func30, Tryd.ntmps30
            go_wp2_with fail
            go_at_call 45
            refine (HMA.out _ HB.out.bel).mono ?_
            rintro e w1 ⟨rfl, hb1⟩
            have HS1 := Lib.hid (HB.out.keep hb1)
            clear hb1 b0 b1 b2 b3 lb
            obtain ⟨⟨b0, b1, b2, b3⟩, lb⟩ := HS1.out.cells
            go_wp2_with fail
            go_at_call 45
            refine (HMC.out _ HS1.out.bel).mono ?_
            rintro e w2 ⟨rfl, hb2⟩
            have HS2 := Lib.hid (HS1.out.keep hb2)
            clear hb2 b0 b1 b2 b3 lb
            obtain ⟨⟨b0, b1, b2, b3⟩, lb⟩ := HS2.out.cells
            go_wp2_with fail
            go_at_call 45
            refine (HMD.out _ HS2.out.bel).mono ?_
            rintro e w3 ⟨rfl, hb3⟩
            have HS3 := Lib.hid (HS2.out.keep hb3)
            clear hb3 b0 b1 b2 b3 lb
            obtain ⟨⟨b0, b1, b2, b3⟩, lb⟩ := HS3.out.cells
            go_wp2_with fail
            go_at_call 45
            refine (HME.out _ HS3.out.bel).mono ?_
            rintro e w4 ⟨rfl, hb4⟩
            have HS4 := Lib.hid (HS3.out.keep hb4)
            clear hb4 b0 b1 b2 b3 lb
            obtain ⟨⟨b0, b1, b2, b3⟩, lb⟩ := HS4.out.cells
            go_wp2_with fail
            go_ret
            exact ⟨by rw [HR.out]; rfl, HS4.out.bel⟩
          · skip
            cases hT : tf with
            | false =>
              have HR : Hid (rsl p 0 L = 6) := Lib.hid (by rw [HV.out]; simp [hA, hC, hD, hE, hT] <;> omega)
              subst hA
              rw [natZero] at HMA
              have gC : (0 : Int) < vc := by omega
              have eC : ((vc : Int) == 0) = false := eqz _ hC
              have fC : (vc == 0) = false := by simp; omega
              have gD : (0 : Int) < vd := by omega
              have eD : ((vd : Int) == 0) = false := eqz _ hD
              have fD : (vd == 0) = false := by simp; omega
              have gE : (0 : Int) < ve := by omega
              have eE : ((ve : Int) == 0) = false := eqz _ hE
              have fE : (ve == 0) = false := by simp; omega
              rw [hT] at HTF
              go_enter Tryd.func30, Tryd.ntmps30
              go_wp2_with fail
              go_at_call 45
              refine (HMA.out _ HB.out.bel).mono ?_
              rintro e w1 ⟨rfl, hb1⟩
              have HS1 := Lib.hid (HB.out.keep hb1)
              clear hb1 b0 b1 b2 b3 lb
              obtain ⟨⟨b0, b1, b2, b3⟩, lb⟩ := HS1.out.cells
              go_wp2_with fail
              go_at_call 45
              refine (HMC.out _ HS1.out.bel).mono ?_
              rintro e w2 ⟨rfl, hb2⟩
              have HS2 := Lib.hid (HS1.out.keep hb2)
              clear hb2 b0 b1 b2 b3 lb
              obtain ⟨⟨b0, b1, b2, b3⟩, lb⟩ := HS2.out.cells
              go_wp2_with fail
              go_at_call 45
              refine (HMD.out _ HS2.out.bel).mono ?_
              rintro e w3 ⟨rfl, hb3⟩
              have HS3 := Lib.hid (HS2.out.keep hb3)
              clear hb3 b0 b1 b2 b3 lb
              obtain ⟨⟨b0, b1, b2, b3⟩, lb⟩ := HS3.out.cells
              go_wp2_with fail
              go_at_call 45
              refine (HME.out _ HS3.out.bel).mono ?_
              rintro e w4 ⟨rfl, hb4⟩
              have HS4 := Lib.hid (HS3.out.keep hb4)
              clear hb4 b0 b1 b2 b3 lb
              obtain ⟨⟨b0, b1, b2, b3⟩, lb⟩ := HS4.out.cells
              go_wp2_with fail
              go_at_call 44
              refine (HTF.out _ HS4.out.bel).mono ?_
              rintro e w5 ⟨rfl, hb5⟩
              have HS5 := Lib.hid (HS4.out.keep hb5)
              clear hb5 b0 b1 b2 b3 lb
              obtain ⟨⟨b0, b1, b2, b3⟩, lb⟩ := HS5.out.cells
              go_wp2_with fail
              go_ret
              exact ⟨by rw [HR.out]; rfl, HS5.out.bel⟩
            | true =>
              have HR : Hid (rsl p 0 L = 0) := Lib.hid (by rw [HV.out]; simp [hA, hC, hD, hE, hT] <;> omega)
              subst hA
              rw [natZero] at HMA
              have gC : (0 : Int) < vc := by omega
              have eC : ((vc : Int) == 0) = false := eqz _ hC
              have fC : (vc == 0) = false := by simp; omega
              have gD : (0 : Int) < vd := by omega
              have eD : ((vd : Int) == 0) = false := eqz _ hD
              have fD : (vd == 0) = false := by simp; omega
              have gE : (0 : Int) < ve := by omega
              have eE : ((ve : Int) == 0) = false := eqz _ hE
              have fE : (ve == 0) = false := by simp; omega
              rw [hT] at HTF
              go_enter Tryd.func30, Tryd.ntmps30
              go_wp2_with fail
              go_at_call 45
              refine (HMA.out _ HB.out.bel).mono ?_
              rintro e w1 ⟨rfl, hb1⟩
              have HS1 := Lib.hid (HB.out.keep hb1)
              clear hb1 b0 b1 b2 b3 lb
              obtain ⟨⟨b0, b1, b2, b3⟩, lb⟩ := HS1.out.cells
              go_wp2_with fail
              go_at_call 45
              refine (HMC.out _ HS1.out.bel).mono ?_
              rintro e w2 ⟨rfl, hb2⟩
              have HS2 := Lib.hid (HS1.out.keep hb2)
              clear hb2 b0 b1 b2 b3 lb
              obtain ⟨⟨b0, b1, b2, b3⟩, lb⟩ := HS2.out.cells
              go_wp2_with fail
              go_at_call 45
              refine (HMD.out _ HS2.out.bel).mono ?_
              rintro e w3 ⟨rfl, hb3⟩
              have HS3 := Lib.hid (HS2.out.keep hb3)
              clear hb3 b0 b1 b2 b3 lb
              obtain ⟨⟨b0, b1, b2, b3⟩, lb⟩ := HS3.out.cells
              go_wp2_with fail
              go_at_call 45
              refine (HME.out _ HS3.out.bel).mono ?_
              rintro e w4 ⟨rfl, hb4⟩
              have HS4 := Lib.hid (HS3.out.keep hb4)
              clear hb4 b0 b1 b2 b3 lb
              obtain ⟨⟨b0, b1, b2, b3⟩, lb⟩ := HS4.out.cells
              go_wp2_with fail
              go_at_call 44
              refine (HTF.out _ HS4.out.bel).mono ?_
              rintro e w5 ⟨rfl, hb5⟩
              have HS5 := Lib.hid (HS4.out.keep hb5)
              clear hb5 b0 b1 b2 b3 lb
              obtain ⟨⟨b0, b1, b2, b3⟩, lb⟩ := HS5.out.cells
              go_wp2_with fail
              go_ret
              exact ⟨by rw [HR.out]; rfl, HS5.out.bel⟩
    · skip
      rcases Nat.eq_zero_or_pos vb with hB | hB
      · skip
        have HR : Hid (rsl p 0 L = 5) := Lib.hid (by rw [HV.out]; simp [hA, hB] <;> omega)
        have gA : (0 : Int) < va := by omega
        have eA : ((va : Int) == 0) = false := eqz _ hA
        have fA : (va == 0) = false := by simp; omega
        subst hB
        rw [natZero] at HMB
        go_enter Tryd.func30, Tryd.ntmps30
        go_wp2_with fail
        go_at_call 45
        refine (HMA.out _ HB.out.bel).mono ?_
        rintro e w1 ⟨rfl, hb1⟩
        have HS1 := Lib.hid (HB.out.keep hb1)
        clear hb1 b0 b1 b2 b3 lb
        obtain ⟨⟨b0, b1, b2, b3⟩, lb⟩ := HS1.out.cells
        go_wp2_with fail
        go_at_call 45
        refine (HMB.out _ HS1.out.bel).mono ?_
        rintro e w2 ⟨rfl, hb2⟩
        have HS2 := Lib.hid (HS1.out.keep hb2)
        clear hb2 b0 b1 b2 b3 lb
        obtain ⟨⟨b0, b1, b2, b3⟩, lb⟩ := HS2.out.cells
        go_wp2_with fail
        go_ret
        exact ⟨by rw [HR.out]; rfl, HS2.out.bel⟩
      · skip
        rcases Nat.eq_zero_or_pos vc with hC | hC
        · skip
          rcases Nat.eq_zero_or_pos ve with hE | hE
          · skip
            have HR : Hid (rsl p 0 L = 0) := Lib.hid (by rw [HV.out]; simp [hA, hB, hC, hE] <;> omega)
            have gA : (0 : Int) < va := by omega
            have eA : ((va : Int) == 0) = false := eqz _ hA
            have fA : (va == 0) = false := by simp; omega
            have gB : (0 : Int) < vb := by omega
            have eB : ((vb : Int) == 0) = false := eqz _ hB
            have fB : (vb == 0) = false := by simp; omega
            subst hC
            rw [natZero] at HMC
            subst hE
            rw [natZero] at HME
            go_enter Tryd.func30, Tryd.ntmps30
            go_wp2_with fail
            go_at_call 45
            refine (HMA.out _ HB.out.bel).mono ?_
            rintro e w1 ⟨rfl, hb1⟩
            have HS1 := Lib.hid (HB.out.keep hb1)
            clear hb1 b0 b1 b2 b3 lb
            obtain ⟨⟨b0, b1, b2, b3⟩, lb⟩ := HS1.out.cells
            go_wp2_with fail
            go_at_call 45
            refine (HMB.out _ HS1.out.bel).mono ?_
            rintro e w2 ⟨rfl, hb2⟩
            have HS2 := Lib.hid (HS1.out.keep hb2)
            clear hb2 b0 b1 b2 b3 lb
            obtain ⟨⟨b0, b1, b2, b3⟩, lb⟩ := HS2.out.cells
            go_wp2_with fail
            go_at_call 45
            refine (HMC.out _ HS2.out.bel).mono ?_
            rintro e w3 ⟨rfl, hb3⟩
            have HS3 := Lib.hid (HS2.out.keep hb3)
            clear hb3 b0 b1 b2 b3 lb
            obtain ⟨⟨b0, b1, b2, b3⟩, lb⟩ := HS3.out.cells
            go_wp2_with fail
            go_at_call 45
            refine (HME.out _ HS3.out.bel).mono ?_
            rintro e w4 ⟨rfl, hb4⟩
            have HS4 := Lib.hid (HS3.out.keep hb4)
            clear hb4 b0 b1 b2 b3 lb
            obtain ⟨⟨b0, b1, b2, b3⟩, lb⟩ := HS4.out.cells
            go_wp2_with fail
            go_ret
            exact ⟨by rw [HR.out]; rfl, HS4.out.bel⟩
          · skip
            cases hT : tf with
            | false =>
              have HR : Hid (rsl p 0 L = 6) := Lib.hid (by rw [HV.out]; simp [hA, hB, hC, hE, hT] <;> omega)
              have gA : (0 : Int) < va := by omega
              have eA : ((va : Int) == 0) = false := eqz _ hA
              have fA : (va == 0) = false := by simp; omega
              have gB : (0 : Int) < vb := by omega
              have eB : ((vb : Int) == 0) = false := eqz _ hB
              have fB : (vb == 0) = false := by simp; omega
              subst hC
              rw [natZero] at HMC
              have gE : (0 : Int) < ve := by omega
              have eE : ((ve : Int) == 0) = false := eqz _ hE
              have fE : (ve == 0) = false := by simp; omega
              rw [hT] at HTF
              go_enter Tryd.func30, Tryd.ntmps30
              go_wp2_with fail
              go_at_call 45
              refine (HMA.out _ HB.out.bel).mono ?_
              rintro e w1 ⟨rfl, hb1⟩
              have HS1 := Lib.hid (HB.out.keep hb1)
              clear hb1 b0 b1 b2 b3 lb
              obtain ⟨⟨b0, b1, b2, b3⟩, lb⟩ := HS1.out.cells
              go_wp2_with fail
              go_at_call 45
              refine (HMB.out _ HS1.out.bel).mono ?_
              rintro e w2 ⟨rfl, hb2⟩
              have HS2 := Lib.hid (HS1.out.keep hb2)
              clear hb2 b0 b1 b2 b3 lb
              obtain ⟨⟨b0, b1, b2, b3⟩, lb⟩ := HS2.out.cells
              go_wp2_with fail
              go_at_call 45
              refine (HMC.out _ HS2.out.bel).mono ?_
              rintro e w3 ⟨rfl, hb3⟩
              have HS3 := Lib.hid (HS2.out.keep hb3)
              clear hb3 b0 b1 b2 b3 lb
              obtain ⟨⟨b0, b1, b2, b3⟩, lb⟩ := HS3.out.cells
              go_wp2_with fail
              go_at_call 45
              refine (HME.out _ HS3.out.bel).mono ?_
              rintro e w4 ⟨rfl, hb4⟩
              have HS4 := Lib.hid (HS3.out.keep hb4)
              clear hb4 b0 b1 b2 b3 lb
              obtain ⟨⟨b0, b1, b2, b3⟩, lb⟩ := HS4.out.cells
              go_wp2_with fail
              go_at_call 44
              refine (HTF.out _ HS4.out.bel).mono ?_
              rintro e w5 ⟨rfl, hb5⟩
              have HS5 := Lib.hid (HS4.out.keep hb5)
              clear hb5 b0 b1 b2 b3 lb
              obtain ⟨⟨b0, b1, b2, b3⟩, lb⟩ := HS5.out.cells
              go_wp2_with fail
              go_ret
              exact ⟨by rw [HR.out]; rfl, HS5.out.bel⟩
            | true =>
              have HR : Hid (rsl p 0 L = 0) := Lib.hid (by rw [HV.out]; simp [hA, hB, hC, hE, hT] <;> omega)
              have gA : (0 : Int) < va := by omega
              have eA : ((va : Int) == 0) = false := eqz _ hA
              have fA : (va == 0) = false := by simp; omega
              have gB : (0 : Int) < vb := by omega
              have eB : ((vb : Int) == 0) = false := eqz _ hB
              have fB : (vb == 0) = false := by simp; omega
              subst hC
              rw [natZero] at HMC
              have gE : (0 : Int) < ve := by omega
              have eE : ((ve : Int) == 0) = false := eqz _ hE
              have fE : (ve == 0) = false := by simp; omega
              rw [hT] at HTF
              go_enter Tryd.func30, Tryd.ntmps30
              go_wp2_with fail
              go_at_call 45
              refine (HMA.out _ HB.out.bel).mono ?_
              rintro e w1 ⟨rfl, hb1⟩
              have HS1 := Lib.hid (HB.out.keep hb1)
              clear hb1 b0 b1 b2 b3 lb
              obtain ⟨⟨b0, b1, b2, b3⟩, lb⟩ := HS1.out.cells
              go_wp2_with fail
              go_at_call 45
              refine (HMB.out _ HS1.out.bel).mono ?_
              rintro e w2 ⟨rfl, hb2⟩
              have HS2 := Lib.hid (HS1.out.keep hb2)
              clear hb2 b0 b1 b2 b3 lb
              obtain ⟨⟨b0, b1, b2, b3⟩, lb⟩ := HS2.out.cells
              go_wp2_with fail
              go_at_call 45
              refine (HMC.out _ HS2.out.bel).mono ?_
              rintro e w3 ⟨rfl, hb3⟩
              have HS3 := Lib.hid (HS2.out.keep hb3)
              clear hb3 b0 b1 b2 b3 lb
              obtain ⟨⟨b0, b1, b2, b3⟩, lb⟩ := HS3.out.cells
              go_wp2_with fail
              go_at_call 45
              refine (HME.out _ HS3.out.bel).mono ?_
              rintro e w4 ⟨rfl, hb4⟩
              have HS4 := Lib.hid (HS3.out.keep hb4)
              clear hb4 b0 b1 b2 b3 lb
              obtain ⟨⟨b0, b1, b2, b3⟩, lb⟩ := HS4.out.cells
              go_wp2_with fail
              go_at_call 44
              refine (HTF.out _ HS4.out.bel).mono ?_
              rintro e w5 ⟨rfl, hb5⟩
              have HS5 := Lib.hid (HS4.out.keep hb5)
              clear hb5 b0 b1 b2 b3 lb
              obtain ⟨⟨b0, b1, b2, b3⟩, lb⟩ := HS5.out.cells
              go_wp2_with fail
              go_ret
              exact ⟨by rw [HR.out]; rfl, HS5.out.bel⟩
        · skip
          rcases Nat.eq_zero_or_pos vd with hD | hD
          · skip
            have HR : Hid (rsl p 0 L = 5) := Lib.hid (by rw [HV.out]; simp [hA, hB, hC, hD] <;> omega)
            have gA : (0 : Int) < va := by omega
            have eA : ((va : Int) == 0) = false := eqz _ hA
            have fA : (va == 0) = false := by simp; omega
            have gB : (0 : Int) < vb := by omega
            have eB : ((vb : Int) == 0) = false := eqz _ hB
            have fB : (vb == 0) = false := by simp; omega
            have gC : (0 : Int) < vc := by omega
            have eC : ((vc : Int) == 0) = false := eqz _ hC
            have fC : (vc == 0) = false := by simp; omega
            subst hD
            rw [natZero] at HMD
            go_enter Tryd.func30, Tryd.ntmps30
            go_wp2_with fail
            go_at_call 45
            refine (HMA.out _ HB.out.bel).mono ?_
            rintro e w1 ⟨rfl, hb1⟩
            have HS1 := Lib.hid (HB.out.keep hb1)
            clear hb1 b0 b1 b2 b3 lb
            obtain ⟨⟨b0, b1, b2, b3⟩, lb⟩ := HS1.out.cells
            go_wp2_with fail
            go_at_call 45
            refine (HMB.out _ HS1.out.bel).mono ?_
            rintro e w2 ⟨rfl, hb2⟩
            have HS2 := Lib.hid (HS1.out.keep hb2)
            clear hb2 b0 b1 b2 b3 lb
            obtain ⟨⟨b0, b1, b2, b3⟩, lb⟩ := HS2.out.cells
            go_wp2_with fail
            go_at_call 45
            refine (HMC.out _ HS2.out.bel).mono ?_
            rintro e w3 ⟨rfl, hb3⟩
            have HS3 := Lib.hid (HS2.out.keep hb3)
            clear hb3 b0 b1 b2 b3 lb
            obtain ⟨⟨b0, b1, b2, b3⟩, lb⟩ := HS3.out.cells
            go_wp2_with fail
            go_at_call 45
            refine (HMD.out _ HS3.out.bel).mono ?_
            rintro e w4 ⟨rfl, hb4⟩
            have HS4 := Lib.hid (HS3.out.keep hb4)
            clear hb4 b0 b1 b2 b3 lb
            obtain ⟨⟨b0, b1, b2, b3⟩, lb⟩ := HS4.out.cells
            go_wp2_with fail
            go_ret
            exact ⟨by rw [HR.out]; rfl, HS4.out.bel⟩
          · skip
            rcases Nat.eq_zero_or_pos ve with hE | hE
            · skip
              have HR : Hid (rsl p 0 L = 0) := Lib.hid (by rw [HV.out]; simp [hA, hB, hC, hD, hE] <;> omega)
              have gA : (0 : Int) < va := by omega
              have eA : ((va : Int) == 0) = false := eqz _ hA
              have fA : (va == 0) = false := by simp; omega
              have gB : (0 : Int) < vb := by omega
              have eB : ((vb : Int) == 0) = false := eqz _ hB
              have fB : (vb == 0) = false := by simp; omega
              have gC : (0 : Int) < vc := by omega
              have eC : ((vc : Int) == 0) = false := eqz _ hC
              have fC : (vc == 0) = false := by simp; omega
              have gD : (0 : Int) < vd := by omega
              have eD : ((vd : Int) == 0) = false := eqz _ hD
              have fD : (vd == 0) = false := by simp; omega
              subst hE
              rw [natZero] at HME
              go_enter Tryd.func30, Tryd.ntmps30
              go_wp2_with fail
              go_at_call 45
              refine (HMA.out _ HB.out.bel).mono ?_
              rintro e w1 ⟨rfl, hb1⟩
              have HS1 := Lib.hid (HB.out.keep hb1)
              clear hb1 b0 b1 b2 b3 lb
              obtain ⟨⟨b0, b1, b2, b3⟩, lb⟩ := HS1.out.cells
              go_wp2_with fail
              go_at_call 45
              refine (HMB.out _ HS1.out.bel).mono ?_
              rintro e w2 ⟨rfl, hb2⟩
              have HS2 := Lib.hid (HS1.out.keep hb2)
              clear hb2 b0 b1 b2 b3 lb
              obtain ⟨⟨b0, b1, b2, b3⟩, lb⟩ := HS2.out.cells
              go_wp2_with fail
              go_at_call 45
              refine (HMC.out _ HS2.out.bel).mono ?_
              rintro e w3 ⟨rfl, hb3⟩
              have HS3 := Lib.hid (HS2.out.keep hb3)
              clear hb3 b0 b1 b2 b3 lb
              obtain ⟨⟨b0, b1, b2, b3⟩, lb⟩ := HS3.out.cells
              go_wp2_with fail
              go_at_call 45
              refine (HMD.out _ HS3.out.bel).mono ?_
              rintro e w4 ⟨rfl, hb4⟩
              have HS4 := Lib.hid (HS3.out.keep hb4)
              clear hb4 b0 b1 b2 b3 lb
              obtain ⟨⟨b0, b1, b2, b3⟩, lb⟩ := HS4.out.cells
              go_wp2_with fail
              go_at_call 45
              refine (HME.out _ HS4.out.bel).mono ?_
              rintro e w5 ⟨rfl, hb5⟩
              have HS5 := Lib.hid (HS4.out.keep hb5)
              clear hb5 b0 b1 b2 b3 lb
              obtain ⟨⟨b0, b1, b2, b3⟩, lb⟩ := HS5.out.cells
              go_wp2_with fail
              go_ret
              exact ⟨by rw [HR.out]; rfl, HS5.out.bel⟩
            · skip
              cases hT : tf with
              | false =>
                have HR : Hid (rsl p 0 L = 6) := Lib.hid (by rw [HV.out]; simp [hA, hB, hC, hD, hE, hT] <;> omega)
                have gA : (0 : Int) < va := by omega
                have eA : ((va : Int) == 0) = false := eqz _ hA
                have fA : (va == 0) = false := by simp; omega
                have gB : (0 : Int) < vb := by omega
                have eB : ((vb : Int) == 0) = false := eqz _ hB
                have fB : (vb == 0) = false := by simp; omega
                have gC : (0 : Int) < vc := by omega
                have eC : ((vc : Int) == 0) = false := eqz _ hC
                have fC : (vc == 0) = false := by simp; omega
                have gD : (0 : Int) < vd := by omega
                have eD : ((vd : Int) == 0) = false := eqz _ hD
                have fD : (vd == 0) = false := by simp; omega
                have gE : (0 : Int) < ve := by omega
                have eE : ((ve : Int) == 0) = false := eqz _ hE
                have fE : (ve == 0) = false := by simp; omega
                rw [hT] at HTF
                go_enter Tryd.func30, Tryd.ntmps30
                go_wp2_with fail
                go_at_call 45
                refine (HMA.out _ HB.out.bel).mono ?_
                rintro e w1 ⟨rfl, hb1⟩
                have HS1 := Lib.hid (HB.out.keep hb1)
                clear hb1 b0 b1 b2 b3 lb
                obtain ⟨⟨b0, b1, b2, b3⟩, lb⟩ := HS1.out.cells
                go_wp2_with fail
                go_at_call 45
                refine (HMB.out _ HS1.out.bel).mono ?_
                rintro e w2 ⟨rfl, hb2⟩
                have HS2 := Lib.hid (HS1.out.keep hb2)
                clear hb2 b0 b1 b2 b3 lb
                obtain ⟨⟨b0, b1, b2, b3⟩, lb⟩ := HS2.out.cells
                go_wp2_with fail
                go_at_call 45
                refine (HMC.out _ HS2.out.bel).mono ?_
                rintro e w3 ⟨rfl, hb3⟩
                have HS3 := Lib.hid (HS2.out.keep hb3)
                clear hb3 b0 b1 b2 b3 lb
                obtain ⟨⟨b0, b1, b2, b3⟩, lb⟩ := HS3.out.cells
                go_wp2_with fail
                go_at_call 45
                refine (HMD.out _ HS3.out.bel).mono ?_
                rintro e w4 ⟨rfl, hb4⟩
                have HS4 := Lib.hid (HS3.out.keep hb4)
                clear hb4 b0 b1 b2 b3 lb
                obtain ⟨⟨b0, b1, b2, b3⟩, lb⟩ := HS4.out.cells
                go_wp2_with fail
                go_at_call 45
                refine (HME.out _ HS4.out.bel).mono ?_
                rintro e w5 ⟨rfl, hb5⟩
                have HS5 := Lib.hid (HS4.out.keep hb5)
                clear hb5 b0 b1 b2 b3 lb
                obtain ⟨⟨b0, b1, b2, b3⟩, lb⟩ := HS5.out.cells
                go_wp2_with fail
                go_at_call 44
                refine (HTF.out _ HS5.out.bel).mono ?_
                rintro e w6 ⟨rfl, hb6⟩
                have HS6 := Lib.hid (HS5.out.keep hb6)
                clear hb6 b0 b1 b2 b3 lb
                obtain ⟨⟨b0, b1, b2, b3⟩, lb⟩ := HS6.out.cells
                go_wp2_with fail
                go_ret
                exact ⟨by rw [HR.out]; rfl, HS6.out.bel⟩
              | true =>
                have HR : Hid (rsl p 0 L = 0) := Lib.hid (by rw [HV.out]; simp [hA, hB, hC, hD, hE, hT] <;> omega)
                have gA : (0 : Int) < va := by omega
                have eA : ((va : Int) == 0) = false := eqz _ hA
                have fA : (va == 0) = false := by simp; omega
                have gB : (0 : Int) < vb := by omega
                have eB : ((vb : Int) == 0) = false := eqz _ hB
                have fB : (vb == 0) = false := by simp; omega
                have gC : (0 : Int) < vc := by omega
                have eC : ((vc : Int) == 0) = false := eqz _ hC
                have fC : (vc == 0) = false := by simp; omega
                have gD : (0 : Int) < vd := by omega
                have eD : ((vd : Int) == 0) = false := eqz _ hD
                have fD : (vd == 0) = false := by simp; omega
                have gE : (0 : Int) < ve := by omega
                have eE : ((ve : Int) == 0) = false := eqz _ hE
                have fE : (ve == 0) = false := by simp; omega
                rw [hT] at HTF
                go_enter Tryd.func30, Tryd.ntmps30
                go_wp2_with fail
                go_at_call 45
                refine (HMA.out _ HB.out.bel).mono ?_
                rintro e w1 ⟨rfl, hb1⟩
                have HS1 := Lib.hid (HB.out.keep hb1)
                clear hb1 b0 b1 b2 b3 lb
                obtain ⟨⟨b0, b1, b2, b3⟩, lb⟩ := HS1.out.cells
                go_wp2_with fail
                go_at_call 45
                refine (HMB.out _ HS1.out.bel).mono ?_
                rintro e w2 ⟨rfl, hb2⟩
                have HS2 := Lib.hid (HS1.out.keep hb2)
                clear hb2 b0 b1 b2 b3 lb
                obtain ⟨⟨b0, b1, b2, b3⟩, lb⟩ := HS2.out.cells
                go_wp2_with fail
                go_at_call 45
                refine (HMC.out _ HS2.out.bel).mono ?_
                rintro e w3 ⟨rfl, hb3⟩
                have HS3 := Lib.hid (HS2.out.keep hb3)
                clear hb3 b0 b1 b2 b3 lb
                obtain ⟨⟨b0, b1, b2, b3⟩, lb⟩ := HS3.out.cells
                go_wp2_with fail
                go_at_call 45
                refine (HMD.out _ HS3.out.bel).mono ?_
                rintro e w4 ⟨rfl, hb4⟩
                have HS4 := Lib.hid (HS3.out.keep hb4)
                clear hb4 b0 b1 b2 b3 lb
                obtain ⟨⟨b0, b1, b2, b3⟩, lb⟩ := HS4.out.cells
                go_wp2_with fail
                go_at_call 45
                refine (HME.out _ HS4.out.bel).mono ?_
                rintro e w5 ⟨rfl, hb5⟩
                have HS5 := Lib.hid (HS4.out.keep hb5)
                clear hb5 b0 b1 b2 b3 lb
                obtain ⟨⟨b0, b1, b2, b3⟩, lb⟩ := HS5.out.cells
                go_wp2_with fail
                go_at_call 44
                refine (HTF.out _ HS5.out.bel).mono ?_
                rintro e w6 ⟨rfl, hb6⟩
                have HS6 := Lib.hid (HS5.out.keep hb6)
                clear hb6 b0 b1 b2 b3 lb
                obtain ⟨⟨b0, b1, b2, b3⟩, lb⟩ := HS6.out.cells
                go_wp2_with fail
                go_ret
                exact ⟨by rw [HR.out]; rfl, HS6.out.bel⟩
  · have es : stT 1 = 4 := rfl
    have ee : epT 1 = 5 := rfl
    rw [es] at HMA
    rw [ee] at HMD
    clear es ee
    rcases Nat.eq_zero_or_pos va with hA | hA
    · skip
      rcases Nat.eq_zero_or_pos vc with hC | hC
      · skip
        rcases Nat.eq_zero_or_pos ve with hE | hE
        · skip
          have HR : Hid (rsl p 1 L = 0) := Lib.hid (by rw [HV.out]; simp [hA, hC, hE] <;> omega)
          subst hA
          rw [natZero] at HMA
          subst hC
          rw [natZero] at HMC
          subst hE
          rw [natZero] at HME
          go_enter Tryd.func30, Tryd.ntmps30
          go_wp2_with fail
          go_at_call 45
          refine (HMA.out _ HB.out.bel).mono ?_
          rintro e w1 ⟨rfl, hb1⟩
          have HS1 := Lib.hid (HB.out.keep hb1)
          clear hb1 b0 b1 b2 b3 lb
          obtain ⟨⟨b0, b1, b2, b3⟩, lb⟩ := HS1.out.cells
          go_wp2_with fail
          go_at_call 45
          refine (HMC.out _ HS1.out.bel).mono ?_
          rintro e w2 ⟨rfl, hb2⟩
          have HS2 := Lib.hid (HS1.out.keep hb2)
          clear hb2 b0 b1 b2 b3 lb
          obtain ⟨⟨b0, b1, b2, b3⟩, lb⟩ := HS2.out.cells
          go_wp2_with fail
          go_at_call 45
          refine (HME.out _ HS2.out.bel).mono ?_
          rintro e w3 ⟨rfl, hb3⟩
          have HS3 := Lib.hid (HS2.out.keep hb3)
          clear hb3 b0 b1 b2 b3 lb
          obtain ⟨⟨b0, b1, b2, b3⟩, lb⟩ := HS3.out.cells
          go_wp2_with fail
          go_ret
          exact ⟨by rw [HR.out]; rfl, HS3.out.bel⟩
        · skip
          cases hT : tf with
          | false =>
            have HR : Hid (rsl p 1 L = 6) := Lib.hid (by rw [HV.out]; simp [hA, hC, hE, hT] <;> omega)
            subst hA
            rw [natZero] at HMA
            subst hC
            rw [natZero] at HMC
            have gE : (0 : Int) < ve := by omega
            have eE : ((ve : Int) == 0) = false := eqz _ hE
            have fE : (ve == 0) = false := by simp; omega
            rw [hT] at HTF
            go_enter Tryd.func30, Tryd.ntmps30
            go_wp2_with fail
            go_at_call 45
            refine (HMA.out _ HB.out.bel).mono ?_
            rintro e w1 ⟨rfl, hb1⟩
            have HS1 := Lib.hid (HB.out.keep hb1)
            clear hb1 b0 b1 b2 b3 lb
            obtain ⟨⟨b0, b1, b2, b3⟩, lb⟩ := HS1.out.cells
            go_wp2_with fail
            go_at_call 45
            refine (HMC.out _ HS1.out.bel).mono ?_
            rintro e w2 ⟨rfl, hb2⟩
            have HS2 := Lib.hid (HS1.out.keep hb2)
            clear hb2 b0 b1 b2 b3 lb
            obtain ⟨⟨b0, b1, b2, b3⟩, lb⟩ := HS2.out.cells
            go_wp2_with fail
            go_at_call 45
            refine (HME.out _ HS2.out.bel).mono ?_
            rintro e w3 ⟨rfl, hb3⟩
            have HS3 := Lib.hid (HS2.out.keep hb3)
            clear hb3 b0 b1 b2 b3 lb
            obtain ⟨⟨b0, b1, b2, b3⟩, lb⟩ := HS3.out.cells
            go_wp2_with fail
            go_at_call 44
            refine (HTF.out _ HS3.out.bel).mono ?_
            rintro e w4 ⟨rfl, hb4⟩
            have HS4 := Lib.hid (HS3.out.keep hb4)
            clear hb4 b0 b1 b2 b3 lb
            obtain ⟨⟨b0, b1, b2, b3⟩, lb⟩ := HS4.out.cells
            go_wp2_with fail
            go_ret
            exact ⟨by rw [HR.out]; rfl, HS4.out.bel⟩
          | true =>
            have HR : Hid (rsl p 1 L = 0) := Lib.hid (by rw [HV.out]; simp [hA, hC, hE, hT] <;> omega)
            subst hA
            rw [natZero] at HMA
            subst hC
            rw [natZero] at HMC
            have gE : (0 : Int) < ve := by omega
            have eE : ((ve : Int) == 0) = false := eqz _ hE
            have fE : (ve == 0) = false := by simp; omega
            rw [hT] at HTF
            go_enter Tryd.func30, Tryd.ntmps30
            go_wp2_with fail
            go_at_call 45
            refine (HMA.out _ HB.out.bel).mono ?_
            rintro e w1 ⟨rfl, hb1⟩
            have HS1 := Lib.hid (HB.out.keep hb1)
            clear hb1 b0 b1 b2 b3 lb
            obtain ⟨⟨b0, b1, b2, b3⟩, lb⟩ := HS1.out.cells
            go_wp2_with fail
            go_at_call 45
            refine (HMC.out _ HS1.out.bel).mono ?_
            rintro e w2 ⟨rfl, hb2⟩
            have HS2 := Lib.hid (HS1.out.keep hb2)
            clear hb2 b0 b1 b2 b3 lb
            obtain ⟨⟨b0, b1, b2, b3⟩, lb⟩ := HS2.out.cells
            go_wp2_with fail
            go_at_call 45
            refine (HME.out _ HS2.out.bel).mono ?_
            rintro e w3 ⟨rfl, hb3⟩
            have HS3 := Lib.hid (HS2.out.keep hb3)
            clear hb3 b0 b1 b2 b3 lb
            obtain ⟨⟨b0, b1, b2, b3⟩, lb⟩ := HS3.out.cells
            go_wp2_with fail
            go_at_call 44
            refine (HTF.out _ HS3.out.bel).mono ?_
            rintro e w4 ⟨rfl, hb4⟩
            have HS4 := Lib.hid (HS3.out.keep hb4)
            clear hb4 b0 b1 b2 b3 lb
            obtain ⟨⟨b0, b1, b2, b3⟩, lb⟩ := HS4.out.cells
            go_wp2_with fail
            go_ret
            exact ⟨by rw [HR.out]; rfl, HS4.out.bel⟩
      · skip
        rcases Nat.eq_zero_or_pos vd with hD | hD
        · skip
          have HR : Hid (rsl p 1 L = 5) := Lib.hid (by rw [HV.out]; simp [hA, hC, hD] <;> omega)
          subst hA
          rw [natZero] at HMA
          have gC : (0 : Int) < vc := by omega
          have eC : ((vc : Int) == 0) = false := eqz _ hC
          have fC : (vc == 0) = false := by simp; omega
          subst hD
          rw [natZero] at HMD
          go_enter Tryd.func30, Tryd.ntmps30
          go_wp2_with fail
          go_at_call 45
          refine (HMA.out _ HB.out.bel).mono ?_
          rintro e w1 ⟨rfl, hb1⟩
          have HS1 := Lib.hid (HB.out.keep hb1)
          clear hb1 b0 b1 b2 b3 lb
          obtain ⟨⟨b0, b1, b2, b3⟩, lb⟩ := HS1.out.cells
          go_wp2_with fail
          go_at_call 45
          refine (HMC.out _ HS1.out.bel).mono ?_
          rintro e w2 ⟨rfl, hb2⟩
          have HS2 := Lib.hid (HS1.out.keep hb2)
          clear hb2 b0 b1 b2 b3 lb
          obtain ⟨⟨b0, b1, b2, b3⟩, lb⟩ := HS2.out.cells
          go_wp2_with fail
          go_at_call 45
          refine (HMD.out _ HS2.out.bel).mono ?_
          rintro e w3 ⟨rfl, hb3⟩
          have HS3 := Lib.hid (HS2.out.keep hb3)
          clear hb3 b0 b1 b2 b3 lb
          obtain ⟨⟨b0, b1, b2, b3⟩, lb⟩ := HS3.out.cells
          go_wp2_with fail
          go_ret
          exact ⟨by rw [HR.out]; rfl, HS3.out.bel⟩
        · skip
          rcases Nat.eq_zero_or_pos ve with hE | hE
          · skip
            have HR : Hid (rsl p 1 L = 0) := Lib.hid (by rw [HV.out]; simp [hA, hC, hD, hE] <;> omega)
            subst hA
            rw [natZero] at HMA
            have gC : (0 : Int) < vc := by omega
            have eC : ((vc : Int) == 0) = false := eqz _ hC
            have fC : (vc == 0) = false := by simp; omega
            have gD : (0 : Int) < vd := by omega
            have eD : ((vd : Int) == 0) = false := eqz _ hD
            have fD : (vd == 0) = false := by simp; omega
            subst hE
            rw [natZero] at HME
            go_enter Tryd.func30, Tryd.ntmps30
            go_wp2_with fail
            go_at_call 45
            refine (HMA.out _ HB.out.bel).mono ?_
            rintro e w1 ⟨rfl, hb1⟩
            have HS1 := Lib.hid (HB.out.keep hb1)
            clear hb1 b0 b1 b2 b3 lb
            obtain ⟨⟨b0, b1, b2, b3⟩, lb⟩ := HS1.out.cells
            go_wp2_with fail
            go_at_call 45
            refine (HMC.out _ HS1.out.bel).mono ?_
            rintro e w2 ⟨rfl, hb2⟩
            have HS2 := Lib.hid (HS1.out.keep hb2)
            clear hb2 b0 b1 b2 b3 lb
            obtain ⟨⟨b0, b1, b2, b3⟩, lb⟩ := HS2.out.cells
            go_wp2_with fail
            go_at_call 45
            refine (HMD.out _ HS2.out.bel).mono ?_
            rintro e w3 ⟨rfl, hb3⟩
            have HS3 := Lib.hid (HS2.out.keep hb3)
            clear hb3 b0 b1 b2 b3 lb
            obtain ⟨⟨b0, b1, b2, b3⟩, lb⟩ := HS3.out.cells
            go_wp2_with fail
            go_at_call 45
            refine (HME.out _ HS3.out.bel).mono ?_
            rintro e w4 ⟨rfl, hb4⟩
            have HS4 := Lib.hid (HS3.out.keep hb4)
            clear hb4 b0 b1 b2 b3 lb
            obtain ⟨⟨b0, b1, b2, b3⟩, lb⟩ := HS4.out.cells
            go_wp2_with fail
            go_ret
            exact ⟨by rw [HR.out]; rfl, HS4.out.bel⟩
          · skip
            cases hT : tf with
            | false =>
              have HR : Hid (rsl p 1 L = 6) := Lib.hid (by rw [HV.out]; simp [hA, hC, hD, hE, hT] <;> omega)
              subst hA
              rw [natZero] at HMA
              have gC : (0 : Int) < vc := by omega
              have eC : ((vc : Int) == 0) = false := eqz _ hC
              have fC : (vc == 0) = false := by simp; omega
              have gD : (0 : Int) < vd := by omega
              have eD : ((vd : Int) == 0) = false := eqz _ hD
              have fD : (vd == 0) = false := by simp; omega
              have gE : (0 : Int) < ve := by omega
              have eE : ((ve : Int) == 0) = false := eqz _ hE
              have fE : (ve == 0) = false := by simp; omega
              rw [hT] at HTF
              go_enter Tryd.func30, Tryd.ntmps30
              go_wp2_with fail
              go_at_call 45
              refine (HMA.out _ HB.out.bel).mono ?_
              rintro e w1 ⟨rfl, hb1⟩
              have HS1 := Lib.hid (HB.out.keep hb1)
              clear hb1 b0 b1 b2 b3 lb
              obtain ⟨⟨b0, b1, b2, b3⟩, lb⟩ := HS1.out.cells
              go_wp2_with fail
              go_at_call 45
              refine (HMC.out _ HS1.out.bel).mono ?_
              rintro e w2 ⟨rfl, hb2⟩
              have HS2 := Lib.hid (HS1.out.keep hb2)
              clear hb2 b0 b1 b2 b3 lb
              obtain ⟨⟨b0, b1, b2, b3⟩, lb⟩ := HS2.out.cells
              go_wp2_with fail
              go_at_call 45
              refine (HMD.out _ HS2.out.bel).mono ?_
              rintro e w3 ⟨rfl, hb3⟩
              have HS3 := Lib.hid (HS2.out.keep hb3)
              clear hb3 b0 b1 b2 b3 lb
              obtain ⟨⟨b0, b1, b2, b3⟩, lb⟩ := HS3.out.cells
              go_wp2_with fail
              go_at_call 45
              refine (HME.out _ HS3.out.bel).mono ?_
              rintro e w4 ⟨rfl, hb4⟩
              have HS4 := Lib.hid (HS3.out.keep hb4)
              clear hb4 b0 b1 b2 b3 lb
              obtain ⟨⟨b0, b1, b2, b3⟩, lb⟩ := HS4.out.cells
              go_wp2_with fail
              go_at_call 44
              refine (HTF.out _ HS4.out.bel).mono ?_
              rintro e w5 ⟨rfl, hb5⟩
              have HS5 := Lib.hid (HS4.out.keep hb5)
              clear hb5 b0 b1 b2 b3 lb
              obtain ⟨⟨b0, b1, b2, b3⟩, lb⟩ := HS5.out.cells
              go_wp2_with fail
              go_ret
              exact ⟨by rw [HR.out]; rfl, HS5.out.bel⟩
            | true =>
              have HR : Hid (rsl p 1 L = 0) := Lib.hid (by rw [HV.out]; simp [hA, hC, hD, hE, hT] <;> omega)
              subst hA
              rw [natZero] at HMA
              have gC : (0 : Int) < vc := by omega
              have eC : ((vc : Int) == 0) = false := eqz _ hC
              have fC : (vc == 0) = false := by simp; omega
              have gD : (0 : Int) < vd := by omega
              have eD : ((vd : Int) == 0) = false := eqz _ hD
              have fD : (vd == 0) = false := by simp; omega
              have gE : (0 : Int) < ve := by omega
              have eE : ((ve : Int) == 0) = false := eqz _ hE
              have fE : (ve == 0) = false := by simp; omega
              rw [hT] at HTF
              go_enter Tryd.func30, Tryd.ntmps30
              go_wp2_with fail
              go_at_call 45
              refine (HMA.out _ HB.out.bel).mono ?_
              rintro e w1 ⟨rfl, hb1⟩
              have HS1 := Lib.hid (HB.out.keep hb1)
              clear hb1 b0 b1 b2 b3 lb
              obtain ⟨⟨b0, b1, b2, b3⟩, lb⟩ := HS1.out.cells
              go_wp2_with fail
              go_at_call 45
              refine (HMC.out _ HS1.out.bel).mono ?_
              rintro e w2 ⟨rfl, hb2⟩
              have HS2 := Lib.hid (HS1.out.keep hb2)
              clear hb2 b0 b1 b2 b3 lb
              obtain ⟨⟨b0, b1, b2, b3⟩, lb⟩ := HS2.out.cells
              go_wp2_with fail
              go_at_call 45
              refine (HMD.out _ HS2.out.bel).mono ?_
              rintro e w3 ⟨rfl, hb3⟩
              have HS3 := Lib.hid (HS2.out.keep hb3)
              clear hb3 b0 b1 b2 b3 lb
              obtain ⟨⟨b0, b1, b2, b3⟩, lb⟩ := HS3.out.cells
              go_wp2_with fail
              go_at_call 45
              refine (HME.out _ HS3.out.bel).mono ?_
              rintro e w4 ⟨rfl, hb4⟩
              have HS4 := Lib.hid (HS3.out.keep hb4)
              clear hb4 b0 b1 b2 b3 lb
              obtain ⟨⟨b0, b1, b2, b3⟩, lb⟩ := HS4.out.cells
              go_wp2_with fail
              go_at_call 44
              refine (HTF.out _ HS4.out.bel).mono ?_
              rintro e w5 ⟨rfl, hb5⟩
              have HS5 := Lib.hid (HS4.out.keep hb5)
              clear hb5 b0 b1 b2 b3 lb
              obtain ⟨⟨b0, b1, b2, b3⟩, lb⟩ := HS5.out.cells
              go_wp2_with fail
              go_ret
              exact ⟨by rw [HR.out]; rfl, HS5.out.bel⟩
    · skip
      rcases Nat.eq_zero_or_pos vb with hB | hB
      · skip
        have HR : Hid (rsl p 1 L = 5) := Lib.hid (by rw [HV.out]; simp [hA, hB] <;> omega)
        have gA : (0 : Int) < va := by omega
        have eA : ((va : Int) == 0) = false := eqz _ hA
        have fA : (va == 0) = false := by simp; omega
        subst hB
        rw [natZero] at HMB
        go_enter Tryd.func30, Tryd.ntmps30
        go_wp2_with fail
        go_at_call 45
        refine (HMA.out _ HB.out.bel).mono ?_
        rintro e w1 ⟨rfl, hb1⟩
        have HS1 := Lib.hid (HB.out.keep hb1)
        clear hb1 b0 b1 b2 b3 lb
        obtain ⟨⟨b0, b1, b2, b3⟩, lb⟩ := HS1.out.cells
        go_wp2_with fail
        go_at_call 45
        refine (HMB.out _ HS1.out.bel).mono ?_
        rintro e w2 ⟨rfl, hb2⟩
        have HS2 := Lib.hid (HS1.out.keep hb2)
        clear hb2 b0 b1 b2 b3 lb
        obtain ⟨⟨b0, b1, b2, b3⟩, lb⟩ := HS2.out.cells
        go_wp2_with fail
        go_ret
        exact ⟨by rw [HR.out]; rfl, HS2.out.bel⟩
      · skip
        rcases Nat.eq_zero_or_pos vc with hC | hC
        · skip
          rcases Nat.eq_zero_or_pos ve with hE | hE
          · skip
            have HR : Hid (rsl p 1 L = 0) := Lib.hid (by rw [HV.out]; simp [hA, hB, hC, hE] <;> omega)
            have gA : (0 : Int) < va := by omega
            have eA : ((va : Int) == 0) = false := eqz _ hA
            have fA : (va == 0) = false := by simp; omega
            have gB : (0 : Int) < vb := by omega
            have eB : ((vb : Int) == 0) = false := eqz _ hB
            have fB : (vb == 0) = false := by simp; omega
            subst hC
            rw [natZero] at HMC
            subst hE
            rw [natZero] at HME
            go_enter Tryd.func30, Tryd.ntmps30
            go_wp2_with fail
            go_at_call 45
            refine (HMA.out _ HB.out.bel).mono ?_
            rintro e w1 ⟨rfl, hb1⟩
            have HS1 := Lib.hid (HB.out.keep hb1)
            clear hb1 b0 b1 b2 b3 lb
            obtain ⟨⟨b0, b1, b2, b3⟩, lb⟩ := HS1.out.cells
            go_wp2_with fail
            go_at_call 45
            refine (HMB.out _ HS1.out.bel).mono ?_
            rintro e w2 ⟨rfl, hb2⟩
            have HS2 := Lib.hid (HS1.out.keep hb2)
            clear hb2 b0 b1 b2 b3 lb
            obtain ⟨⟨b0, b1, b2, b3⟩, lb⟩ := HS2.out.cells
            go_wp2_with fail
            go_at_call 45
            refine (HMC.out _ HS2.out.bel).mono ?_
            rintro e w3 ⟨rfl, hb3⟩
            have HS3 := Lib.hid (HS2.out.keep hb3)
            clear hb3 b0 b1 b2 b3 lb
            obtain ⟨⟨b0, b1, b2, b3⟩, lb⟩ := HS3.out.cells
            go_wp2_with fail
            go_at_call 45
            refine (HME.out _ HS3.out.bel).mono ?_
            rintro e w4 ⟨rfl, hb4⟩
            have HS4 := Lib.hid (HS3.out.keep hb4)
            clear hb4 b0 b1 b2 b3 lb
            obtain ⟨⟨b0, b1, b2, b3⟩, lb⟩ := HS4.out.cells
            go_wp2_with fail
            go_ret
            exact ⟨by rw [HR.out]; rfl, HS4.out.bel⟩
          · skip
            cases hT : tf with
            | false =>
              have HR : Hid (rsl p 1 L = 6) := Lib.hid (by rw [HV.out]; simp [hA, hB, hC, hE, hT] <;> omega)
              have gA : (0 : Int) < va := by omega
              have eA : ((va : Int) == 0) = false := eqz _ hA
              have fA : (va == 0) = false := by simp; omega
              have gB : (0 : Int) < vb := by omega
              have eB : ((vb : Int) == 0) = false := eqz _ hB
              have fB : (vb == 0) = false := by simp; omega
              subst hC
              rw [natZero] at HMC
              have gE : (0 : Int) < ve := by omega
              have eE : ((ve : Int) == 0) = false := eqz _ hE
              have fE : (ve == 0) = false := by simp; omega
              rw [hT] at HTF
              go_enter Tryd.func30, Tryd.ntmps30
              go_wp2_with fail
              go_at_call 45
              refine (HMA.out _ HB.out.bel).mono ?_
              rintro e w1 ⟨rfl, hb1⟩
              have HS1 := Lib.hid (HB.out.keep hb1)
              clear hb1 b0 b1 b2 b3 lb
              obtain ⟨⟨b0, b1, b2, b3⟩, lb⟩ := HS1.out.cells
              go_wp2_with fail
              go_at_call 45
              refine (HMB.out _ HS1.out.bel).mono ?_
              rintro e w2 ⟨rfl, hb2⟩
              have HS2 := Lib.hid (HS1.out.keep hb2)
              clear hb2 b0 b1 b2 b3 lb
              obtain ⟨⟨b0, b1, b2, b3⟩, lb⟩ := HS2.out.cells
              go_wp2_with fail
              go_at_call 45
              refine (HMC.out _ HS2.out.bel).mono ?_
              rintro e w3 ⟨rfl, hb3⟩
              have HS3 := Lib.hid (HS2.out.keep hb3)
              clear hb3 b0 b1 b2 b3 lb
              obtain ⟨⟨b0, b1, b2, b3⟩, lb⟩ := HS3.out.cells
              go_wp2_with fail
              go_at_call 45
              refine (HME.out _ HS3.out.bel).mono ?_
              rintro e w4 ⟨rfl, hb4⟩
              have HS4 := Lib.hid (HS3.out.keep hb4)
              clear hb4 b0 b1 b2 b3 lb
              obtain ⟨⟨b0, b1, b2, b3⟩, lb⟩ := HS4.out.cells
              go_wp2_with fail
              go_at_call 44
              refine (HTF.out _ HS4.out.bel).mono ?_
              rintro e w5 ⟨rfl, hb5⟩
              have HS5 := Lib.hid (HS4.out.keep hb5)
              clear hb5 b0 b1 b2 b3 lb
              obtain ⟨⟨b0, b1, b2, b3⟩, lb⟩ := HS5.out.cells
              go_wp2_with fail
              go_ret
              exact ⟨by rw [HR.out]; rfl, HS5.out.bel⟩
            | true =>
              have HR : Hid (rsl p 1 L = 0) := Lib.hid (by rw [HV.out]; simp [hA, hB, hC, hE, hT] <;> omega)
              have gA : (0 : Int) < va := by omega
              have eA : ((va : Int) == 0) = false := eqz _ hA
              have fA : (va == 0) = false := by simp; omega
              have gB : (0 : Int) < vb := by omega
              have eB : ((vb : Int) == 0) = false := eqz _ hB
              have fB : (vb == 0) = false := by simp; omega
              subst hC
              rw [natZero] at HMC
              have gE : (0 : Int) < ve := by omega
              have eE : ((ve : Int) == 0) = false := eqz _ hE
              have fE : (ve == 0) = false := by simp; omega
              rw [hT] at HTF
              go_enter Tryd.func30, Tryd.ntmps30
              go_wp2_with fail
              go_at_call 45
              refine (HMA.out _ HB.out.bel).mono ?_
              rintro e w1 ⟨rfl, hb1⟩
              have HS1 := Lib.hid (HB.out.keep hb1)
              clear hb1 b0 b1 b2 b3 lb
              obtain ⟨⟨b0, b1, b2, b3⟩, lb⟩ := HS1.out.cells
              go_wp2_with fail
              go_at_call 45
              refine (HMB.out _ HS1.out.bel).mono ?_
              rintro e w2 ⟨rfl, hb2⟩
              have HS2 := Lib.hid (HS1.out.keep hb2)
              clear hb2 b0 b1 b2 b3 lb
              obtain ⟨⟨b0, b1, b2, b3⟩, lb⟩ := HS2.out.cells
              go_wp2_with fail
              go_at_call 45
              refine (HMC.out _ HS2.out.bel).mono ?_
              rintro e w3 ⟨rfl, hb3⟩
              have HS3 := Lib.hid (HS2.out.keep hb3)
              clear hb3 b0 b1 b2 b3 lb
              obtain ⟨⟨b0, b1, b2, b3⟩, lb⟩ := HS3.out.cells
              go_wp2_with fail
              go_at_call 45
              refine (HME.out _ HS3.out.bel).mono ?_
              rintro e w4 ⟨rfl, hb4⟩
              have HS4 := Lib.hid (HS3.out.keep hb4)
              clear hb4 b0 b1 b2 b3 lb
              obtain ⟨⟨b0, b1, b2, b3⟩, lb⟩ := HS4.out.cells
              go_wp2_with fail
              go_at_call 44
              refine (HTF.out _ HS4.out.bel).mono ?_
              rintro e w5 ⟨rfl, hb5⟩
              have HS5 := Lib.hid (HS4.out.keep hb5)
              clear hb5 b0 b1 b2 b3 lb
              obtain ⟨⟨b0, b1, b2, b3⟩, lb⟩ := HS5.out.cells
              go_wp2_with fail
              go_ret
              exact ⟨by rw [HR.out]; rfl, HS5.out.bel⟩
        · skip
          rcases Nat.eq_zero_or_pos vd with hD | hD
          · skip
            have HR : Hid (rsl p 1 L = 5) := Lib.hid (by rw [HV.out]; simp [hA, hB, hC, hD] <;> omega)
            have gA : (0 : Int) < va := by omega
            have eA : ((va : Int) == 0) = false := eqz _ hA
            have fA : (va == 0) = false := by simp; omega
            have gB : (0 : Int) < vb := by omega
            have eB : ((vb : Int) == 0) = false := eqz _ hB
            have fB : (vb == 0) = false := by simp; omega
            have gC : (0 : Int) < vc := by omega
            have eC : ((vc : Int) == 0) = false := eqz _ hC
            have fC : (vc == 0) = false := by simp; omega
            subst hD
            rw [natZero] at HMD
            go_enter Tryd.func30, Tryd.ntmps30
            go_wp2_with fail
            go_at_call 45
            refine (HMA.out _ HB.out.bel).mono ?_
            rintro e w1 ⟨rfl, hb1⟩
            have HS1 := Lib.hid (HB.out.keep hb1)
            clear hb1 b0 b1 b2 b3 lb
            obtain ⟨⟨b0, b1, b2, b3⟩, lb⟩ := HS1.out.cells
            go_wp2_with fail
            go_at_call 45
            refine (HMB.out _ HS1.out.bel).mono ?_
            rintro e w2 ⟨rfl, hb2⟩
            have HS2 := Lib.hid (HS1.out.keep hb2)
            clear hb2 b0 b1 b2 b3 lb
            obtain ⟨⟨b0, b1, b2, b3⟩, lb⟩ := HS2.out.cells
            go_wp2_with fail
            go_at_call 45
            refine (HMC.out _ HS2.out.bel).mono ?_
            rintro e w3 ⟨rfl, hb3⟩
            have HS3 := Lib.hid (HS2.out.keep hb3)
            clear hb3 b0 b1 b2 b3 lb
            obtain ⟨⟨b0, b1, b2, b3⟩, lb⟩ := HS3.out.cells
            go_wp2_with fail
            go_at_call 45
            refine (HMD.out _ HS3.out.bel).mono ?_
            rintro e w4 ⟨rfl, hb4⟩
            have HS4 := Lib.hid (HS3.out.keep hb4)
            clear hb4 b0 b1 b2 b3 lb
            obtain ⟨⟨b0, b1, b2, b3⟩, lb⟩ := HS4.out.cells
            go_wp2_with fail
            go_ret
            exact ⟨by rw [HR.out]; rfl, HS4.out.bel⟩
          · skip
            rcases Nat.eq_zero_or_pos ve with hE | hE
            · skip
              have HR : Hid (rsl p 1 L = 0) := Lib.hid (by rw [HV.out]; simp [hA, hB, hC, hD, hE] <;> omega)
              have gA : (0 : Int) < va := by omega
              have eA : ((va : Int) == 0) = false := eqz _ hA
              have fA : (va == 0) = false := by simp; omega
              have gB : (0 : Int) < vb := by omega
              have eB : ((vb : Int) == 0) = false := eqz _ hB
              have fB : (vb == 0) = false := by simp; omega
              have gC : (0 : Int) < vc := by omega
              have eC : ((vc : Int) == 0) = false := eqz _ hC
              have fC : (vc == 0) = false := by simp; omega
              have gD : (0 : Int) < vd := by omega
              have eD : ((vd : Int) == 0) = false := eqz _ hD
              have fD : (vd == 0) = false := by simp; omega
              subst hE
              rw [natZero] at HME
              go_enter Tryd.func30, Tryd.ntmps30
              go_wp2_with fail
              go_at_call 45
              refine (HMA.out _ HB.out.bel).mono ?_
              rintro e w1 ⟨rfl, hb1⟩
              have HS1 := Lib.hid (HB.out.keep hb1)
              clear hb1 b0 b1 b2 b3 lb
              obtain ⟨⟨b0, b1, b2, b3⟩, lb⟩ := HS1.out.cells
              go_wp2_with fail
              go_at_call 45
              refine (HMB.out _ HS1.out.bel).mono ?_
              rintro e w2 ⟨rfl, hb2⟩
              have HS2 := Lib.hid (HS1.out.keep hb2)
              clear hb2 b0 b1 b2 b3 lb
              obtain ⟨⟨b0, b1, b2, b3⟩, lb⟩ := HS2.out.cells
              go_wp2_with fail
              go_at_call 45
              refine (HMC.out _ HS2.out.bel).mono ?_
              rintro e w3 ⟨rfl, hb3⟩
              have HS3 := Lib.hid (HS2.out.keep hb3)
              clear hb3 b0 b1 b2 b3 lb
              obtain ⟨⟨b0, b1, b2, b3⟩, lb⟩ := HS3.out.cells
              go_wp2_with fail
              go_at_call 45
              refine (HMD.out _ HS3.out.bel).mono ?_
              rintro e w4 ⟨rfl, hb4⟩
              have HS4 := Lib.hid (HS3.out.keep hb4)
              clear hb4 b0 b1 b2 b3 lb
              obtain ⟨⟨b0, b1, b2, b3⟩, lb⟩ := HS4.out.cells
              go_wp2_with fail
              go_at_call 45
              refine (HME.out _ HS4.out.bel).mono ?_
              rintro e w5 ⟨rfl, hb5⟩
              have HS5 := Lib.hid (HS4.out.keep hb5)
              clear hb5 b0 b1 b2 b3 lb
              obtain ⟨⟨b0, b1, b2, b3⟩, lb⟩ := HS5.out.cells
              go_wp2_with fail
              go_ret
              exact ⟨by rw [HR.out]; rfl, HS5.out.bel⟩
            · skip
              cases hT : tf with
              | false =>
                have HR : Hid (rsl p 1 L = 6) := Lib.hid (by rw [HV.out]; simp [hA, hB, hC, hD, hE, hT] <;> omega)
                have gA : (0 : Int) < va := by omega
                have eA : ((va : Int) == 0) = false := eqz _ hA
                have fA : (va == 0) = false := by simp; omega
                have gB : (0 : Int) < vb := by omega
                have eB : ((vb : Int) == 0) = false := eqz _ hB
                have fB : (vb == 0) = false := by simp; omega
                have gC : (0 : Int) < vc := by omega
                have eC : ((vc : Int) == 0) = false := eqz _ hC
                have fC : (vc == 0) = false := by simp; omega
                have gD : (0 : Int) < vd := by omega
                have eD : ((vd : Int) == 0) = false := eqz _ hD
                have fD : (vd == 0) = false := by simp; omega
                have gE : (0 : Int) < ve := by omega
                have eE : ((ve : Int) == 0) = false := eqz _ hE
                have fE : (ve == 0) = false := by simp; omega
                rw [hT] at HTF
                go_enter Tryd.func30, Tryd.ntmps30
                go_wp2_with fail
                go_at_call 45
                refine (HMA.out _ HB.out.bel).mono ?_
                rintro e w1 ⟨rfl, hb1⟩
                have HS1 := Lib.hid (HB.out.keep hb1)
                clear hb1 b0 b1 b2 b3 lb
                obtain ⟨⟨b0, b1, b2, b3⟩, lb⟩ := HS1.out.cells
                go_wp2_with fail
                go_at_call 45
                refine (HMB.out _ HS1.out.bel).mono ?_
                rintro e w2 ⟨rfl, hb2⟩
                have HS2 := Lib.hid (HS1.out.keep hb2)
                clear hb2 b0 b1 b2 b3 lb
                obtain ⟨⟨b0, b1, b2, b3⟩, lb⟩ := HS2.out.cells
                go_wp2_with fail
                go_at_call 45
                refine (HMC.out _ HS2.out.bel).mono ?_
                rintro e w3 ⟨rfl, hb3⟩
                have HS3 := Lib.hid (HS2.out.keep hb3)
                clear hb3 b0 b1 b2 b3 lb
                obtain ⟨⟨b0, b1, b2, b3⟩, lb⟩ := HS3.out.cells
                go_wp2_with fail
                go_at_call 45
                refine (HMD.out _ HS3.out.bel).mono ?_
                rintro e w4 ⟨rfl, hb4⟩
                have HS4 := Lib.hid (HS3.out.keep hb4)
                clear hb4 b0 b1 b2 b3 lb
                obtain ⟨⟨b0, b1, b2, b3⟩, lb⟩ := HS4.out.cells
                go_wp2_with fail
                go_at_call 45
                refine (HME.out _ HS4.out.bel).mono ?_
                rintro e w5 ⟨rfl, hb5⟩
                have HS5 := Lib.hid (HS4.out.keep hb5)
                clear hb5 b0 b1 b2 b3 lb
                obtain ⟨⟨b0, b1, b2, b3⟩, lb⟩ := HS5.out.cells
                go_wp2_with fail
                go_at_call 44
                refine (HTF.out _ HS5.out.bel).mono ?_
                rintro e w6 ⟨rfl, hb6⟩
                have HS6 := Lib.hid (HS5.out.keep hb6)
                clear hb6 b0 b1 b2 b3 lb
                obtain ⟨⟨b0, b1, b2, b3⟩, lb⟩ := HS6.out.cells
                go_wp2_with fail
                go_ret
                exact ⟨by rw [HR.out]; rfl, HS6.out.bel⟩
              | true =>
                have HR : Hid (rsl p 1 L = 0) := Lib.hid (by rw [HV.out]; simp [hA, hB, hC, hD, hE, hT] <;> omega)
                have gA : (0 : Int) < va := by omega
                have eA : ((va : Int) == 0) = false := eqz _ hA
                have fA : (va == 0) = false := by simp; omega
                have gB : (0 : Int) < vb := by omega
                have eB : ((vb : Int) == 0) = false := eqz _ hB
                have fB : (vb == 0) = false := by simp; omega
                have gC : (0 : Int) < vc := by omega
                have eC : ((vc : Int) == 0) = false := eqz _ hC
                have fC : (vc == 0) = false := by simp; omega
                have gD : (0 : Int) < vd := by omega
                have eD : ((vd : Int) == 0) = false := eqz _ hD
                have fD : (vd == 0) = false := by simp; omega
                have gE : (0 : Int) < ve := by omega
                have eE : ((ve : Int) == 0) = false := eqz _ hE
                have fE : (ve == 0) = false := by simp; omega
                rw [hT] at HTF
                go_enter Tryd.func30, Tryd.ntmps30
                go_wp2_with fail
                go_at_call 45
                refine (HMA.out _ HB.out.bel).mono ?_
                rintro e w1 ⟨rfl, hb1⟩
                have HS1 := Lib.hid (HB.out.keep hb1)
                clear hb1 b0 b1 b2 b3 lb
                obtain ⟨⟨b0, b1, b2, b3⟩, lb⟩ := HS1.out.cells
                go_wp2_with fail
                go_at_call 45
                refine (HMB.out _ HS1.out.bel).mono ?_
                rintro e w2 ⟨rfl, hb2⟩
                have HS2 := Lib.hid (HS1.out.keep hb2)
                clear hb2 b0 b1 b2 b3 lb
                obtain ⟨⟨b0, b1, b2, b3⟩, lb⟩ := HS2.out.cells
                go_wp2_with fail
                go_at_call 45
                refine (HMC.out _ HS2.out.bel).mono ?_
                rintro e w3 ⟨rfl, hb3⟩
                have HS3 := Lib.hid (HS2.out.keep hb3)
                clear hb3 b0 b1 b2 b3 lb
                obtain ⟨⟨b0, b1, b2, b3⟩, lb⟩ := HS3.out.cells
                go_wp2_with fail
                go_at_call 45
                refine (HMD.out _ HS3.out.bel).mono ?_
                rintro e w4 ⟨rfl, hb4⟩
                have HS4 := Lib.hid (HS3.out.keep hb4)
                clear hb4 b0 b1 b2 b3 lb
                obtain ⟨⟨b0, b1, b2, b3⟩, lb⟩ := HS4.out.cells
                go_wp2_with fail
                go_at_call 45
                refine (HME.out _ HS4.out.bel).mono ?_
                rintro e w5 ⟨rfl, hb5⟩
                have HS5 := Lib.hid (HS4.out.keep hb5)
                clear hb5 b0 b1 b2 b3 lb
                obtain ⟨⟨b0, b1, b2, b3⟩, lb⟩ := HS5.out.cells
                go_wp2_with fail
                go_at_call 44
                refine (HTF.out _ HS5.out.bel).mono ?_
                rintro e w6 ⟨rfl, hb6⟩
                have HS6 := Lib.hid (HS5.out.keep hb6)
                clear hb6 b0 b1 b2 b3 lb
                obtain ⟨⟨b0, b1, b2, b3⟩, lb⟩ := HS6.out.cells
                go_wp2_with fail
                go_ret
                exact ⟨by rw [HR.out]; rfl, HS6.out.bel⟩
end Go.Proofs.YtahbbojhdkillaaDoor
