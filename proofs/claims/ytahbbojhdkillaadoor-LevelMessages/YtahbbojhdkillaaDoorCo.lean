/- Layer 7: the walk of the reference's one (the rule that a token breaks). -/
import Derived.Test.YtahbbojhdkillaaDoorCn
namespace Go.Proofs.YtahbbojhdkillaaDoor
open Go.RowKit Go.Shelf

theorem getD_mem {l : List Int} {i : Nat} (h : i < l.length) : l.getD i 0 ∈ l := by
  rw [List.getD_eq_getElem?_getD, List.getElem?_eq_getElem h]; exact List.getElem_mem _
set_option maxRecDepth 100000 in
set_option maxHeartbeats 4000000 in
theorem one_any (x : Sl) (p : Pt) (msg at_ : Nat) (w : World) (hp : PatA w x p) (hr : right p = true) (hm : msg < p.ms.length) (ha : at_ < (p.ms.getD msg default).t.length) : Calls Tryd.prog 28 #[patV x p, .int .i64 msg, .int .i64 at_] w fun e w' => e = .returned (.int .i64 (rone p (p.ms.getD msg default).fr ((p.ms.getD msg default).t.getD at_ 0) (ahd p.ms msg at_))) ∧ Below w.heap.size w w' := by
  obtain ⟨bd0, bd1, bdm, bdt, bdf, bd6⟩ := right_bd hr
  have hmg : msg ≤ 65536 := by omega
  have hat : at_ ≤ 65536 := by have := bdt msg hm; omega
  have hmm := right_ms' hr (m := p.ms.getD msg default) (by rw [List.getD_eq_getElem?_getD, List.getElem?_eq_getElem hm]; exact List.getElem_mem _)
  have htk : isTok ((p.ms.getD msg default).t.getD at_ 0) = true := hmm.2 _ (getD_mem ha)
  have HM := Lib.hid (fun (t : Int) wx (hb : Below w.heap.size w wx) => met7_any x p 2 t msg at_ wx (hp.keep hb) hr hat hmg)
  have HT := Lib.hid (fun (r t : Int) (h01 : r = 0 ∨ r = 1) wx (hb : Below w.heap.size w wx) => told7_any x p r t h01 msg at_ wx (hp.keep hb) hr hat hmg)
  have HKE := Lib.hid (fun wx (hb : Below w.heap.size w wx) => key_any x p msg at_ wx (hp.keep hb) hr hat hmg)
  have HSE := Lib.hid (fun (r : Int) (h01 : r = 0 ∨ r = 1) wx (hb : Below w.heap.size w wx) => sealing_any x p r h01 msg at_ wx (hp.keep hb) hr hat hmg)
  have HB := Lib.hid (bf_new w x p)
  obtain ⟨g, o, hs2, hia⟩ := (hp.im.keep ((Below.refl _ _).alloc (Nat.le_refl _) (.cells #[.string ⟨p.nm.toArray⟩, .slice x.s0 p.p0.length x.c0, .slice x.s1 p.p1.length x.c1, .slice x.s2 p.ms.length x.c2] 43))) (by omega)
  obtain ⟨q0, sx, cx, q1, qi⟩ := hia msg hm
  obtain ⟨g2, o2, hs3, hib⟩ := qi (by omega)
  subst hs3
  have hx := hib at_ ha
  have hr01 := hmm.1
  obtain ⟨s0, c0, s1, c1, s2, c2⟩ := x
  simp only at hs2
  subst hs2
  obtain ⟨r, hrr⟩ : ∃ r, r = (p.ms.getD msg default).fr := ⟨_, rfl⟩
  obtain ⟨t, htt⟩ : ∃ t, t = (p.ms.getD msg default).t.getD at_ 0 := ⟨_, rfl⟩
  obtain ⟨tl, htl⟩ : ∃ n, n = (p.ms.getD msg default).t.length := ⟨_, rfl⟩
  rw [← hrr] at q0 hr01 ⊢
  rw [← htt] at hx htk ⊢
  rw [← htl] at q1 ha
  unfold patV at HM HT HKE HSE ⊢
  have lg := World.block_lt_of_cell? _ _ q0
  have lg2 := World.block_lt_of_cell? _ _ hx
  simp only at HM HT HKE HSE HB lg lg2 hx q0 q1 ⊢
  have hm2 : (msg : Int) < p.ms.length := by omega
  have ha2 : (at_ : Int) < tl := by omega
  have HR01 := Lib.hid hr01
  generalize ahd p.ms msg at_ = L at HM HT HKE HSE ⊢
  clear hia hib qi hp hr hmm bd0 bd1 bdm bdt bdf bd6 hat hmg hrr htt htl hr01
  obtain ⟨⟨b0, b1, b2, b3⟩, lb⟩ := HB.out.cells
  have htc := tok_cases htk
  clear htk
  rcases htc with rfl | rfl | rfl | rfl | rfl | rfl | rfl
  · have HTR := Lib.hid (HT.out r 1 HR01.out)
    cases hT : tld p r 1 L with
    | true =>
      have HV : Hid (rone p r 1 L = 2) := Lib.hid (by simp [rone, hT])
      rw [hT] at HTR
      clear hT
      go_enter Tryd.func28, Tryd.ntmps28
      go_wp2_with fail
      go_at_call 44
      refine (HTR.out _ HB.out.bel).mono ?_
      rintro e w1 ⟨rfl, hb1⟩
      have HB1 := Lib.hid (HB.out.keep hb1)
      clear hb1 b0 b1 b2 b3 lb
      obtain ⟨⟨b0, b1, b2, b3⟩, lb⟩ := HB1.out.cells
      go_wp2_with fail
      go_ret
      exact ⟨by rw [HV.out]; rfl, HB1.out.bel⟩
    | false =>
      have HV : Hid (rone p r 1 L = 0) := Lib.hid (by simp [rone, hT])
      rw [hT] at HTR
      clear hT
      go_enter Tryd.func28, Tryd.ntmps28
      go_wp2_with fail
      go_at_call 44
      refine (HTR.out _ HB.out.bel).mono ?_
      rintro e w1 ⟨rfl, hb1⟩
      have HB1 := Lib.hid (HB.out.keep hb1)
      clear hb1 b0 b1 b2 b3 lb
      obtain ⟨⟨b0, b1, b2, b3⟩, lb⟩ := HB1.out.cells
      go_wp2_with fail
      go_ret
      exact ⟨by rw [HV.out]; rfl, HB1.out.bel⟩
  · have HTR := Lib.hid (HT.out r 2 HR01.out)
    cases hT : tld p r 2 L with
    | true =>
      have HV : Hid (rone p r 2 L = 2) := Lib.hid (by simp [rone, hT])
      rw [hT] at HTR
      clear hT
      go_enter Tryd.func28, Tryd.ntmps28
      go_wp2_with fail
      go_at_call 44
      refine (HTR.out _ HB.out.bel).mono ?_
      rintro e w1 ⟨rfl, hb1⟩
      have HB1 := Lib.hid (HB.out.keep hb1)
      clear hb1 b0 b1 b2 b3 lb
      obtain ⟨⟨b0, b1, b2, b3⟩, lb⟩ := HB1.out.cells
      go_wp2_with fail
      go_ret
      exact ⟨by rw [HV.out]; rfl, HB1.out.bel⟩
    | false =>
      rw [hT] at HTR
      cases hK : rkey p L with
      | false =>
        have HV : Hid (rone p r 2 L = 0) := Lib.hid (by simp [rone, hT, sl, hK])
        rw [hK] at HKE
        clear hT hK
        go_enter Tryd.func28, Tryd.ntmps28
        go_wp2_with fail
        go_at_call 44
        refine (HTR.out _ HB.out.bel).mono ?_
        rintro e w1 ⟨rfl, hb1⟩
        have HB1 := Lib.hid (HB.out.keep hb1)
        clear hb1 b0 b1 b2 b3 lb
        obtain ⟨⟨b0, b1, b2, b3⟩, lb⟩ := HB1.out.cells
        go_wp2_with fail
        go_at_call 29
        refine (HKE.out _ HB1.out.bel).mono ?_
        rintro e w2 ⟨rfl, hb2⟩
        have HB2 := Lib.hid (HB1.out.keep hb2)
        clear hb2 b0 b1 b2 b3 lb
        obtain ⟨⟨b0, b1, b2, b3⟩, lb⟩ := HB2.out.cells
        go_wp2_with fail
        go_ret
        exact ⟨by rw [HV.out]; rfl, HB2.out.bel⟩
      | true =>
        have HV : Hid (rone p r 2 L = rsl p r L) := Lib.hid (by simp [rone, hT, sl, hK])
        have HSR := Lib.hid (HSE.out r HR01.out)
        generalize rsl p r L = v at HV HSR
        rw [hK] at HKE
        clear hT hK
        go_enter Tryd.func28, Tryd.ntmps28
        go_wp2_with fail
        go_at_call 44
        refine (HTR.out _ HB.out.bel).mono ?_
        rintro e w1 ⟨rfl, hb1⟩
        have HB1 := Lib.hid (HB.out.keep hb1)
        clear hb1 b0 b1 b2 b3 lb
        obtain ⟨⟨b0, b1, b2, b3⟩, lb⟩ := HB1.out.cells
        go_wp2_with fail
        go_at_call 29
        refine (HKE.out _ HB1.out.bel).mono ?_
        rintro e w2 ⟨rfl, hb2⟩
        have HB2 := Lib.hid (HB1.out.keep hb2)
        clear hb2 b0 b1 b2 b3 lb
        obtain ⟨⟨b0, b1, b2, b3⟩, lb⟩ := HB2.out.cells
        go_wp2_with fail
        go_at_call 30
        refine (HSR.out _ HB2.out.bel).mono ?_
        rintro e w3 ⟨rfl, hb3⟩
        have HB3 := Lib.hid (HB2.out.keep hb3)
        clear hb3 b0 b1 b2 b3 lb
        obtain ⟨⟨b0, b1, b2, b3⟩, lb⟩ := HB3.out.cells
        go_wp2_with fail
        go_ret
        exact ⟨by rw [HV.out]; rfl, HB3.out.bel⟩
  · have HTA := Lib.hid (HT.out 0 1 (.inl rfl))
    have HTB := Lib.hid (HT.out 1 1 (.inr rfl))
    have HMT := Lib.hid (HM.out 3)
    cases hA : tld p 0 1 L with
    | false =>
      have HV : Hid (rone p r 3 L = 3) := Lib.hid (by simp [rone, kA, kB, hA])
      rw [hA] at HTA
      clear hA
      go_enter Tryd.func28, Tryd.ntmps28
      go_wp2_with fail
      go_at_call 44
      refine (HTA.out _ HB.out.bel).mono ?_
      rintro e w1 ⟨rfl, hb1⟩
      have HB1 := Lib.hid (HB.out.keep hb1)
      clear hb1 b0 b1 b2 b3 lb
      obtain ⟨⟨b0, b1, b2, b3⟩, lb⟩ := HB1.out.cells
      go_wp2_with fail
      go_ret
      exact ⟨by rw [HV.out]; rfl, HB1.out.bel⟩
    | true =>
      rw [hA] at HTA
      cases hB : tld p 1 1 L with
      | false =>
        have HV : Hid (rone p r 3 L = 3) := Lib.hid (by simp [rone, kA, kB, hA, hB])
        rw [hB] at HTB
        clear hA hB
        go_enter Tryd.func28, Tryd.ntmps28
        go_wp2_with fail
        go_at_call 44
        refine (HTA.out _ HB.out.bel).mono ?_
        rintro e w1 ⟨rfl, hb1⟩
        have HB1 := Lib.hid (HB.out.keep hb1)
        clear hb1 b0 b1 b2 b3 lb
        obtain ⟨⟨b0, b1, b2, b3⟩, lb⟩ := HB1.out.cells
        go_wp2_with fail
        go_at_call 44
        refine (HTB.out _ HB1.out.bel).mono ?_
        rintro e w2 ⟨rfl, hb2⟩
        have HB2 := Lib.hid (HB1.out.keep hb2)
        clear hb2 b0 b1 b2 b3 lb
        obtain ⟨⟨b0, b1, b2, b3⟩, lb⟩ := HB2.out.cells
        go_wp2_with fail
        go_ret
        exact ⟨by rw [HV.out]; rfl, HB2.out.bel⟩
      | true =>
        rw [hB] at HTB
        obtain ⟨v, hv⟩ : ∃ v, v = met 2 3 L := ⟨_, rfl⟩
        rw [← hv] at HMT
        rcases Nat.eq_zero_or_pos v with h0 | h0
        · have HV : Hid (rone p r 3 L = 0) := Lib.hid (by simp [rone, kA, kB, hA, hB, ← hv, h0])
          clear hv hA hB
          subst h0
          rw [natZero] at HMT
          go_enter Tryd.func28, Tryd.ntmps28
          go_wp2_with fail
          go_at_call 44
          refine (HTA.out _ HB.out.bel).mono ?_
          rintro e w1 ⟨rfl, hb1⟩
          have HB1 := Lib.hid (HB.out.keep hb1)
          clear hb1 b0 b1 b2 b3 lb
          obtain ⟨⟨b0, b1, b2, b3⟩, lb⟩ := HB1.out.cells
          go_wp2_with fail
          go_at_call 44
          refine (HTB.out _ HB1.out.bel).mono ?_
          rintro e w2 ⟨rfl, hb2⟩
          have HB2 := Lib.hid (HB1.out.keep hb2)
          clear hb2 b0 b1 b2 b3 lb
          obtain ⟨⟨b0, b1, b2, b3⟩, lb⟩ := HB2.out.cells
          go_wp2_with fail
          go_at_call 45
          refine (HMT.out _ HB2.out.bel).mono ?_
          rintro e w3 ⟨rfl, hb3⟩
          have HB3 := Lib.hid (HB2.out.keep hb3)
          clear hb3 b0 b1 b2 b3 lb
          obtain ⟨⟨b0, b1, b2, b3⟩, lb⟩ := HB3.out.cells
          go_wp2_with fail
          go_ret
          exact ⟨by rw [HV.out]; rfl, HB3.out.bel⟩
        · have HV : Hid (rone p r 3 L = 4) := Lib.hid (by simp [rone, kA, kB, hA, hB, ← hv, h0])
          have hv2 : (0 : Int) < v := by omega
          clear hv hA hB
          go_enter Tryd.func28, Tryd.ntmps28
          go_wp2_with fail
          go_at_call 44
          refine (HTA.out _ HB.out.bel).mono ?_
          rintro e w1 ⟨rfl, hb1⟩
          have HB1 := Lib.hid (HB.out.keep hb1)
          clear hb1 b0 b1 b2 b3 lb
          obtain ⟨⟨b0, b1, b2, b3⟩, lb⟩ := HB1.out.cells
          go_wp2_with fail
          go_at_call 44
          refine (HTB.out _ HB1.out.bel).mono ?_
          rintro e w2 ⟨rfl, hb2⟩
          have HB2 := Lib.hid (HB1.out.keep hb2)
          clear hb2 b0 b1 b2 b3 lb
          obtain ⟨⟨b0, b1, b2, b3⟩, lb⟩ := HB2.out.cells
          go_wp2_with fail
          go_at_call 45
          refine (HMT.out _ HB2.out.bel).mono ?_
          rintro e w3 ⟨rfl, hb3⟩
          have HB3 := Lib.hid (HB2.out.keep hb3)
          clear hb3 b0 b1 b2 b3 lb
          obtain ⟨⟨b0, b1, b2, b3⟩, lb⟩ := HB3.out.cells
          go_wp2_with fail
          go_ret
          exact ⟨by rw [HV.out]; rfl, HB3.out.bel⟩
  · have HTA := Lib.hid (HT.out 0 1 (.inl rfl))
    have HTB := Lib.hid (HT.out 1 2 (.inr rfl))
    have HMT := Lib.hid (HM.out 4)
    cases hA : tld p 0 1 L with
    | false =>
      have HV : Hid (rone p r 4 L = 3) := Lib.hid (by simp [rone, kA, kB, hA])
      rw [hA] at HTA
      clear hA
      go_enter Tryd.func28, Tryd.ntmps28
      go_wp2_with fail
      go_at_call 44
      refine (HTA.out _ HB.out.bel).mono ?_
      rintro e w1 ⟨rfl, hb1⟩
      have HB1 := Lib.hid (HB.out.keep hb1)
      clear hb1 b0 b1 b2 b3 lb
      obtain ⟨⟨b0, b1, b2, b3⟩, lb⟩ := HB1.out.cells
      go_wp2_with fail
      go_ret
      exact ⟨by rw [HV.out]; rfl, HB1.out.bel⟩
    | true =>
      rw [hA] at HTA
      cases hB : tld p 1 2 L with
      | false =>
        have HV : Hid (rone p r 4 L = 3) := Lib.hid (by simp [rone, kA, kB, hA, hB])
        rw [hB] at HTB
        clear hA hB
        go_enter Tryd.func28, Tryd.ntmps28
        go_wp2_with fail
        go_at_call 44
        refine (HTA.out _ HB.out.bel).mono ?_
        rintro e w1 ⟨rfl, hb1⟩
        have HB1 := Lib.hid (HB.out.keep hb1)
        clear hb1 b0 b1 b2 b3 lb
        obtain ⟨⟨b0, b1, b2, b3⟩, lb⟩ := HB1.out.cells
        go_wp2_with fail
        go_at_call 44
        refine (HTB.out _ HB1.out.bel).mono ?_
        rintro e w2 ⟨rfl, hb2⟩
        have HB2 := Lib.hid (HB1.out.keep hb2)
        clear hb2 b0 b1 b2 b3 lb
        obtain ⟨⟨b0, b1, b2, b3⟩, lb⟩ := HB2.out.cells
        go_wp2_with fail
        go_ret
        exact ⟨by rw [HV.out]; rfl, HB2.out.bel⟩
      | true =>
        rw [hB] at HTB
        obtain ⟨v, hv⟩ : ∃ v, v = met 2 4 L := ⟨_, rfl⟩
        rw [← hv] at HMT
        rcases Nat.eq_zero_or_pos v with h0 | h0
        · have HV : Hid (rone p r 4 L = 0) := Lib.hid (by simp [rone, kA, kB, hA, hB, ← hv, h0])
          clear hv hA hB
          subst h0
          rw [natZero] at HMT
          go_enter Tryd.func28, Tryd.ntmps28
          go_wp2_with fail
          go_at_call 44
          refine (HTA.out _ HB.out.bel).mono ?_
          rintro e w1 ⟨rfl, hb1⟩
          have HB1 := Lib.hid (HB.out.keep hb1)
          clear hb1 b0 b1 b2 b3 lb
          obtain ⟨⟨b0, b1, b2, b3⟩, lb⟩ := HB1.out.cells
          go_wp2_with fail
          go_at_call 44
          refine (HTB.out _ HB1.out.bel).mono ?_
          rintro e w2 ⟨rfl, hb2⟩
          have HB2 := Lib.hid (HB1.out.keep hb2)
          clear hb2 b0 b1 b2 b3 lb
          obtain ⟨⟨b0, b1, b2, b3⟩, lb⟩ := HB2.out.cells
          go_wp2_with fail
          go_at_call 45
          refine (HMT.out _ HB2.out.bel).mono ?_
          rintro e w3 ⟨rfl, hb3⟩
          have HB3 := Lib.hid (HB2.out.keep hb3)
          clear hb3 b0 b1 b2 b3 lb
          obtain ⟨⟨b0, b1, b2, b3⟩, lb⟩ := HB3.out.cells
          go_wp2_with fail
          go_ret
          exact ⟨by rw [HV.out]; rfl, HB3.out.bel⟩
        · have HV : Hid (rone p r 4 L = 4) := Lib.hid (by simp [rone, kA, kB, hA, hB, ← hv, h0])
          have hv2 : (0 : Int) < v := by omega
          clear hv hA hB
          go_enter Tryd.func28, Tryd.ntmps28
          go_wp2_with fail
          go_at_call 44
          refine (HTA.out _ HB.out.bel).mono ?_
          rintro e w1 ⟨rfl, hb1⟩
          have HB1 := Lib.hid (HB.out.keep hb1)
          clear hb1 b0 b1 b2 b3 lb
          obtain ⟨⟨b0, b1, b2, b3⟩, lb⟩ := HB1.out.cells
          go_wp2_with fail
          go_at_call 44
          refine (HTB.out _ HB1.out.bel).mono ?_
          rintro e w2 ⟨rfl, hb2⟩
          have HB2 := Lib.hid (HB1.out.keep hb2)
          clear hb2 b0 b1 b2 b3 lb
          obtain ⟨⟨b0, b1, b2, b3⟩, lb⟩ := HB2.out.cells
          go_wp2_with fail
          go_at_call 45
          refine (HMT.out _ HB2.out.bel).mono ?_
          rintro e w3 ⟨rfl, hb3⟩
          have HB3 := Lib.hid (HB2.out.keep hb3)
          clear hb3 b0 b1 b2 b3 lb
          obtain ⟨⟨b0, b1, b2, b3⟩, lb⟩ := HB3.out.cells
          go_wp2_with fail
          go_ret
          exact ⟨by rw [HV.out]; rfl, HB3.out.bel⟩
  · have HTA := Lib.hid (HT.out 0 2 (.inl rfl))
    have HTB := Lib.hid (HT.out 1 1 (.inr rfl))
    have HMT := Lib.hid (HM.out 5)
    cases hA : tld p 0 2 L with
    | false =>
      have HV : Hid (rone p r 5 L = 3) := Lib.hid (by simp [rone, kA, kB, hA])
      rw [hA] at HTA
      clear hA
      go_enter Tryd.func28, Tryd.ntmps28
      go_wp2_with fail
      go_at_call 44
      refine (HTA.out _ HB.out.bel).mono ?_
      rintro e w1 ⟨rfl, hb1⟩
      have HB1 := Lib.hid (HB.out.keep hb1)
      clear hb1 b0 b1 b2 b3 lb
      obtain ⟨⟨b0, b1, b2, b3⟩, lb⟩ := HB1.out.cells
      go_wp2_with fail
      go_ret
      exact ⟨by rw [HV.out]; rfl, HB1.out.bel⟩
    | true =>
      rw [hA] at HTA
      cases hB : tld p 1 1 L with
      | false =>
        have HV : Hid (rone p r 5 L = 3) := Lib.hid (by simp [rone, kA, kB, hA, hB])
        rw [hB] at HTB
        clear hA hB
        go_enter Tryd.func28, Tryd.ntmps28
        go_wp2_with fail
        go_at_call 44
        refine (HTA.out _ HB.out.bel).mono ?_
        rintro e w1 ⟨rfl, hb1⟩
        have HB1 := Lib.hid (HB.out.keep hb1)
        clear hb1 b0 b1 b2 b3 lb
        obtain ⟨⟨b0, b1, b2, b3⟩, lb⟩ := HB1.out.cells
        go_wp2_with fail
        go_at_call 44
        refine (HTB.out _ HB1.out.bel).mono ?_
        rintro e w2 ⟨rfl, hb2⟩
        have HB2 := Lib.hid (HB1.out.keep hb2)
        clear hb2 b0 b1 b2 b3 lb
        obtain ⟨⟨b0, b1, b2, b3⟩, lb⟩ := HB2.out.cells
        go_wp2_with fail
        go_ret
        exact ⟨by rw [HV.out]; rfl, HB2.out.bel⟩
      | true =>
        rw [hB] at HTB
        obtain ⟨v, hv⟩ : ∃ v, v = met 2 5 L := ⟨_, rfl⟩
        rw [← hv] at HMT
        rcases Nat.eq_zero_or_pos v with h0 | h0
        · have HV : Hid (rone p r 5 L = 0) := Lib.hid (by simp [rone, kA, kB, hA, hB, ← hv, h0])
          clear hv hA hB
          subst h0
          rw [natZero] at HMT
          go_enter Tryd.func28, Tryd.ntmps28
          go_wp2_with fail
          go_at_call 44
          refine (HTA.out _ HB.out.bel).mono ?_
          rintro e w1 ⟨rfl, hb1⟩
          have HB1 := Lib.hid (HB.out.keep hb1)
          clear hb1 b0 b1 b2 b3 lb
          obtain ⟨⟨b0, b1, b2, b3⟩, lb⟩ := HB1.out.cells
          go_wp2_with fail
          go_at_call 44
          refine (HTB.out _ HB1.out.bel).mono ?_
          rintro e w2 ⟨rfl, hb2⟩
          have HB2 := Lib.hid (HB1.out.keep hb2)
          clear hb2 b0 b1 b2 b3 lb
          obtain ⟨⟨b0, b1, b2, b3⟩, lb⟩ := HB2.out.cells
          go_wp2_with fail
          go_at_call 45
          refine (HMT.out _ HB2.out.bel).mono ?_
          rintro e w3 ⟨rfl, hb3⟩
          have HB3 := Lib.hid (HB2.out.keep hb3)
          clear hb3 b0 b1 b2 b3 lb
          obtain ⟨⟨b0, b1, b2, b3⟩, lb⟩ := HB3.out.cells
          go_wp2_with fail
          go_ret
          exact ⟨by rw [HV.out]; rfl, HB3.out.bel⟩
        · have HV : Hid (rone p r 5 L = 4) := Lib.hid (by simp [rone, kA, kB, hA, hB, ← hv, h0])
          have hv2 : (0 : Int) < v := by omega
          clear hv hA hB
          go_enter Tryd.func28, Tryd.ntmps28
          go_wp2_with fail
          go_at_call 44
          refine (HTA.out _ HB.out.bel).mono ?_
          rintro e w1 ⟨rfl, hb1⟩
          have HB1 := Lib.hid (HB.out.keep hb1)
          clear hb1 b0 b1 b2 b3 lb
          obtain ⟨⟨b0, b1, b2, b3⟩, lb⟩ := HB1.out.cells
          go_wp2_with fail
          go_at_call 44
          refine (HTB.out _ HB1.out.bel).mono ?_
          rintro e w2 ⟨rfl, hb2⟩
          have HB2 := Lib.hid (HB1.out.keep hb2)
          clear hb2 b0 b1 b2 b3 lb
          obtain ⟨⟨b0, b1, b2, b3⟩, lb⟩ := HB2.out.cells
          go_wp2_with fail
          go_at_call 45
          refine (HMT.out _ HB2.out.bel).mono ?_
          rintro e w3 ⟨rfl, hb3⟩
          have HB3 := Lib.hid (HB2.out.keep hb3)
          clear hb3 b0 b1 b2 b3 lb
          obtain ⟨⟨b0, b1, b2, b3⟩, lb⟩ := HB3.out.cells
          go_wp2_with fail
          go_ret
          exact ⟨by rw [HV.out]; rfl, HB3.out.bel⟩
  · have HTA := Lib.hid (HT.out 0 2 (.inl rfl))
    have HTB := Lib.hid (HT.out 1 2 (.inr rfl))
    have HMT := Lib.hid (HM.out 6)
    cases hA : tld p 0 2 L with
    | false =>
      have HV : Hid (rone p r 6 L = 3) := Lib.hid (by simp [rone, kA, kB, hA])
      rw [hA] at HTA
      clear hA
      go_enter Tryd.func28, Tryd.ntmps28
      go_wp2_with fail
      go_at_call 44
      refine (HTA.out _ HB.out.bel).mono ?_
      rintro e w1 ⟨rfl, hb1⟩
      have HB1 := Lib.hid (HB.out.keep hb1)
      clear hb1 b0 b1 b2 b3 lb
      obtain ⟨⟨b0, b1, b2, b3⟩, lb⟩ := HB1.out.cells
      go_wp2_with fail
      go_ret
      exact ⟨by rw [HV.out]; rfl, HB1.out.bel⟩
    | true =>
      rw [hA] at HTA
      cases hB : tld p 1 2 L with
      | false =>
        have HV : Hid (rone p r 6 L = 3) := Lib.hid (by simp [rone, kA, kB, hA, hB])
        rw [hB] at HTB
        clear hA hB
        go_enter Tryd.func28, Tryd.ntmps28
        go_wp2_with fail
        go_at_call 44
        refine (HTA.out _ HB.out.bel).mono ?_
        rintro e w1 ⟨rfl, hb1⟩
        have HB1 := Lib.hid (HB.out.keep hb1)
        clear hb1 b0 b1 b2 b3 lb
        obtain ⟨⟨b0, b1, b2, b3⟩, lb⟩ := HB1.out.cells
        go_wp2_with fail
        go_at_call 44
        refine (HTB.out _ HB1.out.bel).mono ?_
        rintro e w2 ⟨rfl, hb2⟩
        have HB2 := Lib.hid (HB1.out.keep hb2)
        clear hb2 b0 b1 b2 b3 lb
        obtain ⟨⟨b0, b1, b2, b3⟩, lb⟩ := HB2.out.cells
        go_wp2_with fail
        go_ret
        exact ⟨by rw [HV.out]; rfl, HB2.out.bel⟩
      | true =>
        rw [hB] at HTB
        obtain ⟨v, hv⟩ : ∃ v, v = met 2 6 L := ⟨_, rfl⟩
        rw [← hv] at HMT
        rcases Nat.eq_zero_or_pos v with h0 | h0
        · have HV : Hid (rone p r 6 L = 0) := Lib.hid (by simp [rone, kA, kB, hA, hB, ← hv, h0])
          clear hv hA hB
          subst h0
          rw [natZero] at HMT
          go_enter Tryd.func28, Tryd.ntmps28
          go_wp2_with fail
          go_at_call 44
          refine (HTA.out _ HB.out.bel).mono ?_
          rintro e w1 ⟨rfl, hb1⟩
          have HB1 := Lib.hid (HB.out.keep hb1)
          clear hb1 b0 b1 b2 b3 lb
          obtain ⟨⟨b0, b1, b2, b3⟩, lb⟩ := HB1.out.cells
          go_wp2_with fail
          go_at_call 44
          refine (HTB.out _ HB1.out.bel).mono ?_
          rintro e w2 ⟨rfl, hb2⟩
          have HB2 := Lib.hid (HB1.out.keep hb2)
          clear hb2 b0 b1 b2 b3 lb
          obtain ⟨⟨b0, b1, b2, b3⟩, lb⟩ := HB2.out.cells
          go_wp2_with fail
          go_at_call 45
          refine (HMT.out _ HB2.out.bel).mono ?_
          rintro e w3 ⟨rfl, hb3⟩
          have HB3 := Lib.hid (HB2.out.keep hb3)
          clear hb3 b0 b1 b2 b3 lb
          obtain ⟨⟨b0, b1, b2, b3⟩, lb⟩ := HB3.out.cells
          go_wp2_with fail
          go_ret
          exact ⟨by rw [HV.out]; rfl, HB3.out.bel⟩
        · have HV : Hid (rone p r 6 L = 4) := Lib.hid (by simp [rone, kA, kB, hA, hB, ← hv, h0])
          have hv2 : (0 : Int) < v := by omega
          clear hv hA hB
          go_enter Tryd.func28, Tryd.ntmps28
          go_wp2_with fail
          go_at_call 44
          refine (HTA.out _ HB.out.bel).mono ?_
          rintro e w1 ⟨rfl, hb1⟩
          have HB1 := Lib.hid (HB.out.keep hb1)
          clear hb1 b0 b1 b2 b3 lb
          obtain ⟨⟨b0, b1, b2, b3⟩, lb⟩ := HB1.out.cells
          go_wp2_with fail
          go_at_call 44
          refine (HTB.out _ HB1.out.bel).mono ?_
          rintro e w2 ⟨rfl, hb2⟩
          have HB2 := Lib.hid (HB1.out.keep hb2)
          clear hb2 b0 b1 b2 b3 lb
          obtain ⟨⟨b0, b1, b2, b3⟩, lb⟩ := HB2.out.cells
          go_wp2_with fail
          go_at_call 45
          refine (HMT.out _ HB2.out.bel).mono ?_
          rintro e w3 ⟨rfl, hb3⟩
          have HB3 := Lib.hid (HB2.out.keep hb3)
          clear hb3 b0 b1 b2 b3 lb
          obtain ⟨⟨b0, b1, b2, b3⟩, lb⟩ := HB3.out.cells
          go_wp2_with fail
          go_ret
          exact ⟨by rw [HV.out]; rfl, HB3.out.bel⟩
  · have HV : Hid (rone p r 7 L = 0) := Lib.hid (by simp [rone])
    go_enter Tryd.func28, Tryd.ntmps28
    go_wp2_with fail
    go_ret
    exact ⟨by rw [HV.out]; rfl, HB.out.bel⟩
end Go.Proofs.YtahbbojhdkillaaDoor
