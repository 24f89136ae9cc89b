/- Layer 7: walks of brokenAtEnd, Check. -/
import Derived.Test.YtahbbojhdkillaaDoorCf
namespace Go.Proofs.YtahbbojhdkillaaDoor
open Go.RowKit Go.Shelf

set_option maxRecDepth 100000 in
set_option maxHeartbeats 1000000 in
theorem oneWay_any (x : Sl) (p : Pt) (w : World) : Calls Tryd.prog 43 #[patV x p] w fun e w' => e = .returned (.bool (decide ((p.ms.length : Int) = 1))) ∧ Below w.heap.size w w' := by
  unfold patV
  generalize p.ms.length = n
  go_enter Tryd.func43, Tryd.ntmps43
  go_wp2_with fail
  go_ret
  exact ⟨by simp only [Array.getD_eq_getD_getElem?]; rw [show ((n : Int) == 1) = decide ((n : Int) = 1) from by rw [Bool.eq_iff_iff]; simp]; rfl, (Below.refl _ _).alloc (Nat.le_refl _) _⟩

theorem rfin_one {p : Pt} {L : List Tk} (hk : rkey p L = true) (h : p.ms.length = 1) : rfin p L = sl p (p.ms.getD 0 default).fr L := by
  unfold rfin; rw [hk, if_neg (by decide), if_pos h]
theorem rfin_two {p : Pt} {L : List Tk} (hk : rkey p L = true) (h : p.ms.length ≠ 1) : rfin p L = if sl p 0 L = 0 then sl p 1 L else sl p 0 L := by
  unfold rfin; rw [hk, if_neg (by decide), if_neg h]
theorem rfin_no {p : Pt} {L : List Tk} (hk : rkey p L = false) : rfin p L = 7 := by unfold rfin; rw [hk]; rfl
set_option maxRecDepth 100000 in
set_option maxHeartbeats 4000000 in
theorem bae_any (x : Sl) (p : Pt) (f : Cs) (b : Nat) (L : List Tk) (hr : right p = true) (w : World) (hp : PatA w x p) (hk : Ky w) (hs : StV w b f) (hS : Sr p f L) : Calls Tryd.prog 42 #[.pointer (some ⟨b, 0, none⟩), patV x p] w fun e w' => e = .returned (.int .i64 (rfin p L)) ∧ Below w.heap.size w w' := by
  have HO := Lib.hid (fun wx => oneWay_any x p wx)
  have HKE := Lib.hid (fun wx (hb : Below w.heap.size w wx) => keyed_any b f wx (hk.keep hb) (hs.keep hb))
  rw [hS.kyd] at HKE
  have HBB := Lib.hid (fun r hr wx (hb : Below w.heap.size w wx) => bbs_any b f r hr wx (hk.keep hb) (hs.keep hb))
  have HSR := Lib.hid hS
  have hln : 1 ≤ p.ms.length ∧ p.ms.length ≤ 6 := by
    simp only [right, Bool.and_eq_true, decide_eq_true_eq] at hr; omega
  obtain ⟨s0, c0, s1, c1, s2, c2⟩ := x
  obtain ⟨g, o, hs2, hms⟩ := hp.im (by omega)
  simp only at hs2
  subst hs2
  obtain ⟨q0, -⟩ := hms 0 (by omega)
  simp only [Nat.zero_mul, Nat.add_zero] at q0
  have hfr : (p.ms.getD 0 default).fr = 0 ∨ (p.ms.getD 0 default).fr = 1 := (right_ms' hr (by rw [List.getD_eq_getElem?_getD, List.getElem?_eq_getElem (by omega)]; exact List.getElem_mem _)).1
  obtain ⟨f0, hf0⟩ : ∃ f0, f0 = (p.ms.getD 0 default).fr := ⟨_, rfl⟩
  rw [← hf0] at q0 hfr
  have HF0 := Lib.hid hf0
  have HFR := Lib.hid hfr
  have HB : Hid (Below w.heap.size w (w.alloc (.cells #[.string ⟨p.nm.toArray⟩, .slice s0 p.p0.length c0, .slice s1 p.p1.length c1, .slice (some ⟨g, o, none⟩) p.ms.length c2] 29))) := Lib.hid ((Below.refl _ _).alloc (Nat.le_refl _) _)
  have HBX := Lib.hid (heap_alloc_new w (.cells #[.string ⟨p.nm.toArray⟩, .slice s0 p.p0.length c0, .slice s1 p.p1.length c1, .slice (some ⟨g, o, none⟩) p.ms.length c2] 29))
  have q0' := (HB.out.cell (p := ⟨g, o, none⟩) (World.block_lt_of_cell? _ _ q0)).trans q0
  have HQ0 := Lib.hid q0'
  clear hS hk hs hp hms hf0 hfr hr q0 q0'
  unfold patV at HO ⊢
  simp only at HO ⊢
  cases hky : rkey p L with
  | false =>
    have HV : Hid (rfin p L = 7) := Lib.hid (rfin_no hky)
    rw [hky] at HKE
    clear hky
    go_enter Tryd.func42, Tryd.ntmps42
    go_wp2_with (go_at_call 59; refine (HKE.out _ HB.out).mono ?_; rintro e w1 ⟨rfl, rfl⟩)
    go_ret
    exact ⟨by rw [HV.out]; rfl, HB.out⟩
  | true =>
    have HY := Lib.hid hky
    rw [hky] at HKE
    clear hky
    obtain ⟨n, hn⟩ : ∃ n, n = p.ms.length := ⟨_, rfl⟩
    rw [← hn] at HO HB HBX HQ0 hln ⊢
    have HN := Lib.hid hn
    clear hn
    by_cases h1 : n = 1
    · have HV : Hid (rfin p L = sl p f0 L) := Lib.hid (by rw [rfin_one HY.out (by have := HN.out; omega), ← HF0.out])
      have HBF := Lib.hid (fun wx hb => HBB.out f0 HFR.out wx hb)
      rw [HSR.out.bbs HFR.out] at HBF
      obtain ⟨v, hv⟩ : ∃ v, v = sl p f0 L := ⟨_, rfl⟩
      rw [← hv] at HBF HV
      subst h1
      clear hv hln
      go_enter Tryd.func42, Tryd.ntmps42
      go_wp2_with (first
        | (go_at_call 59; refine (HKE.out _ HB.out).mono ?_; rintro e w1 ⟨rfl, rfl⟩)
        | (go_at_call 43; refine (HO.out _).mono ?_; rintro e w2 ⟨rfl, hb2⟩; rw [show decide (((1 : Nat) : Int) = 1) = true from rfl]; have HB2 := Lib.hid (HB.out.trans (hb2.mono HB.out.size)); obtain ⟨b0, b1, b2, b3, -⟩ := box4c ((hb2.block _ (lt_of_heap HBX.out)).trans HBX.out); have q2 := (hb2.cell (p := ⟨g, o, none⟩) (World.block_lt_of_cell? _ _ HQ0.out)).trans HQ0.out; clear hb2)
        | (go_at_call 58; refine (HBF.out _ HB2.out).mono ?_; rintro e w3 ⟨rfl, hb3⟩; have HB3 := Lib.hid (HB2.out.trans (hb3.mono HB2.out.size)); clear hb3))
      go_ret
      exact ⟨by rw [HV.out]; rfl, HB3.out⟩
    · have HV : Hid (rfin p L = if sl p 0 L = 0 then sl p 1 L else sl p 0 L) := Lib.hid (rfin_two HY.out (by have := HN.out; omega))
      have HBF := Lib.hid (fun wx hb => HBB.out 0 (.inl rfl) wx hb)
      have HBG := Lib.hid (fun wx hb => HBB.out 1 (.inr rfl) wx hb)
      rw [HSR.out.bbs (.inl rfl)] at HBF
      rw [HSR.out.bbs (.inr rfl)] at HBG
      obtain ⟨v, hv⟩ : ∃ v, v = sl p 0 L := ⟨_, rfl⟩
      obtain ⟨u, hu⟩ : ∃ u, u = sl p 1 L := ⟨_, rfl⟩
      rw [← hv] at HBF HV
      rw [← hu] at HBG HV
      have h1d : decide ((n : Int) = 1) = false := by simp; omega
      rw [h1d] at HO
      clear hv hu h1d h1 hln
      by_cases hz : v = 0
      · subst hz
        go_enter Tryd.func42, Tryd.ntmps42
        go_wp2_with (first
          | (go_at_call 59; refine (HKE.out _ HB.out).mono ?_; rintro e w1 ⟨rfl, rfl⟩)
          | (go_at_call 43; refine (HO.out _).mono ?_; rintro e w2 ⟨rfl, hb2⟩; have HB2 := Lib.hid (HB.out.trans (hb2.mono HB.out.size)); clear hb2)
          | (have _k := HB3; go_at_call 58; refine (HBG.out _ HB3.out).mono ?_; rintro e w4 ⟨rfl, hb4⟩; have HB4 := Lib.hid (HB3.out.trans (hb4.mono HB3.out.size)); clear hb4)
          | (go_at_call 58; refine (HBF.out _ HB2.out).mono ?_; rintro e w3 ⟨rfl, hb3⟩; have HB3 := Lib.hid (HB2.out.trans (hb3.mono HB2.out.size)); clear hb3))
        go_ret
        exact ⟨by rw [HV.out]; rfl, HB4.out⟩
      · have hzb : (v != 0) = true := by simpa using hz
        have HZ := Lib.hid hz
        clear hz
        go_enter Tryd.func42, Tryd.ntmps42
        go_wp2_with (first
          | (go_at_call 59; refine (HKE.out _ HB.out).mono ?_; rintro e w1 ⟨rfl, rfl⟩)
          | (go_at_call 43; refine (HO.out _).mono ?_; rintro e w2 ⟨rfl, hb2⟩; have HB2 := Lib.hid (HB.out.trans (hb2.mono HB.out.size)); clear hb2)
          | (go_at_call 58; refine (HBF.out _ HB2.out).mono ?_; rintro e w3 ⟨rfl, hb3⟩; have HB3 := Lib.hid (HB2.out.trans (hb3.mono HB2.out.size)); clear hb3))
        go_ret
        exact ⟨by rw [HV.out, if_neg HZ.out]; rfl, HB3.out⟩
end Go.Proofs.YtahbbojhdkillaaDoor
