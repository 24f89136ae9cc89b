/- Layer 6: the walk of Psk, of a later message. -/
import Derived.Test.YtjnijppghgemeaaDoorBm
namespace Go.Proofs.YtjnijppghgemeaaDoor
open Go.RowKit Go.Shelf

set_option maxRecDepth 100000 in
set_option maxHeartbeats 2000000 in
theorem psk_later (x : Sl) (p : Pt) (k : Nat) (hk : k < p.ms.length) (w : World) (hp : PatA w x p) (hr : right p = true) : Calls Tryd.prog 20 #[patV x p, .int .i64 (k + 1)] w fun e w' => ∃ y, e = .returned (.tuple #[patV y (pskP p (k + 1)), .int .i64 (pskE p (k + 1))]) ∧ PatA w' y (pskP p (k + 1)) ∧ Below w.heap.size w w' := by
  have HR := Lib.hid (fun wx (hb : Below w.heap.size w wx) => right_any x p wx (hp.keep hb))
  have HN := Lib.hid (pb_new w x p)
  rw [hr] at HR
  obtain ⟨hlen, hpl, htl⟩ := first_len hr
  have HCO := Lib.hid (fun wx (hb : Below w.heap.size w wx) => copyOf_any x p wx (hp.keep hb) (by omega) (by omega) (by omega) (fun i hi => by have := (htl i hi).2; omega))
  obtain ⟨t, ht⟩ : ∃ t, t = (p.ms.getD k default).t := ⟨_, rfl⟩
  have hT1 : 1 ≤ t.length ∧ t.length ≤ 12 := by rw [ht]; exact htl k (by omega)
  have HP : Hid (pskP p (k + 1) = (if t.length < 12 then ⟨p.nm, p.p0, p.p1, p.ms.set k ⟨(p.ms.getD k default).fr, t ++ [7]⟩⟩ else zP) ∧ pskE p (k + 1) = if t.length < 12 then 0 else 13) := Lib.hid (by
    have hI : pskI (k + 1) = k := by unfold pskI; omega
    have hok : pskOk p (k + 1) = decide (t.length < 12) := by
      unfold pskOk; rw [hI, ← ht]
      have e1 : decide ((0 : Int) ≤ (k + 1)) = true := by simp; try omega
      have e2 : decide (((k + 1) : Int) ≤ p.ms.length) = true := by simp; try omega
      rw [e1, e2]; rfl
    have hM : pskM p (k + 1) = ⟨(p.ms.getD k default).fr, t ++ [7]⟩ := by
      unfold pskM insT; rw [hI, ← ht]; first | rw [if_pos rfl] | rw [if_neg (by omega)]
    unfold pskP pskE
    rw [hr, hok, hI, hM]
    by_cases h : t.length < 12 <;> simp [h])
  have HT := Lib.hid ht
  have HLN := Lib.hid hlen
  have HT1 := Lib.hid hT1
  have hmx : max (k : Int) 0 = k := by omega
  have hk2 : (k : Int) < p.ms.length := by omega
  have hk6 : (k : Int) < 6 := by omega
  have hkn : ¬ ((k : Int) + 1 < 0) := by omega
  have hkm : ¬ ((p.ms.length : Int) < (k : Int) + 1) := by omega
  have hkz : ¬ ((k : Int) + 1 = 0) := by omega
  have HI := Lib.hid hk
  clear hp hr htl hpl ht hlen hT1
  unfold patV at *
  by_cases h12 : t.length = 12
  · have HPZ : Hid (pskP p (k + 1) = zP ∧ pskE p (k + 1) = 13) := Lib.hid (by rw [HP.out.1, HP.out.2, if_neg (by omega), if_neg (by omega)]; exact ⟨rfl, rfl⟩)
    rw [HPZ.out.1, HPZ.out.2]
    have h12i : ((t.length : Int) == 12) = true := by rw [h12]; rfl
    clear h12
    go_enter Tryd.func20, Tryd.ntmps20
    go_wp2_with (first
      | (go_at_call 34; refine (HR.out _ HN.out.bel).mono ?_; rintro e w1 ⟨rfl, hb1⟩; have HN1 := Lib.hid (HN.out.keep hb1); clear hb1; obtain ⟨a0, a1, a2, a3, -⟩ := box4c HN1.out.pb)
      | (go_at_call 35; refine (HCO.out _ HN1.out.bel).mono ?_; rintro e w2 ⟨v0, v1, vM, vs, rfl, ho2, hb2⟩; have HN2 := Lib.hid (HN1.out.keep hb2); have HO2 := Lib.hid ho2; clear hb2 ho2 a0 a1 a2 a3; obtain ⟨t0, d0, hv0⟩ := own_slice HO2.out.o0; obtain ⟨t1, d1, hv1⟩ := own_slice HO2.out.o1; obtain ⟨gM, cM, gT, cT, hvM, hvs, hct, hot⟩ := HO2.out.row HI.out HT.out HT1.out.1; subst hv0 hv1 hvM; have HVS := Lib.hid hvs; have HOT := Lib.hid hot; clear hvs hot; have lM := World.block_lt_of_cell? _ _ hct; have HLT := Lib.hid (HOT.out.lt gT rfl).2; obtain ⟨r0, r1, r2, r3, y0, y1, y2, y3⟩ := box4c HN2.out.res; have lr2 := lt_of_heap HN2.out.res))
    refine bodyPost_ret (v := .tuple #[.agg #[.string ⟨#[]⟩, .slice none 0 0, .slice none 0 0, .slice none 0 0], .int .i64 13]) (by rw [results_cell_tmp rfl]; go_simp) rfl ?_
    exact ⟨nilS, rfl, patA_zero _, (set4_below HN2.out.bel (Nat.le_succ _) _ _ _ _).alloc (set4_below HN2.out.bel (Nat.le_succ _) _ _ _ _).size _⟩
  · have HPY : Hid (pskP p (k + 1) = ⟨p.nm, p.p0, p.p1, p.ms.set k ⟨(p.ms.getD k default).fr, t ++ [7]⟩⟩ ∧ pskE p (k + 1) = 0) := Lib.hid (by have := HT1.out.2; rw [HP.out.1, HP.out.2, if_pos (by omega), if_pos (by omega)]; exact ⟨rfl, rfl⟩)
    rw [HPY.out.1, HPY.out.2]
    have h12i : ((t.length : Int) == 12) = false := by simp; omega
    clear h12
    go_enter Tryd.func20, Tryd.ntmps20
    go_wp2_with (first
      | (go_at_call 34; refine (HR.out _ HN.out.bel).mono ?_; rintro e w1 ⟨rfl, hb1⟩; have HN1 := Lib.hid (HN.out.keep hb1); clear hb1; obtain ⟨a0, a1, a2, a3, -⟩ := box4c HN1.out.pb)
      | (go_at_call 35; refine (HCO.out _ HN1.out.bel).mono ?_; rintro e w2 ⟨v0, v1, vM, vs, rfl, ho2, hb2⟩; have HN2 := Lib.hid (HN1.out.keep hb2); have HO2 := Lib.hid ho2; clear hb2 ho2 a0 a1 a2 a3; obtain ⟨t0, d0, hv0⟩ := own_slice HO2.out.o0; obtain ⟨t1, d1, hv1⟩ := own_slice HO2.out.o1; obtain ⟨gM, cM, gT, cT, hvM, hvs, hct, hot⟩ := HO2.out.row HI.out HT.out HT1.out.1; subst hv0 hv1 hvM; have HVS := Lib.hid hvs; have HOT := Lib.hid hot; clear hvs hot; have lM := World.block_lt_of_cell? _ _ hct; have HLT := Lib.hid (HOT.out.lt gT rfl).2; obtain ⟨r0, r1, r2, r3, y0, y1, y2, y3⟩ := box4c HN2.out.res; have lr2 := lt_of_heap HN2.out.res)
      | (go_at_call 36; refine (insert_end t gT cT (w2.heap.size + 1) _ _ (row_below HOT.out (((Below.refl _ _).alloc (Nat.le_refl _) _).alloc (by simp) _)) HT1.out.2 (new2 w2 _ _)).mono ?_; rintro e w5 ⟨gN, cN, rfl, hN, hI, hgr⟩; have H5 := Lib.hid (psk_all (nm := p.nm) (x := x) HN2.out HO2.out HI.out HVS.out hgr hN hI (by simp) cN (by have := HN1.out.bel.size; omega)); clear hN hI hgr r0 r1 r2 r3 y0 y1 y2 y3; obtain ⟨n1, n2, ⟨b0, b1, b2, b3⟩, hqM, hrM, ⟨r0, r1, r2, r3, y0, y1, y2, y3⟩, -⟩ := H5.out))
    refine bodyPost_ret (v := .tuple #[.agg #[.string ⟨p.nm.toArray⟩, .slice t0 p.p0.length d0, .slice t1 p.p1.length d1, .slice (some ⟨gM, 0, none⟩) p.ms.length cM], .int .i64 0]) (by rw [results_cell_tmp rfl]; go_simp) rfl ?_
    obtain ⟨-, -, -, -, -, -, hres, hbel, y, hy, hA⟩ := H5.out
    refine ⟨y, ?_, hA.other (noInt_res hres) (set4_only _ _ _ _ _ _), set4_below hbel (Nat.le_succ _) _ _ _ _⟩
    rw [hy]; rfl

theorem psk_any (x : Sl) (p : Pt) (n : Int) (w : World) (hp : PatA w x p) : Calls Tryd.prog 20 #[patV x p, .int .i64 n] w fun e w' => ∃ y, e = .returned (.tuple #[patV y (pskP p n), .int .i64 (pskE p n)]) ∧ PatA w' y (pskP p n) ∧ Below w.heap.size w w' := by
  cases hr : right p with
  | false =>
    refine (psk_bad x p n w hp hr).mono fun e w' ⟨he, hb⟩ => ⟨nilS, ?_⟩
    have : pskP p n = zP ∧ pskE p n = 1 := by unfold pskP pskE; rw [hr]; exact ⟨rfl, rfl⟩
    rw [this.1, this.2]; exact ⟨he, patA_zero _, hb⟩
  | true =>
    by_cases hn : n < 0 ∨ (p.ms.length : Int) < n
    · refine (psk_out x p n w hp hr hn).mono fun e w' ⟨he, hb⟩ => ⟨nilS, ?_⟩
      have hok : pskOk p n = false := by
        unfold pskOk
        rcases hn with h | h
        · rw [show decide ((0 : Int) ≤ n) = false by simpa using h]; rfl
        · rw [show decide (n ≤ (p.ms.length : Int)) = false by simpa using h]; simp
      have : pskP p n = zP ∧ pskE p n = 13 := by unfold pskP pskE; rw [hr, hok]; exact ⟨rfl, rfl⟩
      rw [this.1, this.2]; exact ⟨he, patA_zero _, hb⟩
    · by_cases hz : n = 0
      · subst hz; exact psk_zeroth x p w hp hr
      · obtain ⟨k, rfl⟩ : ∃ k : Nat, n = (k : Int) + 1 := ⟨(n - 1).toNat, by omega⟩
        exact psk_later x p k (by omega) w hp hr
end Go.Proofs.YtjnijppghgemeaaDoor
