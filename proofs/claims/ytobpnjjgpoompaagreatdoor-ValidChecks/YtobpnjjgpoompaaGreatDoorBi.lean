/- Layer 6: the walk of Fallback, where it falls back. -/
import Derived.Test.YtobpnjjgpoompaaGreatDoorBh
namespace Go.Proofs.YtobpnjjgpoompaaGreatDoor
open Go.RowKit Go.Shelf

/-- The rows of what falls back. -/
theorem drop_msgs {w : World} {g o : Nat} {ms : List Ms} (h : ∀ i, i < ms.length → msgAt w g (o + i * 2) (ms.getD i default)) : MsgsV w (some ⟨g, o + 2, none⟩) (ms.drop 1) := fun _ => ⟨g, o + 2, rfl, fun i hi => by
  have := h (i + 1) (by simp at hi; omega)
  have e : (ms.drop 1).getD i default = ms.getD (i + 1) default := by
    simp only [List.getD_eq_getElem?_getD, List.getElem?_drop]; rw [Nat.add_comm]
  rw [e, show o + 2 + i * 2 = o + (i + 1) * 2 by omega]; exact this⟩

set_option maxRecDepth 100000 in
set_option maxHeartbeats 4000000 in
theorem fallback_yes (x : Sl) (p : Pt) (w : World) (hp : PatA w x p) (hr : right p = true) (hf : fbOk p = true) : Calls Tryz.prog 65 #[patV x p] w fun e w' => ∃ v0 v1 vM vs, e = .returned (.tuple #[.agg #[.string ⟨p.nm.toArray⟩, v0, v1, vM], .int .i64 0]) ∧ Ow w' w.heap.size v0 v1 vM (p.ms.getD 0 default).t p.p1 (p.ms.drop 1) vs ∧ Below w.heap.size w w' := by
  have HR := Lib.hid (fun wx (hb : Below w.heap.size w wx) => right_any x p wx (hp.keep hb))
  have HN := Lib.hid (pb_new w x p)
  rw [hr] at HR
  obtain ⟨hlen, hpl, htl⟩ := first_len hr
  have hp2 := hp.im
  unfold patV at *
  obtain ⟨g, o, hx2, hms⟩ := hp2 (by omega)
  obtain ⟨m0, sx, cx, m1, m2⟩ := hms 0 (by omega)
  obtain ⟨f, hfe⟩ : ∃ f, f = (p.ms.getD 0 default).fr := ⟨_, rfl⟩
  obtain ⟨t, hte⟩ : ∃ t, t = (p.ms.getD 0 default).t := ⟨_, rfl⟩
  have htb : t.length ≤ 12 := by rw [hte]; exact (htl 0 (by omega)).2
  rw [← hfe] at m0
  rw [← hte] at m1 m2
  have HC := Lib.hid (fun wx (hb : Below w.heap.size w wx) => canBePre_any sx cx t wx (m2.keep hb) (by omega))
  simp only [Nat.zero_mul, Nat.add_zero] at m0 m1
  have HM : Hid (∀ wx, Below w.heap.size w wx → wx.cell? ⟨g, o, none⟩ = some (.int .i64 f) ∧ wx.cell? ⟨g, o + 1, none⟩ = some (.slice sx t.length cx)) := Lib.hid (fun wx hb => keep2 hb m0 m1)
  have l1 : (1 : Int) ≤ p.ms.length := by omega
  have l6 : (p.ms.length : Int) ≤ 6 := by omega
  have hcase : f = 0 ∧ preB t = true ∧ p.p0 = [] ∧ 2 ≤ p.ms.length := by
    have fb : fbOk p = (decide (f = 0) && preB t && decide (p.p0 = []) && decide (2 ≤ p.ms.length)) := by rw [hfe, hte]; rfl
    rw [hf] at fb
    simp only [eq_comm (a := true), Bool.and_eq_true, decide_eq_true_eq] at fb
    exact ⟨fb.1.1.1, fb.1.1.2, fb.1.2, fb.2⟩
  have HPQ : Hid (PatA w ⟨sx, cx, x.s1, x.c1, some ⟨g, o + 2, none⟩, x.c2 - 1⟩ ⟨p.nm, t, p.p1, p.ms.drop 1⟩) := Lib.hid ⟨m2, hp.i1, drop_msgs hms, by have := hp.cp; simp; omega⟩
  have HCO := Lib.hid (fun wx (hb : Below w.heap.size w wx) => copyOf_any ⟨sx, cx, x.s1, x.c1, some ⟨g, o + 2, none⟩, x.c2 - 1⟩ ⟨p.nm, t, p.p1, p.ms.drop 1⟩ wx (HPQ.out.keep hb) (by simp only; omega) (by simp only; omega) (by simp; omega) (fun i hi => by
    have e : (p.ms.drop 1).getD i default = p.ms.getD (i + 1) default := by
      simp only [List.getD_eq_getElem?_getD, List.getElem?_drop]; rw [Nat.add_comm]
    simp only at hi ⊢
    rw [e]; have := (htl (i + 1) (by simp at hi; omega)).2; omega))
  have HC1 : Hid (¬ x.c2 = 1) := Lib.hid (by have := hp.cp; omega)
  simp only [patV, List.length_drop] at HCO
  clear m0 m1 m2 hf hfe hp2 hlen htl hp hr hms htb hpl HPQ
  rw [← hte]
  clear hte
  obtain ⟨s0, c0, s1, c1, s2, c2⟩ := x
  obtain ⟨nm, p0, p1, ms⟩ := p
  simp only at hx2 HN HR HC1 HCO hcase l1 l6 ⊢
  subst hx2
  obtain ⟨rfl, h2, rfl, h4⟩ := hcase
  simp only [List.length_nil] at HN HR ⊢
  rw [h2] at HC
  have hnz : ((ms.length - 1 : Nat) == 0) = false := by simp; omega
  have hnz2 : (((ms.length - 1 : Nat) : Int) == 0) = false := by simp; omega
  clear h2
  have HH4 := Lib.hid h4
  clear h4
  go_enter Tryz.func65, Tryz.ntmps65
  go_wp2_with (go_at_call 23; refine (HR.out _ HN.out.bel).mono ?_; rintro e w1 ⟨rfl, hb1⟩; have HN1 := Lib.hid (HN.out.keep hb1); clear hb1; obtain ⟨a0, a1, a2, a3, -⟩ := box4c HN1.out.pb; obtain ⟨m0, m1⟩ := HM.out _ HN1.out.bel; have lp := lt_of_heap HN1.out.pb; have lr := lt_of_heap HN1.out.res; have lg := World.block_lt_of_cell? _ _ m0)
  go_region
  obtain ⟨HN2, HMB⟩ := mid_first HN1.out (0) sx t cx
  clear a0 a1 a2 a3 m0 m1 lp lr lg
  generalize (w1.alloc (.cells #[.int .i64 (0), .slice sx t.length cx] 46)).drew = W2 at *
  rw [if_neg HC1.out]
  obtain ⟨a0, a1, a2, a3, -⟩ := box4c HN2.out.pb
  obtain ⟨r0, r1, r2, r3, y0, y1, y2, y3⟩ := box4c HN2.out.res
  obtain ⟨b0, b1⟩ := box2c HMB.out

  go_wp2_with (first
    | (go_at_call 82; refine (HC.out _ HN2.out.bel).mono ?_; rintro e w3 ⟨rfl, hb3⟩; have HN3 := Lib.hid (HN2.out.keep hb3); have HMB3 := Lib.hid ((hb3.block _ (lt_of_heap HMB.out)).trans HMB.out); clear hb3 a0 a1 a2 a3 r0 r1 r2 r3 y0 y1 y2 y3 b0 b1; obtain ⟨a0, a1, a2, a3, -⟩ := box4c HN3.out.pb; obtain ⟨r0, r1, r2, r3, y0, y1, y2, y3⟩ := box4c HN3.out.res; obtain ⟨b0, b1⟩ := box2c HMB3.out; have lm3 := lt_of_heap HMB3.out; have lp3 := lt_of_heap HN3.out.pb; have lr3 := lt_of_heap HN3.out.res)
    | (go_at_call 31; refine (HCO.out _ (HN3.out.bel.alloc HN3.out.bel.size _)).mono ?_; rintro e w4 ⟨v0, v1, vM, vs, rfl, hw4, hb4⟩; have HN4 := Lib.hid (HN3.out.keep (((Below.refl _ _).alloc (Nat.le_refl _) _).trans (hb4.mono (by simp)))); have HW4 := Lib.hid hw4; have HL3 := Lib.hid HN3.out.bel.size; clear hb4 hw4 a0 a1 a2 a3 r0 r1 r2 r3 y0 y1 y2 y3 b0 b1 lm3 lp3 lr3; obtain ⟨r0, r1, r2, r3, y0, y1, y2, y3⟩ := box4c HN4.out.res; obtain ⟨t0, d0, hv0⟩ := own_slice HW4.out.o0; obtain ⟨t1, d1, hv1⟩ := own_slice HW4.out.o1; obtain ⟨t2, d2, hv2⟩ := own_slice HW4.out.om; obtain ⟨n2, hn2⟩ : ∃ n, n = (ms.drop 1).length := ⟨_, rfl⟩; rw [← hn2] at hv2; subst hv0 hv1 hv2; clear hn2))
  refine bodyPost_ret (v := .tuple #[.agg #[.string ⟨nm.toArray⟩, .slice t0 t.length d0, .slice t1 p1.length d1, .slice t2 n2 d2], .int .i64 0]) (by rw [results_cell_tmp rfl]; go_simp) rfl ?_
  refine ⟨_, _, _, vs, rfl, (HW4.out.only HN4.out.res (set4_only w4 _ _ _ _ _)).less ?_, set4_below HN4.out.bel (Nat.le_succ _) _ _ _ _⟩
  have := HL3.out; simp; omega

theorem fallback_any (x : Sl) (p : Pt) (w : World) (hp : PatA w x p) : Calls Tryz.prog 65 #[patV x p] w fun e w' => ∃ y, e = .returned (.tuple #[patV y (fbP p), .int .i64 (fbE p)]) ∧ PatA w' y (fbP p) ∧ Below w.heap.size w w' := by
  cases hr : right p with
  | false =>
    refine (fallback_bad x p w hp hr).mono fun e w' ⟨he, hb⟩ => ⟨nilS, ?_⟩
    have : fbP p = zP ∧ fbE p = 1 := by unfold fbP fbE; rw [hr]; exact ⟨rfl, rfl⟩
    rw [this.1, this.2]; exact ⟨he, patA_zero _, hb⟩
  | true =>
    cases hf : fbOk p with
    | false =>
      refine (fallback_no x p w hp hr hf).mono fun e w' ⟨he, hb⟩ => ⟨nilS, ?_⟩
      have : fbP p = zP ∧ fbE p = 13 := by unfold fbP fbE; rw [hr, hf]; exact ⟨rfl, rfl⟩
      rw [this.1, this.2]; exact ⟨he, patA_zero _, hb⟩
    | true =>
      refine (fallback_yes x p w hp hr hf).mono fun e w' ⟨v0, v1, vM, vs, he, ho, hb⟩ => ?_
      have : fbP p = ⟨p.nm, (p.ms.getD 0 default).t, p.p1, p.ms.drop 1⟩ ∧ fbE p = 0 := by unfold fbP fbE; rw [hr, hf]; exact ⟨rfl, rfl⟩
      rw [this.1, this.2]
      obtain ⟨y, hy, hA⟩ := ho.patA (nm := p.nm)
      exact ⟨y, by rw [he, hy], hA, hb⟩
end Go.Proofs.YtobpnjjgpoompaaGreatDoor
