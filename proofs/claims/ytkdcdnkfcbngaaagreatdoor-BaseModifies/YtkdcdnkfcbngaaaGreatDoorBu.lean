/- Layer 6: the reference's Fallback. -/
import Derived.Test.YtkdcdnkfcbngaaaGreatDoorBi
import Derived.Test.YtkdcdnkfcbngaaaGreatDoorNd
namespace Go.Proofs.YtkdcdnkfcbngaaaGreatDoor
open Go.RowKit Go.Shelf

/-- A reference's pattern that came in, in its box, and the answer's box behind it. -/
structure Rb (w : World) (v0 v1 v2 v3 : Value) (wr : World) : Prop where
  pb : wr.heap[w.heap.size]? = some (.cells #[v0, v1, v2, v3] 38 (0, 0))
  res : wr.heap[w.heap.size + 1]? = some (.cells #[.string ⟨#[]⟩, .slice none 0 0, .slice none 0 0, .slice none 0 0] 38 (0, 0))
  bel : Below w.heap.size w wr
theorem Rb.keep {w : World} {v0 v1 v2 v3 : Value} {wr wx : World} (h : Rb w v0 v1 v2 v3 wr) (hb : Below wr.heap.size wr wx) : Rb w v0 v1 v2 v3 wx :=
  ⟨(hb.block _ (lt_of_heap h.pb)).trans h.pb, (hb.block _ (lt_of_heap h.res)).trans h.res, h.bel.trans (hb.mono h.bel.size)⟩
theorem rb_new (w : World) (v0 v1 v2 v3 : Value) : Rb w v0 v1 v2 v3 ((w.alloc (.cells #[v0, v1, v2, v3] 38)).alloc (.cells #[.string ⟨#[]⟩, .slice none 0 0, .slice none 0 0, .slice none 0 0] 38)) := by
  refine ⟨?_, ?_, ((Below.refl _ _).alloc (Nat.le_refl _) _).alloc (by simp) _⟩
  · rw [Below.heap_alloc _ _ _ (by simp)]; exact heap_alloc_new w _
  · have := heap_alloc_new (w.alloc (.cells #[v0, v1, v2, v3] 38)) (.cells #[.string ⟨#[]⟩, .slice none 0 0, .slice none 0 0, .slice none 0 0] 38)
    rwa [World.size_alloc] at this
/-- What is left, told beforehand, may be just if the message was E, S, or both. -/
theorem fall_right {p : Pt} (hr : right p = true) (h2 : 2 ≤ p.ms.length) : right ⟨p.nm, (p.ms.getD 0 default).t, p.p1, p.ms.drop 1⟩ = preB (p.ms.getD 0 default).t := by
  obtain ⟨hlen, _, htl⟩ := first_len hr
  have ht := (htl 0 (by omega)).1
  simp only [right, Bool.and_eq_true, decide_eq_true_eq] at hr
  obtain ⟨⟨⟨⟨⟨hn, h1⟩, h6⟩, h0⟩, hp1⟩, hm⟩ := hr
  have e1 : decide (1 ≤ (p.ms.drop 1).length) = true := by simp; omega
  have e2 : decide ((p.ms.drop 1).length ≤ 6) = true := by simp; omega
  have e3 : (p.ms.drop 1).all msOk = true := by
    rw [List.all_eq_true] at hm ⊢
    exact fun m hm' => hm m (List.mem_of_mem_drop hm')
  have e4 : decide ((p.ms.getD 0 default).t = []) = false := by
    rw [decide_eq_false_iff_not]; intro e; rw [e] at ht; simp at ht
  unfold right
  simp only [hn, e1, e2, hp1, e3, Bool.and_true, Bool.true_and]
  unfold preOk preB
  rw [e4]; rfl

theorem three {w w1 : World} {a1 a2 : Array Value} {t1 t2 : TypeId} {o3 : Obj} (hb : Below (((w.alloc (.cells a1 t1)).alloc (.cells a2 t2)).alloc o3).heap.size (((w.alloc (.cells a1 t1)).alloc (.cells a2 t2)).alloc o3) w1) :
    w1.heap[w.heap.size]? = some (.cells a1 t1 (0, 0)) ∧ w1.heap[w.heap.size + 1]? = some (.cells a2 t2 (0, 0)) ∧ Below w.heap.size w w1 := by
  refine ⟨?_, ?_, ?_⟩
  · rw [hb.block _ (by simp; omega), Below.heap_alloc _ _ _ (by simp; omega), Below.heap_alloc _ _ _ (by simp)]; exact heap_alloc_new w _
  · rw [hb.block _ (by simp), Below.heap_alloc _ _ _ (by simp)]
    have := heap_alloc_new (w.alloc (.cells a1 t1)) (.cells a2 t2)
    rwa [World.size_alloc] at this
  · have h : Below w.heap.size w (((w.alloc (.cells a1 t1)).alloc (.cells a2 t2)).alloc o3) := (((Below.refl _ _).alloc (Nat.le_refl _) _).alloc (by simp) _).alloc (by simp; omega) _
    exact h.trans (hb.mono h.size)

set_option maxRecDepth 100000 in
set_option maxHeartbeats 2000000 in
theorem rfall_any (x : Sl) (p : Pt) (w : World) (hp : PatA w x p) (hr : right p = true) : Calls Tryz.prog 13 #[patV x p] w fun e w' => ∃ y, e = .returned (.tuple #[patV y (fbP p), .int .i64 (fbE p)]) ∧ PatA w' y (fbP p) ∧ Below w.heap.size w w' := by
  obtain ⟨hlen, hpl, htl⟩ := first_len hr
  obtain ⟨g, o, hx2, hms⟩ := hp.im (by omega)
  obtain ⟨m0, sx, cx, m1, m2⟩ := hms 0 (by omega)
  obtain ⟨f, hfe⟩ : ∃ f, f = (p.ms.getD 0 default).fr := ⟨_, rfl⟩
  obtain ⟨t, hte⟩ : ∃ t, t = (p.ms.getD 0 default).t := ⟨_, rfl⟩
  rw [← hfe] at m0
  rw [← hte] at m1 m2
  simp only [Nat.zero_mul, Nat.add_zero] at m0 m1
  have lg := World.block_lt_of_cell? _ _ m0
  have l1 : (1 : Int) ≤ p.ms.length := by omega
  have l6 : (p.ms.length : Int) ≤ 6 := by omega
  have fb : fbOk p = (decide (f = 0) && preB t && decide (p.p0 = []) && decide (2 ≤ p.ms.length)) := by rw [hfe, hte]; rfl
  have HZ : Hid (fbOk p = false → fbP p = zP ∧ fbE p = 13) := Lib.hid (fun h => by unfold fbP fbE; rw [hr, h]; exact ⟨rfl, rfl⟩)
  have HY : Hid (fbOk p = true → fbP p = ⟨p.nm, t, p.p1, p.ms.drop 1⟩ ∧ fbE p = 0) := Lib.hid (fun h => by unfold fbP fbE; rw [hr, h, ← hte]; exact ⟨rfl, rfl⟩)
  have HFR := Lib.hid (fall_right hr)
  rw [← hte] at HFR
  have HMD : Hid (MsgsV w (some ⟨g, o + 2, none⟩) (p.ms.drop 1)) := Lib.hid (drop_msgs hms)
  have HM2 := Lib.hid m2
  have HP := Lib.hid hp
  have HTL : Hid (t.length ≤ 12) := Lib.hid (by rw [hte]; exact (htl 0 (by omega)).2)
  have HRN := Lib.hid (rb_new w (.string ⟨p.nm.toArray⟩) (.slice x.s0 p.p0.length x.c0) (.slice x.s1 p.p1.length x.c1) (.slice (some ⟨g, o, none⟩) p.ms.length x.c2))
  unfold patV
  rw [hx2]
  clear hms m2 hte hfe hpl
  have hcp := hp.cp
  by_cases h1 : f = 0
  · subst h1
    by_cases h3 : p.p0 = []
    · by_cases h4 : 2 ≤ p.ms.length
      · have HPQ : Hid (PatA w ⟨sx, cx, x.s1, x.c1, some ⟨g, o + 2, none⟩, x.c2 - 1⟩ ⟨p.nm, t, p.p1, p.ms.drop 1⟩) := Lib.hid ⟨HM2.out, hp.i1, HMD.out, by simp; omega⟩
        have hnl : p.nm.length ≤ 20 := by
          simp only [right, nameOk, Bool.and_eq_true, decide_eq_true_eq] at hr; exact hr.1.1.1.1.1.1.2
        have HRT := Lib.hid (fun wx (hb : Below w.heap.size w wx) => rright_any _ _ wx (HPQ.out.keep hb) (by simp only; omega) (by simp; omega))
        rw [HFR.out h4] at HRT
        simp only [patV, List.length_drop] at HRT
        have hc : ¬ x.c2 = 1 := by omega
        have hnz2 : (((p.ms.length - 1 : Nat) : Int) == 0) = false := by simp; omega
        have hnz : ((p.ms.length - 1 : Nat) == 0) = false := by simp; omega
        cases hb : preB t with
        | true =>
          rw [hb] at HRT
          obtain ⟨z1, z2⟩ := HY.out (by rw [fb, hb]; simp [h3, h4])
          rw [z1, z2]
          clear z1 z2 fb hr hlen htl h4 HFR HY HZ HMD HRN hnl hcp hp hx2 HP HM2 HTL
          obtain ⟨nm, p0, p1, ms⟩ := p
          simp only at h3 l1 l6 HRT HPQ hnz hnz2 ⊢
          subst h3
          simp only [List.length_nil]
          go_enter Tryz.func13, Tryz.ntmps13
          go_wp2_with (go_at_call 9; refine (HRT.out _ ((((Below.refl _ _).alloc (Nat.le_refl _) _).alloc (by simp) _).alloc (by simp; omega) _)).mono ?_; rintro e w1 ⟨rfl, hb1⟩; obtain ⟨hpb, hrs, hbw⟩ := three hb1; have HRS := Lib.hid hrs; have HBW := Lib.hid hbw; obtain ⟨a0, a1, a2, a3, -⟩ := box4c hpb; obtain ⟨r0, r1, r2, r3, y0, y1, y2, y3⟩ := box4c hrs; clear hpb hrs hbw hb1)
          refine bodyPost_ret (v := .tuple #[.agg #[.string ⟨nm.toArray⟩, .slice sx t.length cx, .slice x.s1 p1.length x.c1, .slice (some ⟨g, o + 2, none⟩) (ms.length - 1) (x.c2 - 1)], .int .i64 0]) (by rw [results_cell_tmp rfl]; go_simp) rfl ?_
          refine ⟨⟨sx, cx, x.s1, x.c1, some ⟨g, o + 2, none⟩, x.c2 - 1⟩, by simp [List.length_drop], (HPQ.out.keep HBW.out).other (noInt_res HRS.out) (set4_only w1 _ _ _ _ _), set4_below HBW.out (Nat.le_succ _) _ _ _ _⟩
        | false =>
          rw [hb] at HRT
          obtain ⟨z1, z2⟩ := HZ.out (by rw [fb, hb]; simp)
          rw [z1, z2]
          clear z1 z2 fb hr hlen htl h4 HFR HY HZ HMD HRN hnl hcp hp hx2 HP HM2 HTL
          obtain ⟨nm, p0, p1, ms⟩ := p
          simp only at h3 l1 l6 HRT HPQ hnz hnz2 ⊢
          subst h3
          simp only [List.length_nil]
          go_enter Tryz.func13, Tryz.ntmps13
          go_wp2_with (go_at_call 9; refine (HRT.out _ ((((Below.refl _ _).alloc (Nat.le_refl _) _).alloc (by simp) _).alloc (by simp; omega) _)).mono ?_; rintro e w1 ⟨rfl, hb1⟩; obtain ⟨hpb, hrs, hbw⟩ := three hb1; have HRS := Lib.hid hrs; have HBW := Lib.hid hbw; obtain ⟨a0, a1, a2, a3, -⟩ := box4c hpb; obtain ⟨r0, r1, r2, r3, y0, y1, y2, y3⟩ := box4c hrs; clear hpb hrs hbw hb1)
          refine bodyPost_ret (v := .tuple #[.agg #[.string ⟨#[]⟩, .slice none 0 0, .slice none 0 0, .slice none 0 0], .int .i64 13]) (by rw [results_cell_tmp rfl]; go_simp) rfl ?_
          exact ⟨nilS, rfl, patA_zero _, set4_below HBW.out (Nat.le_succ _) _ _ _ _⟩
      · have h4n : p.ms.length = 1 := by omega
        obtain ⟨z1, z2⟩ := HZ.out (by rw [fb]; simp [h4])
        rw [z1, z2]
        clear z1 z2 fb hr hlen htl h4 HFR HY HZ HMD HRN
        obtain ⟨nm, p0, p1, ms⟩ := p
        simp only at h3 h4n l1 l6 hcp ⊢
        subst h3
        have hz : ms.length - 1 = 0 := by omega
        have hzi : ((ms.length - 1 : Nat) == 0) = true := by rw [hz]; rfl
        have HH := Lib.hid h4n
        clear h4n hz hp hx2 hcp HP
        simp only [List.length_nil]
        by_cases hc : x.c2 = 1
        all_goals
          go_enter Tryz.func13, Tryz.ntmps13
          go_wp2_with fail
          all_goals
            refine bodyPost_ret (v := .tuple #[.agg #[.string ⟨#[]⟩, .slice none 0 0, .slice none 0 0, .slice none 0 0], .int .i64 13]) (by rw [results_cell_tmp rfl]; go_simp) rfl ?_
            exact ⟨nilS, rfl, patA_zero _, (((Below.refl _ _).alloc (Nat.le_refl _) _).alloc (by simp) _).alloc (by simp; omega) _⟩
    · have h3n : 0 < p.p0.length := List.length_pos_iff.2 h3
      obtain ⟨z1, z2⟩ := HZ.out (by rw [fb]; simp [h3])
      rw [z1, z2]
      clear z1 z2 fb h3 hr hlen htl hcp
      by_cases hc : x.c2 = 1
      all_goals
        go_enter Tryz.func13, Tryz.ntmps13
        go_wp2_with fail
        all_goals
          refine bodyPost_ret (v := .tuple #[.agg #[.string ⟨#[]⟩, .slice none 0 0, .slice none 0 0, .slice none 0 0], .int .i64 13]) (by rw [results_cell_tmp rfl]; go_simp) rfl ?_
          exact ⟨nilS, rfl, patA_zero _, (((Below.refl _ _).alloc (Nat.le_refl _) _).alloc (by simp) _).alloc (by simp; omega) _⟩
  · have h1b : (f == 0) = false := by simpa using h1
    have h1c : (f != 0) = true := by simpa using h1
    obtain ⟨z1, z2⟩ := HZ.out (by rw [fb]; simp [h1])
    rw [z1, z2]
    clear z1 z2 fb hr hlen htl hcp
    by_cases hc : x.c2 = 1
    all_goals
      go_enter Tryz.func13, Tryz.ntmps13
      go_wp2_with fail
      all_goals
        refine bodyPost_ret (v := .tuple #[.agg #[.string ⟨#[]⟩, .slice none 0 0, .slice none 0 0, .slice none 0 0], .int .i64 13]) (by rw [results_cell_tmp rfl]; go_simp) rfl ?_
        exact ⟨nilS, rfl, patA_zero _, (((Below.refl _ _).alloc (Nat.le_refl _) _).alloc (by simp) _).alloc (by simp; omega) _⟩
end Go.Proofs.YtkdcdnkfcbngaaaGreatDoor
