/- Layer 5: the walk of the reference's Right. -/
import Derived.Test.YtahbbojhdkillaaDoorNc
namespace Go.Proofs.YtahbbojhdkillaaDoor
open Go.RowKit Go.Shelf

theorem right_name {p : Pt} (h : (p.nm.all fun c => nmOk c.toNat) = false) : right p = false := by
  have : nameOk p.nm = false := by unfold nameOk; rw [h]; simp
  simp [right, this]
theorem right_pre0 {p : Pt} (h : preOk p.p0 = false) : right p = false := by simp [right, h]
theorem right_pre1 {p : Pt} (h : preOk p.p1 = false) : right p = false := by simp [right, h]
theorem right_ms {p : Pt} {i : Nat} (hi : i < p.ms.length) (h : msOk (p.ms.getD i default) = false) : right p = false := by
  have := ms_not hi h
  simp [right, this]

set_option maxRecDepth 100000 in
set_option maxHeartbeats 8000000 in
theorem rright_any (x : Sl) (p : Pt) (w : World) (hp : PatA w x p) (hnl : p.nm.length ≤ 65536) (hml : p.ms.length ≤ 65536) : Calls Tryd.prog 17 #[patV x p] w fun e w' => e = .returned (.bool (right p)) ∧ Below w.heap.size w w' := by
  obtain ⟨s0, c0, s1, c1, s2, c2⟩ := x
  have HI0 := Lib.hid hp.i0
  have HI1 := Lib.hid hp.i1
  have HIM := Lib.hid hp.im
  clear hp
  unfold patV
  simp only at HI0 HI1 HIM ⊢
  obtain ⟨NB, hNB⟩ : ∃ NB : ByteArray, NB = ⟨p.nm.toArray⟩ := ⟨_, rfl⟩
  have HNB : Hid (NB.size = p.nm.length) := Lib.hid (by rw [hNB, arr_size])
  have HG : Hid (∀ i (h : i < NB.size) (h' : i < p.nm.length), NB[i] = p.nm[i]) := Lib.hid (by subst hNB; intro i h h'; rfl)
  obtain ⟨n, hn⟩ : ∃ n, n = p.ms.length := ⟨_, rfl⟩
  rw [← hNB, ← hn]
  have HN := Lib.hid hn
  have HW : Hid (Below w.heap.size w (w.alloc (.cells #[.string NB, .slice s0 p.p0.length c0, .slice s1 p.p1.length c1, .slice s2 n c2] 43))) := Lib.hid ((Below.refl _ _).alloc (Nat.le_refl _) _)
  have hn65 : (n : Int) ≤ 65536 := by omega
  have hs65 : (NB.size : Int) ≤ 65536 := by have := HNB.out; omega
  clear hNB hn hnl hml
  go_enter Tryd.func17, Tryd.ntmps17
  go_wp2_with fail
  have hbx := heap_alloc_new w (.cells #[.string NB, .slice s0 p.p0.length c0, .slice s1 p.p1.length c1, .slice s2 n c2] 43)
  have hk := box4 (w := w) (Below.refl _ (w.alloc (.cells #[.string NB, .slice s0 p.p0.length c0, .slice s1 p.p1.length c1, .slice s2 n c2] 43)))
  generalize w.alloc (.cells #[.string NB, .slice s0 p.p0.length c0, .slice s1 p.p1.length c1, .slice s2 n c2] 43) = W1 at *
  obtain ⟨k0, k1, k2, k3, -⟩ := hk
  have HBOX := Lib.hid hbx
  clear hbx
  go_loopg [3, 4] NB.size (fun q u3 _ wr => ∃ i : Nat, i + q = NB.size ∧ u3 = .int .i64 i ∧ Aside (((p.nm.take i).all fun c => nmOk c.toNat) = true) ∧ wr = W1)
  case atStart => exact ⟨0, by omega, rfl, rfl, rfl⟩
  case round =>
    obtain ⟨i, hiq, rfl, hall, rfl⟩ := hrel
    have HALL := Lib.hid hall.out
    clear hall
    by_cases hlt : i < NB.size
    · have hl : i < p.nm.length := by have := HNB.out; omega
      have hgi := HG.out i hlt hl
      obtain ⟨c, hc⟩ : ∃ c : Nat, c = (NB[i]'hlt).toNat := ⟨_, rfl⟩
      have hx : ∀ w, (Instr.index 9 (.string NB) (.int .i64 i)).run Tryd.prog w = .ok (.int .u8 c) w := fun w => by
        rw [run_index_string w _ _ _ _ Tryd.underlying9, dif_pos (by omega), hc]
        simp
      have HC := Lib.hid (hc.trans (by rw [hgi]))
      have hi2 : (i : Int) < NB.size := by omega
      clear hc hgi
      go_upto_region 5 with (fail)
      go_cut [49] (fun u49 wx => u49 = .bool (!nmOk c) ∧ wx = wr)
      case first =>
        go_wp2_with fail
        all_goals go_meet
        all_goals refine ⟨congrArg Value.bool ?_, rfl⟩
        all_goals (rw [Bool.eq_iff_iff]; simp [nmOk]; omega)
      case rest =>
        obtain ⟨rfl, rfl⟩ := hcut
        cases hok : nmOk c with
        | true =>
          have HOK := Lib.hid hok
          clear hok
          go_wp2_with fail
          go_roundg (NB.size - (i + 1))
          case measure => omega
          case rel => exact ⟨i + 1, by omega, by go_num, name_all hl HALL.out (by rw [← HC.out]; exact HOK.out), rfl⟩
        | false =>
          have HF : Hid (right p = false) := Lib.hid (right_name (by
            rw [List.all_eq_false]
            exact ⟨p.nm[i], List.getElem_mem hl, by rw [← HC.out, hok]; decide⟩))
          clear hok
          go_wp2_with fail
          go_ret
          exact ⟨by rw [HF.out]; rfl, HW.out⟩
    · have hi2 : ¬ (i : Int) < NB.size := by omega
      have HAN : Hid ((p.nm.all fun c => nmOk c.toNat) = true) := Lib.hid (by
        have h3 := HALL.out
        rw [List.take_of_length_le (by have := HNB.out; omega)] at h3
        exact h3)
      clear HALL
      go_wp2_with fail
      have HST : Hid (wr.heap[w.heap.size]? = some (.cells #[.string NB, .slice s0 p.p0.length c0, .slice s1 p.p1.length c1, .slice s2 n c2] 43 (0, 0)) ∧ Below w.heap.size w wr) := Lib.hid ⟨HBOX.out, HW.out⟩
      clear k0 k1 k2 k3 HW HBOX
      go_loopg [5, 6] 2 (fun q u5 _ wr => ∃ k : Nat, k + q = 2 ∧ u5 = .int .i64 k ∧ Aside (wr.heap[w.heap.size]? = some (.cells #[.string NB, .slice s0 p.p0.length c0, .slice s1 p.p1.length c1, .slice s2 n c2] 43 (0, 0)) ∧ Below w.heap.size w wr ∧ (1 ≤ k → preOk p.p0 = true) ∧ (2 ≤ k → preOk p.p1 = true)))
      case atStart => exact ⟨0, by omega, rfl, ⟨HST.out.1, HST.out.2, fun h => by omega, fun h => by omega⟩⟩
      case round =>
        obtain ⟨k, hkq, rfl, hr⟩ := hrel
        have HR := Lib.hid hr.out
        clear hr
        have hk3 : k = 0 ∨ k = 1 ∨ k = 2 := by omega
        rcases hk3 with rfl | rfl | rfl
        · have hc0 := HR.out.2.2
          obtain ⟨b0, b1, b2, b3, -, -, -, -⟩ := box4c HR.out.1
          go_upto_region 11 with (fail)
          go_cut [94] (fun u94 wx => u94 = .bool (!preOk p.p0) ∧ wx = wr)
          case first =>
            have HIK := Lib.hid (HI0.out.keep HR.out.2.1)
            generalize p.p0 = l0 at *
            rcases l0 with _ | ⟨a, _ | ⟨b, _ | ⟨d, r⟩⟩⟩
            · go_wp2_with fail
              go_meet
              exact ⟨rfl, rfl⟩
            · obtain ⟨g, o, hs, hi⟩ := HIK.out (by simp)
              subst hs
              have h0 : wr.cell? ⟨g, o, none⟩ = some (.int .i64 a) := hi 0 (by simp)
              clear hi
              by_cases a1 : a = 1
              · subst a1
                go_wp2_with fail
                go_meet
                exact ⟨rfl, rfl⟩
              · by_cases a2 : a = 2
                · subst a2
                  go_wp2_with fail
                  go_meet
                  exact ⟨rfl, rfl⟩
                · have n1 : (a != 1) = true := by simpa using a1
                  have n2 : (a != 2) = true := by simpa using a2
                  have HD : Hid (preOk [a] = false) := Lib.hid (by simp [preOk, a1, a2])
                  clear a1 a2
                  go_wp2_with fail
                  go_meet
                  exact ⟨by rw [HD.out]; rfl, rfl⟩
            · obtain ⟨g, o, hs, hi⟩ := HIK.out (by simp)
              subst hs
              have h0 : wr.cell? ⟨g, o, none⟩ = some (.int .i64 a) := hi 0 (by simp)
              have h1 : wr.cell? ⟨g, o + 1, none⟩ = some (.int .i64 b) := hi 1 (by simp)
              clear hi
              by_cases a1 : a = 1
              · subst a1
                by_cases a2 : b = 2
                · subst a2
                  go_wp2_with fail
                  go_meet
                  exact ⟨rfl, rfl⟩
                · have n2 : (b != 2) = true := by simpa using a2
                  have HD : Hid (preOk [1, b] = false) := Lib.hid (by simp [preOk, a2])
                  clear a2
                  go_wp2_with fail
                  go_meet
                  exact ⟨by rw [HD.out]; rfl, rfl⟩
              · have n1 : (a != 1) = true := by simpa using a1
                have HD : Hid (preOk [a, b] = false) := Lib.hid (by simp [preOk, a1])
                clear a1
                go_wp2_with fail
                go_meet
                exact ⟨by rw [HD.out]; rfl, rfl⟩
            · have HD : Hid (preOk (a :: b :: d :: r) = false) := Lib.hid (by simp [preOk])
              have hl : (2 : Int) < ((a :: b :: d :: r).length : Nat) := by simp; omega
              generalize (a :: b :: d :: r).length = n9 at *
              go_wp2_with fail
              go_meet
              exact ⟨by rw [HD.out]; rfl, rfl⟩
          case rest =>
            obtain ⟨rfl, rfl⟩ := hcut
            cases hok : preOk p.p0 with
            | true =>
              have HOK := Lib.hid hok
              clear hok
              go_wp2_with fail
              go_roundg 1
              case measure => omega
              case rel => exact ⟨1, by omega, rfl, ⟨HR.out.1, HR.out.2.1, fun _ => HOK.out, fun h => by omega⟩⟩
            | false =>
              have HF : Hid (right p = false) := Lib.hid (right_pre0 hok)
              clear hok
              go_wp2_with fail
              go_ret
              exact ⟨by rw [HF.out]; rfl, HR.out.2.1⟩
        · have hc0 := HR.out.2.2
          obtain ⟨b0, b1, b2, b3, -, -, -, -⟩ := box4c HR.out.1
          go_upto_region 11 with (fail)
          go_cut [94] (fun u94 wx => u94 = .bool (!preOk p.p1) ∧ wx = wr)
          case first =>
            have HIK := Lib.hid (HI1.out.keep HR.out.2.1)
            generalize p.p1 = l0 at *
            rcases l0 with _ | ⟨a, _ | ⟨b, _ | ⟨d, r⟩⟩⟩
            · go_wp2_with fail
              go_meet
              exact ⟨rfl, rfl⟩
            · obtain ⟨g, o, hs, hi⟩ := HIK.out (by simp)
              subst hs
              have h0 : wr.cell? ⟨g, o, none⟩ = some (.int .i64 a) := hi 0 (by simp)
              clear hi
              by_cases a1 : a = 1
              · subst a1
                go_wp2_with fail
                go_meet
                exact ⟨rfl, rfl⟩
              · by_cases a2 : a = 2
                · subst a2
                  go_wp2_with fail
                  go_meet
                  exact ⟨rfl, rfl⟩
                · have n1 : (a != 1) = true := by simpa using a1
                  have n2 : (a != 2) = true := by simpa using a2
                  have HD : Hid (preOk [a] = false) := Lib.hid (by simp [preOk, a1, a2])
                  clear a1 a2
                  go_wp2_with fail
                  go_meet
                  exact ⟨by rw [HD.out]; rfl, rfl⟩
            · obtain ⟨g, o, hs, hi⟩ := HIK.out (by simp)
              subst hs
              have h0 : wr.cell? ⟨g, o, none⟩ = some (.int .i64 a) := hi 0 (by simp)
              have h1 : wr.cell? ⟨g, o + 1, none⟩ = some (.int .i64 b) := hi 1 (by simp)
              clear hi
              by_cases a1 : a = 1
              · subst a1
                by_cases a2 : b = 2
                · subst a2
                  go_wp2_with fail
                  go_meet
                  exact ⟨rfl, rfl⟩
                · have n2 : (b != 2) = true := by simpa using a2
                  have HD : Hid (preOk [1, b] = false) := Lib.hid (by simp [preOk, a2])
                  clear a2
                  go_wp2_with fail
                  go_meet
                  exact ⟨by rw [HD.out]; rfl, rfl⟩
              · have n1 : (a != 1) = true := by simpa using a1
                have HD : Hid (preOk [a, b] = false) := Lib.hid (by simp [preOk, a1])
                clear a1
                go_wp2_with fail
                go_meet
                exact ⟨by rw [HD.out]; rfl, rfl⟩
            · have HD : Hid (preOk (a :: b :: d :: r) = false) := Lib.hid (by simp [preOk])
              have hl : (2 : Int) < ((a :: b :: d :: r).length : Nat) := by simp; omega
              generalize (a :: b :: d :: r).length = n9 at *
              go_wp2_with fail
              go_meet
              exact ⟨by rw [HD.out]; rfl, rfl⟩
          case rest =>
            obtain ⟨rfl, rfl⟩ := hcut
            cases hok : preOk p.p1 with
            | true =>
              have HOK := Lib.hid hok
              clear hok
              go_wp2_with fail
              go_roundg 0
              case measure => omega
              case rel => exact ⟨2, by omega, rfl, ⟨HR.out.1, HR.out.2.1, fun _ => HR.out.2.2.1 (by omega), fun _ => HOK.out⟩⟩
            | false =>
              have HF : Hid (right p = false) := Lib.hid (right_pre1 hok)
              clear hok
              go_wp2_with fail
              go_ret
              exact ⟨by rw [HF.out]; rfl, HR.out.2.1⟩
        · have HP0 := Lib.hid (HR.out.2.2.1 (by omega))
          have HP1 := Lib.hid (HR.out.2.2.2 (by omega))
          have HST3 : Hid (wr.heap[w.heap.size]? = some (.cells #[.string NB, .slice s0 p.p0.length c0, .slice s1 p.p1.length c1, .slice s2 n c2] 43 (0, 0)) ∧ Below w.heap.size w wr) := Lib.hid ⟨HR.out.1, HR.out.2.1⟩
          clear HR HST
          go_wp2_with fail
          go_loopg [7, 8, 9] n (fun q u7 _ _ wr => ∃ i : Nat, i + q = n ∧ u7 = .int .i64 i ∧ Aside ((wr.heap[w.heap.size]? = some (.cells #[.string NB, .slice s0 p.p0.length c0, .slice s1 p.p1.length c1, .slice s2 n c2] 43 (0, 0)) ∧ Below w.heap.size w wr) ∧ (p.ms.take i).all msOk = true))
          case atStart => exact ⟨0, by omega, rfl, ⟨HST3.out, rfl⟩⟩
          case round =>
            obtain ⟨i, hiq, rfl, hr⟩ := hrel
            have HR3 := Lib.hid hr.out
            clear hr
            obtain ⟨b0, b1, b2, b3, -, -, -, -⟩ := box4c HR3.out.1.1
            have lb := lt_of_heap HR3.out.1.1
            by_cases hlt : i < n
            · obtain ⟨g, o, hs2, hia⟩ := (HIM.out.keep HR3.out.1.2) (by have := HN.out; omega)
              subst hs2
              obtain ⟨q0, sx, cx, q1, qi⟩ := hia i (by have := HN.out; omega)
              clear hia
              obtain ⟨f, hf⟩ : ∃ f, f = (p.ms.getD i default).fr := ⟨_, rfl⟩
              obtain ⟨t, ht⟩ : ∃ t, t = (p.ms.getD i default).t := ⟨_, rfl⟩
              rw [← hf] at q0
              rw [← ht] at q1 qi
              have HX : Hid (p.ms.getD i default = ⟨f, t⟩) := Lib.hid (by rw [hf, ht])
              have QI := Lib.hid qi
              clear hf ht qi
              have hi2 : (i : Int) < n := by omega
              have HBA : Hid (Below wr.heap.size wr (wr.alloc (.cells #[.int .i64 f, .slice sx t.length cx] 70))) := Lib.hid ((Below.refl _ _).alloc (Nat.le_refl _) _)
              have HNO : Hid (msOk ⟨f, t⟩ = false → right p = false ∧ Below w.heap.size w (wr.alloc (.cells #[.int .i64 f, .slice sx t.length cx] 70))) := Lib.hid (fun h => ⟨right_ms (i := i) (by have := HN.out; omega) (by rw [HX.out]; exact h), HR3.out.1.2.trans (HBA.out.mono HR3.out.1.2.size)⟩)
              by_cases hff : f = 0 ∨ f = 1
              · rcases Nat.lt_or_ge t.length 1 with h1 | h1
                · have HF := Lib.hid (HNO.out (by simp [msOk]; omega))
                  have d1 : (t.length : Int) < 1 := by omega
                  clear h1 HNO
                  rcases hff with rfl | rfl
                  all_goals
                    go_wp2_with fail
                    go_ret
                    exact ⟨by rw [HF.out.1]; rfl, HF.out.2⟩
                · rcases Nat.lt_or_ge 12 t.length with h12 | h12
                  · have HF := Lib.hid (HNO.out (by simp [msOk]; omega))
                    have d1 : ¬ (t.length : Int) < 1 := by omega
                    have d2 : (12 : Int) < t.length := by omega
                    clear h1 h12 HNO
                    rcases hff with rfl | rfl
                    all_goals
                      go_wp2_with fail
                      go_ret
                      exact ⟨by rw [HF.out.1]; rfl, HF.out.2⟩
                  · have d1 : ¬ (t.length : Int) < 1 := by omega
                    have d2 : ¬ (12 : Int) < t.length := by omega
                    have HMO : Hid (msOk ⟨f, t⟩ = t.all isTok) := Lib.hid (by rcases hff with rfl | rfl <;> simp [msOk, h1, h12])
                    have HST4 : Hid ((wr.alloc (.cells #[.int .i64 f, .slice sx t.length cx] 70)).heap[wr.heap.size]? = some (.cells #[.int .i64 f, .slice sx t.length cx] 70 (0, 0)) ∧ Below wr.heap.size wr (wr.alloc (.cells #[.int .i64 f, .slice sx t.length cx] 70))) := Lib.hid ⟨heap_alloc_new wr _, HBA.out⟩
                    obtain ⟨V, hV⟩ : ∃ V : World, V = wr := ⟨_, rfl⟩
                    rw [← hV] at HST4 HBA
                    have HV := Lib.hid hV
                    clear h1 h12 hV
                    have hfc : (f != 0) = false ∨ ((f != 0) = true ∧ (f != 1) = false) := by
                      rcases hff with rfl | rfl
                      · exact .inl rfl
                      · exact .inr ⟨rfl, rfl⟩
                    clear hff
                    rcases hfc with fz | ⟨fz, fo⟩
                    all_goals
                      go_wp2_with fail
                      clear b0 b1 b2 b3 q0 q1 lb
                      go_loopg [9] t.length (fun q u9 wr => ∃ j : Nat, j + q = t.length ∧ u9 = .int .i64 j ∧ Aside ((wr.heap[V.heap.size]? = some (.cells #[.int .i64 f, .slice sx t.length cx] 70 (0, 0)) ∧ Below V.heap.size V wr) ∧ (t.take j).all isTok = true))
                      case atStart => exact ⟨0, by omega, rfl, ⟨by rw [HV.out] at HST4 ⊢; exact HST4.out, rfl⟩⟩
                      case round =>
                        obtain ⟨j, hjq, rfl, hr⟩ := hrel
                        have HR4 := Lib.hid hr.out
                        clear hr
                        have x0 : wr.cell? ⟨V.heap.size, 0, none⟩ = some (.int .i64 f) := (cell_of_row wr _ 0 _ _ _ HR4.out.1.1).trans rfl
                        have x1 : wr.cell? ⟨V.heap.size, 1, none⟩ = some (.slice sx t.length cx) := (cell_of_row wr _ 1 _ _ _ HR4.out.1.1).trans rfl
                        rw [HV.out] at x0 x1
                        by_cases hjt : j < t.length
                        · obtain ⟨gt, ot, hst, hit⟩ := (QI.out.keep (by rw [← HV.out]; exact HR4.out.1.2)) (by omega)
                          subst hst
                          have y0 := hit j hjt
                          clear hit
                          obtain ⟨z, hz⟩ : ∃ z, z = t.getD j 0 := ⟨_, rfl⟩
                          rw [← hz] at y0
                          have HZ := Lib.hid hz
                          clear hz
                          have hj2 : (j : Int) < t.length := by omega
                          cases hk : isTok z with
                          | true =>
                            have HK := Lib.hid hk
                            obtain ⟨NN, hNN⟩ : ∃ NN : ByteArray, NN = ⟨(nmT z).toArray⟩ := ⟨_, rfl⟩
                            have hq : (NN.toList == [63]) = false := by
                              rw [hNN, ByteArray.toList_eq]
                              rcases tok_cases hk with rfl | rfl | rfl | rfl | rfl | rfl | rfl <;> rfl
                            have HNM := Lib.hid (rname_any z wr)
                            rw [← hNN] at HNM
                            clear hk hNN
                            go_wp2_with (go_at_call 27; refine HNM.out.mono ?_; rintro e w5 ⟨rfl, rfl⟩)
                            go_roundg (t.length - (j + 1))
                            case measure => omega
                            case rel => exact ⟨j + 1, by omega, by go_num, ⟨HR4.out.1, take_all hjt HR4.out.2 (by rw [← HZ.out]; exact HK.out)⟩⟩
                          | false =>
                            have HNM := Lib.hid (rname_any z wr)
                            have hnm : nmT z = [63] := by unfold nmT; rw [hk]; rfl
                            rw [hnm] at HNM
                            have HF := Lib.hid (HNO.out (by rw [HMO.out]; exact all_not hjt (by rw [← HZ.out]; exact hk)))
                            clear hk hnm
                            go_wp2_with (go_at_call 27; refine HNM.out.mono ?_; rintro e w5 ⟨rfl, rfl⟩)
                            go_ret
                            exact ⟨by rw [HF.out.1]; rfl, HR3.out.1.2.trans ((by rw [← HV.out]; exact HR4.out.1.2 : Below _ _ wr).mono HR3.out.1.2.size)⟩
                        · have hj2 : ¬ (j : Int) < t.length := by omega
                          have HAT : Hid (msOk (p.ms.getD i default) = true) := Lib.hid (by
                            have h3 := HR4.out.2
                            rw [List.take_of_length_le (by omega)] at h3
                            rw [HX.out, HMO.out]; exact h3)
                          have HWN : Hid ((wr.heap[w.heap.size]? = some (.cells #[.string NB, .slice s0 p.p0.length c0, .slice s1 p.p1.length c1, .slice (some ⟨g, o, none⟩) n c2] 43 (0, 0))) ∧ Below w.heap.size w wr) := Lib.hid (by
                            have hb := HR4.out.1.2
                            rw [HV.out] at hb
                            exact ⟨(hb.block _ (lt_of_heap HR3.out.1.1)).trans HR3.out.1.1, HR3.out.1.2.trans (hb.mono HR3.out.1.2.size)⟩)
                          go_wp2_with fail
                          go_roundg (n - (i + 1))
                          case measure => omega
                          case rel => exact ⟨i + 1, by omega, by go_num, ⟨HWN.out, ms_all (by have := HN.out; omega) HR3.out.2 HAT.out⟩⟩
              · have f0 : (f != 0) = true := by simp; omega
                have f1 : (f != 1) = true := by simp; omega
                have HF := Lib.hid (HNO.out (by simp [msOk]; omega))
                clear hff HNO
                go_wp2_with fail
                go_ret
                exact ⟨by rw [HF.out.1]; rfl, HF.out.2⟩
            · have hi2 : ¬ (i : Int) < n := by omega
              have HRF : Hid (right p = (decide ((1 : Int) ≤ NB.size) && decide ((NB.size : Int) ≤ 20) && decide ((1 : Int) ≤ n) && decide ((n : Int) ≤ 6))) := Lib.hid (by
                have hal := HR3.out.2
                rw [List.take_of_length_le (by have := HN.out; omega)] at hal
                have e : ∀ a b : Nat, decide (a ≤ b) = decide ((a : Int) ≤ (b : Int)) := fun a b => decide_eq_decide.2 (by omega)
                unfold right nameOk
                rw [hal, HP0.out, HP1.out, HAN.out, ← HN.out, ← HNB.out, e 1 NB.size, e NB.size 20, e 1 n, e n 6]
                simp only [Bool.and_true]; rfl)
              go_wp2_with fail
              all_goals go_ret
              all_goals refine ⟨?_, HR3.out.1.2⟩
              all_goals rw [HRF.out]
              all_goals refine congrArg (fun b => Ending.returned (Value.bool b)) ?_
              all_goals (rw [Bool.eq_iff_iff]; simp; omega)
end Go.Proofs.YtahbbojhdkillaaDoor
