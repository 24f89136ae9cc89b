/- Layer 6: the walk of Fallback. -/
import Derived.Test.YtobpnjjgpoompaaGreatDoorBg
namespace Go.Proofs.YtobpnjjgpoompaaGreatDoor
open Go.RowKit Go.Shelf

def pcell (x : Sl) (p : Pt) : Array Value := #[.string ⟨p.nm.toArray⟩, .slice x.s0 p.p0.length x.c0, .slice x.s1 p.p1.length x.c1, .slice x.s2 p.ms.length x.c2]
/-- A pattern that came in, in its box, and the answer's box behind it. -/
structure Pb (w : World) (x : Sl) (p : Pt) (wr : World) : Prop where
  pb : wr.heap[w.heap.size]? = some (.cells #[.string ⟨p.nm.toArray⟩, .slice x.s0 p.p0.length x.c0, .slice x.s1 p.p1.length x.c1, .slice x.s2 p.ms.length x.c2] 26 (0, 0))
  res : wr.heap[w.heap.size + 1]? = some (.cells #[.string ⟨#[]⟩, .slice none 0 0, .slice none 0 0, .slice none 0 0] 26 (0, 0))
  bel : Below w.heap.size w wr
theorem Pb.keep {w : World} {x : Sl} {p : Pt} {wr wx : World} (h : Pb w x p wr) (hb : Below wr.heap.size wr wx) : Pb w x p wx :=
  ⟨(hb.block _ (lt_of_heap h.pb)).trans h.pb, (hb.block _ (lt_of_heap h.res)).trans h.res, h.bel.trans (hb.mono h.bel.size)⟩
theorem pb_new (w : World) (x : Sl) (p : Pt) : Pb w x p ((w.alloc (.cells #[.string ⟨p.nm.toArray⟩, .slice x.s0 p.p0.length x.c0, .slice x.s1 p.p1.length x.c1, .slice x.s2 p.ms.length x.c2] 26)).alloc (.cells #[.string ⟨#[]⟩, .slice none 0 0, .slice none 0 0, .slice none 0 0] 26)) := by
  refine ⟨?_, ?_, ((Below.refl _ _).alloc (Nat.le_refl _) _).alloc (by simp) _⟩
  · rw [Below.heap_alloc _ _ _ (by simp)]; exact heap_alloc_new w _
  · have := heap_alloc_new (w.alloc (.cells #[.string ⟨p.nm.toArray⟩, .slice x.s0 p.p0.length x.c0, .slice x.s1 p.p1.length x.c1, .slice x.s2 p.ms.length x.c2] 26)) (.cells #[.string ⟨#[]⟩, .slice none 0 0, .slice none 0 0, .slice none 0 0] 26)
    rwa [World.size_alloc] at this

set_option maxRecDepth 100000 in
set_option maxHeartbeats 4000000 in
theorem fallback_bad (x : Sl) (p : Pt) (w : World) (hp : PatA w x p) (hr : right p = false) : Calls Tryz.prog 65 #[patV x p] w fun e w' => e = .returned (.tuple #[patV nilS zP, .int .i64 1]) ∧ Below w.heap.size w w' := by
  have HR := Lib.hid (fun wx (hb : Below w.heap.size w wx) => right_any x p wx (hp.keep hb))
  have HN := Lib.hid (pb_new w x p)
  rw [hr] at HR
  clear hp hr
  unfold patV at *
  go_enter Tryz.func65, Tryz.ntmps65
  go_wp2_with (go_at_call 23; refine (HR.out _ HN.out.bel).mono ?_; rintro e w1 ⟨rfl, hb1⟩; have HN1 := Lib.hid (HN.out.keep hb1); clear hb1; obtain ⟨r0, r1, r2, r3, y0, y1, y2, y3⟩ := box4c HN1.out.res)
  refine bodyPost_ret (v := .tuple #[.agg #[.string ⟨#[]⟩, .slice none 0 0, .slice none 0 0, .slice none 0 0], .int .i64 1]) (by rw [results_cell_tmp rfl]; go_simp) rfl ?_
  exact ⟨rfl, set4_below HN1.out.bel (by omega) _ _ _ _⟩

theorem first_len {p : Pt} (hr : right p = true) : (1 ≤ p.ms.length ∧ p.ms.length ≤ 6) ∧ (p.p0.length ≤ 2 ∧ p.p1.length ≤ 2) ∧ ∀ i, i < p.ms.length → 1 ≤ (p.ms.getD i default).t.length ∧ (p.ms.getD i default).t.length ≤ 12 := by
  simp only [right, Bool.and_eq_true, decide_eq_true_eq] at hr
  refine ⟨⟨hr.1.1.1.1.2, hr.1.1.1.2⟩, ⟨preOk_len hr.1.1.2, preOk_len hr.1.2⟩, fun i hi => ?_⟩
  have h := List.all_eq_true.1 hr.2 (p.ms.getD i default) (by rw [List.getD_eq_getElem?_getD, List.getElem?_eq_getElem hi]; simp)
  simp only [msOk, Bool.and_eq_true, decide_eq_true_eq] at h
  exact ⟨h.1.1.2, h.1.2⟩

theorem box2c {w : World} {b : Nat} {v0 v1 : Value} {T : TypeId} (h : w.heap[b]? = some (.cells #[v0, v1] T (0, 0))) : w.cell? ⟨b, 0, none⟩ = some v0 ∧ w.cell? ⟨b, 1, none⟩ = some v1 := ⟨(cell_of_row w _ 0 _ _ _ h).trans rfl, (cell_of_row w _ 1 _ _ _ h).trans rfl⟩
theorem mid_first {w w1 : World} {x : Sl} {p : Pt} (h : Pb w x p w1) (f : Int) (sx : Option Addr) (t : List Int) (cx : Nat) :
    Hid (Pb w x p (w1.alloc (.cells #[.int .i64 f, .slice sx t.length cx] 46)).drew) ∧ Hid ((w1.alloc (.cells #[.int .i64 f, .slice sx t.length cx] 46)).drew.heap[w1.heap.size]? = some (.cells #[.int .i64 f, .slice sx t.length cx] 46 (0, 0))) :=
  ⟨Lib.hid (h.keep ((Below.refl _ _).alloc (Nat.le_refl _) _).drew), Lib.hid (heap_alloc_new w1 _)⟩

set_option maxRecDepth 100000 in
set_option maxHeartbeats 1000000 in
theorem fallback_no (x : Sl) (p : Pt) (w : World) (hp : PatA w x p) (hr : right p = true) (hf : fbOk p = false) : Calls Tryz.prog 65 #[patV x p] w fun e w' => e = .returned (.tuple #[patV nilS zP, .int .i64 13]) ∧ Below w.heap.size w w' := by
  have HR := Lib.hid (fun wx (hb : Below w.heap.size w wx) => right_any x p wx (hp.keep hb))
  have HN := Lib.hid (pb_new w x p)
  rw [hr] at HR
  obtain ⟨hlen, -, htl⟩ := first_len hr
  have hp2 := hp.im
  unfold patV at *
  obtain ⟨g, o, hx2, hms⟩ := hp2 (by omega)
  obtain ⟨m0, sx, cx, m1, m2⟩ := hms 0 (by omega)
  clear hms
  obtain ⟨f, hfe⟩ : ∃ f, f = (p.ms.getD 0 default).fr := ⟨_, rfl⟩
  obtain ⟨t, hte⟩ : ∃ t, t = (p.ms.getD 0 default).t := ⟨_, rfl⟩
  rw [← hfe] at m0
  rw [← hte] at m1 m2
  have HC := Lib.hid (fun wx (hb : Below w.heap.size w wx) => canBePre_any sx cx t wx (m2.keep hb) (by rw [hte]; have := (htl 0 (by omega)).2; omega))
  simp only [Nat.zero_mul, Nat.add_zero] at m0 m1
  have HM : Hid (∀ wx, Below w.heap.size w wx → wx.cell? ⟨g, o, none⟩ = some (.int .i64 f) ∧ wx.cell? ⟨g, o + 1, none⟩ = some (.slice sx t.length cx)) := Lib.hid (fun wx hb => keep2 hb m0 m1)
  clear m0 m1 m2
  have l1 : (1 : Int) ≤ p.ms.length := by omega
  have l6 : (p.ms.length : Int) ≤ 6 := by omega
  have hcase : f ≠ 0 ∨ (f = 0 ∧ preB t = false) ∨ (f = 0 ∧ preB t = true ∧ 0 < p.p0.length) ∨ (f = 0 ∧ preB t = true ∧ p.p0 = [] ∧ p.ms.length = 1) := by
    have fb : fbOk p = (decide (f = 0) && preB t && decide (p.p0 = []) && decide (2 ≤ p.ms.length)) := by rw [hfe, hte]; rfl
    rw [hf] at fb
    by_cases h1 : f = 0
    · right
      cases h2 : preB t with
      | false => exact .inl ⟨h1, rfl⟩
      | true =>
        right
        by_cases h3 : p.p0 = []
        · right
          refine ⟨h1, rfl, h3, ?_⟩
          rw [h2] at fb; simp [h1, h3] at fb; omega
        · exact .inl ⟨h1, rfl, List.length_pos_iff.2 h3⟩
    · exact .inl h1
  clear hf hte hfe hp2 hlen htl hp hr
  obtain ⟨s0, c0, s1, c1, s2, c2⟩ := x
  simp only at hx2 HN HR ⊢
  subst hx2
  rcases hcase with h1 | ⟨rfl, h2⟩ | ⟨rfl, h2, h3⟩ | ⟨rfl, h2, h3, h4⟩
  · have h1b : (f == 0) = false := by simpa using h1
    go_enter Tryz.func65, Tryz.ntmps65
    go_wp2_with (go_at_call 23; refine (HR.out _ HN.out.bel).mono ?_; rintro e w1 ⟨rfl, hb1⟩; have HN1 := Lib.hid (HN.out.keep hb1); clear hb1; obtain ⟨a0, a1, a2, a3, -⟩ := box4c HN1.out.pb; obtain ⟨m0, m1⟩ := HM.out _ HN1.out.bel; have lp := lt_of_heap HN1.out.pb; have lr := lt_of_heap HN1.out.res; have lg := World.block_lt_of_cell? _ _ m0)
    go_region
    obtain ⟨HN2, HMB⟩ := mid_first HN1.out (f) sx t cx
    clear a0 a1 a2 a3 m0 m1 lp lr lg
    generalize (w1.alloc (.cells #[.int .i64 (f), .slice sx t.length cx] 46)).drew = W2 at *
    generalize (if c2 = 1 then (some ⟨g, o, none⟩ : Option Addr) else some ⟨g, o + 2, none⟩) = ob
    obtain ⟨a0, a1, a2, a3, -⟩ := box4c HN2.out.pb
    obtain ⟨r0, r1, r2, r3, y0, y1, y2, y3⟩ := box4c HN2.out.res
    obtain ⟨b0, b1⟩ := box2c HMB.out
    go_wp2_with fail
    refine bodyPost_ret (v := .tuple #[.agg #[.string ⟨#[]⟩, .slice none 0 0, .slice none 0 0, .slice none 0 0], .int .i64 13]) (by rw [results_cell_tmp rfl]; go_simp) rfl ?_
    exact ⟨rfl, set4_below HN2.out.bel (Nat.le_succ _) _ _ _ _⟩
  · rw [h2] at HC
    clear h2
    go_enter Tryz.func65, Tryz.ntmps65
    go_wp2_with (go_at_call 23; refine (HR.out _ HN.out.bel).mono ?_; rintro e w1 ⟨rfl, hb1⟩; have HN1 := Lib.hid (HN.out.keep hb1); clear hb1; obtain ⟨a0, a1, a2, a3, -⟩ := box4c HN1.out.pb; obtain ⟨m0, m1⟩ := HM.out _ HN1.out.bel; have lp := lt_of_heap HN1.out.pb; have lr := lt_of_heap HN1.out.res; have lg := World.block_lt_of_cell? _ _ m0)
    go_region
    obtain ⟨HN2, HMB⟩ := mid_first HN1.out (0) sx t cx
    clear a0 a1 a2 a3 m0 m1 lp lr lg
    generalize (w1.alloc (.cells #[.int .i64 (0), .slice sx t.length cx] 46)).drew = W2 at *
    generalize (if c2 = 1 then (some ⟨g, o, none⟩ : Option Addr) else some ⟨g, o + 2, none⟩) = ob
    obtain ⟨a0, a1, a2, a3, -⟩ := box4c HN2.out.pb
    obtain ⟨r0, r1, r2, r3, y0, y1, y2, y3⟩ := box4c HN2.out.res
    obtain ⟨b0, b1⟩ := box2c HMB.out
    go_wp2_with (go_at_call 82; refine (HC.out _ HN2.out.bel).mono ?_; rintro e w3 ⟨rfl, hb3⟩; have HN3 := Lib.hid (HN2.out.keep hb3); have HMB3 := Lib.hid ((hb3.block _ (lt_of_heap HMB.out)).trans HMB.out); clear hb3 a0 a1 a2 a3 r0 r1 r2 r3 y0 y1 y2 y3 b0 b1; obtain ⟨a0, a1, a2, a3, -⟩ := box4c HN3.out.pb; obtain ⟨r0, r1, r2, r3, y0, y1, y2, y3⟩ := box4c HN3.out.res; obtain ⟨b0, b1⟩ := box2c HMB3.out)
    refine bodyPost_ret (v := .tuple #[.agg #[.string ⟨#[]⟩, .slice none 0 0, .slice none 0 0, .slice none 0 0], .int .i64 13]) (by rw [results_cell_tmp rfl]; go_simp) rfl ?_
    exact ⟨rfl, set4_below HN3.out.bel (Nat.le_succ _) _ _ _ _⟩
  · rw [h2] at HC
    clear h2
    go_enter Tryz.func65, Tryz.ntmps65
    go_wp2_with (go_at_call 23; refine (HR.out _ HN.out.bel).mono ?_; rintro e w1 ⟨rfl, hb1⟩; have HN1 := Lib.hid (HN.out.keep hb1); clear hb1; obtain ⟨a0, a1, a2, a3, -⟩ := box4c HN1.out.pb; obtain ⟨m0, m1⟩ := HM.out _ HN1.out.bel; have lp := lt_of_heap HN1.out.pb; have lr := lt_of_heap HN1.out.res; have lg := World.block_lt_of_cell? _ _ m0)
    go_region
    obtain ⟨HN2, HMB⟩ := mid_first HN1.out (0) sx t cx
    clear a0 a1 a2 a3 m0 m1 lp lr lg
    generalize (w1.alloc (.cells #[.int .i64 (0), .slice sx t.length cx] 46)).drew = W2 at *
    generalize (if c2 = 1 then (some ⟨g, o, none⟩ : Option Addr) else some ⟨g, o + 2, none⟩) = ob
    obtain ⟨a0, a1, a2, a3, -⟩ := box4c HN2.out.pb
    obtain ⟨r0, r1, r2, r3, y0, y1, y2, y3⟩ := box4c HN2.out.res
    obtain ⟨b0, b1⟩ := box2c HMB.out
    go_wp2_with (go_at_call 82; refine (HC.out _ HN2.out.bel).mono ?_; rintro e w3 ⟨rfl, hb3⟩; have HN3 := Lib.hid (HN2.out.keep hb3); have HMB3 := Lib.hid ((hb3.block _ (lt_of_heap HMB.out)).trans HMB.out); clear hb3 a0 a1 a2 a3 r0 r1 r2 r3 y0 y1 y2 y3 b0 b1; obtain ⟨a0, a1, a2, a3, -⟩ := box4c HN3.out.pb; obtain ⟨r0, r1, r2, r3, y0, y1, y2, y3⟩ := box4c HN3.out.res; obtain ⟨b0, b1⟩ := box2c HMB3.out)
    refine bodyPost_ret (v := .tuple #[.agg #[.string ⟨#[]⟩, .slice none 0 0, .slice none 0 0, .slice none 0 0], .int .i64 13]) (by rw [results_cell_tmp rfl]; go_simp) rfl ?_
    exact ⟨rfl, set4_below HN3.out.bel (Nat.le_succ _) _ _ _ _⟩
  · rw [h2] at HC
    clear h2
    obtain ⟨nm, p0, p1, ms⟩ := p
    simp only at h3 h4 l1 l6 HN HR
    subst h3
    simp only [List.length_nil] at HN HR ⊢
    have HH4 := Lib.hid h4
    clear h4
    go_enter Tryz.func65, Tryz.ntmps65
    go_wp2_with (go_at_call 23; refine (HR.out _ HN.out.bel).mono ?_; rintro e w1 ⟨rfl, hb1⟩; have HN1 := Lib.hid (HN.out.keep hb1); clear hb1; obtain ⟨a0, a1, a2, a3, -⟩ := box4c HN1.out.pb; obtain ⟨m0, m1⟩ := HM.out _ HN1.out.bel; have lp := lt_of_heap HN1.out.pb; have lr := lt_of_heap HN1.out.res; have lg := World.block_lt_of_cell? _ _ m0)
    go_region
    obtain ⟨HN2, HMB⟩ := mid_first HN1.out (0) sx t cx
    clear a0 a1 a2 a3 m0 m1 lp lr lg
    generalize (w1.alloc (.cells #[.int .i64 (0), .slice sx t.length cx] 46)).drew = W2 at *
    generalize (if c2 = 1 then (some ⟨g, o, none⟩ : Option Addr) else some ⟨g, o + 2, none⟩) = ob
    have hz : ms.length - 1 = 0 := by have := HH4.out; omega
    rw [hz]
    clear hz
    obtain ⟨a0, a1, a2, a3, -⟩ := box4c HN2.out.pb
    obtain ⟨r0, r1, r2, r3, y0, y1, y2, y3⟩ := box4c HN2.out.res
    obtain ⟨b0, b1⟩ := box2c HMB.out
    go_wp2_with (go_at_call 82; refine (HC.out _ HN2.out.bel).mono ?_; rintro e w3 ⟨rfl, hb3⟩; have HN3 := Lib.hid (HN2.out.keep hb3); have HMB3 := Lib.hid ((hb3.block _ (lt_of_heap HMB.out)).trans HMB.out); clear hb3 a0 a1 a2 a3 r0 r1 r2 r3 y0 y1 y2 y3 b0 b1; obtain ⟨a0, a1, a2, a3, -⟩ := box4c HN3.out.pb; obtain ⟨r0, r1, r2, r3, y0, y1, y2, y3⟩ := box4c HN3.out.res; obtain ⟨b0, b1⟩ := box2c HMB3.out)
    refine bodyPost_ret (v := .tuple #[.agg #[.string ⟨#[]⟩, .slice none 0 0, .slice none 0 0, .slice none 0 0], .int .i64 13]) (by rw [results_cell_tmp rfl]; go_simp) rfl ?_
    exact ⟨rfl, set4_below HN3.out.bel (Nat.le_succ _) _ _ _ _⟩

end Go.Proofs.YtobpnjjgpoompaaGreatDoor
