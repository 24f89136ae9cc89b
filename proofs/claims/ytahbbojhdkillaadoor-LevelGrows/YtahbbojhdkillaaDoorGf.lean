/- Layer 9: the walk of sender, and of Table where there is none. -/
import Derived.Test.YtahbbojhdkillaaDoorGe
namespace Go.Proofs.YtahbbojhdkillaaDoor
open Go.RowKit Go.Shelf

theorem frAt {w : World} {x : Sl} {p : Pt} (hp : PatA w x p) (k : Nat) (hk : k < p.ms.length) : ∃ g o s c, x.s2 = some ⟨g, o, none⟩ ∧ w.cell? ⟨g, o + k * 2, none⟩ = some (.int .i64 (p.ms.getD k default).fr) ∧ w.cell? ⟨g, o + k * 2 + 1, none⟩ = some (.slice s (p.ms.getD k default).t.length c) := by
  obtain ⟨g, o, e, h⟩ := hp.im (by omega)
  obtain ⟨h1, s, c, h2, -⟩ := h k hk
  exact ⟨g, o, s, c, e, h1, h2⟩
set_option maxRecDepth 100000 in
set_option maxHeartbeats 1000000 in
theorem sender_any (x : Sl) (p : Pt) (i : Nat) (hc : ckE p = 0) (w : World) (hp : PatA w x p) : Calls Tryd.prog 26 #[patV x p, .int .i64 i] w fun e w' => e = .returned (.int .i64 (sdr p i)) ∧ Below w.heap.size w w' := by
  have hl := right_len (ck_ok hc).1
  have HOW := Lib.hid (fun wx => oneWay_any x p wx)
  have HX := Lib.hid (bx_new w x p)
  obtain ⟨nm, p0, p1, ms⟩ := p
  obtain ⟨s0, c0, s1, c1, s2, c2⟩ := x
  simp only at hl
  by_cases h1 : ms.length = 1
  · skip
    obtain ⟨g, o, sx, cx, es, m0, -⟩ := frAt hp 0 (by show 0 < ms.length; omega)
    simp only at es m0
    subst es
    have hv : sdr ⟨nm, p0, p1, ms⟩ i = (ms.getD 0 default).fr := by unfold sdr; rw [if_pos h1]
    rw [hv]
    generalize (ms.getD 0 default).fr = fr at m0 ⊢
    have HD := Lib.hid (show decide (((ms.length : Nat) : Int) = 1) = true by simp; omega)
    unfold patV at HOW ⊢
    simp only at HOW HX ⊢
    rw [HD.out] at HOW
    have hl6 : (ms.length : Int) ≤ 6 := by omega
    have hl1 : (1 : Int) ≤ ms.length := by omega
    have hm : (0 : Int) < ms.length := by omega
    simp only [Nat.zero_mul, Nat.add_zero] at m0
    have HM0 := Lib.hid m0
    clear hv hl hp hc m0 h1 HD
    obtain ⟨b0, b1, b2, b3⟩ := HX.out.cells
    have lb := lt_of_heap HX.out.bx
    go_enter Tryd.func26, Tryd.ntmps26
    go_wp2_with fail
    go_at_call 43
    refine (HOW.out _).mono ?_
    rintro e w1 ⟨rfl, hb1⟩
    have HX1 := Lib.hid (HX.out.keep hb1)
    clear hb1 b0 b1 b2 b3 lb
    obtain ⟨b0, b1, b2, b3⟩ := HX1.out.cells
    have lb := lt_of_heap HX1.out.bx
    have m0 := (HX1.out.bel.cell (World.block_lt_of_cell? _ _ HM0.out)).trans HM0.out
    go_wp2_with fail
    go_ret
    exact ⟨rfl, HX1.out.bel⟩
  · skip
    obtain ⟨g, o, sx, cx, es, m0, -⟩ := frAt hp (i % 2) (by show (i % 2) < ms.length; omega)
    simp only at es m0
    subst es
    have hv : sdr ⟨nm, p0, p1, ms⟩ i = (ms.getD (i % 2) default).fr := by unfold sdr; rw [if_neg h1]
    rw [hv]
    generalize (ms.getD (i % 2) default).fr = fr at m0 ⊢
    have HD := Lib.hid (show decide (((ms.length : Nat) : Int) = 1) = false by simp; omega)
    unfold patV at HOW ⊢
    simp only at HOW HX ⊢
    rw [HD.out] at HOW
    have hl6 : (ms.length : Int) ≤ 6 := by omega
    have hl1 : (2 : Int) ≤ ms.length := by omega
    have hm : ((i : Int) % 2) < ms.length := by omega
    have hi0 : 0 ≤ (i : Int) % 2 := by omega
    have hin : ((i : Int) % 2).toNat = i % 2 := by omega
    have hit : (i : Int).tmod 2 = (i : Int) % 2 := Int.tmod_eq_emod_of_nonneg (by omega)
    have HM0 := Lib.hid m0
    clear hv hl hp hc m0 h1 HD
    obtain ⟨b0, b1, b2, b3⟩ := HX.out.cells
    have lb := lt_of_heap HX.out.bx
    go_enter Tryd.func26, Tryd.ntmps26
    go_wp2_with fail
    go_at_call 43
    refine (HOW.out _).mono ?_
    rintro e w1 ⟨rfl, hb1⟩
    have HX1 := Lib.hid (HX.out.keep hb1)
    clear hb1 b0 b1 b2 b3 lb
    obtain ⟨b0, b1, b2, b3⟩ := HX1.out.cells
    have lb := lt_of_heap HX1.out.bx
    have m0 := (HX1.out.bel.cell (World.block_lt_of_cell? _ _ HM0.out)).trans HM0.out
    go_wp2_with fail
    go_ret
    exact ⟨rfl, HX1.out.bel⟩
end Go.Proofs.YtahbbojhdkillaaDoor
