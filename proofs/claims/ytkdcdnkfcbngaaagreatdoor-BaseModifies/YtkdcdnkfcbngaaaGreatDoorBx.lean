/- Layer 6: the walk of the reference's Psk, whatever the number. -/
import Derived.Test.YtkdcdnkfcbngaaaGreatDoorBw
namespace Go.Proofs.YtkdcdnkfcbngaaaGreatDoor
open Go.RowKit Go.Shelf

set_option maxRecDepth 100000 in
set_option maxHeartbeats 2000000 in
theorem rpsk_out (x : Sl) (p : Pt) (n : Int) (w : World) (hp : PatA w x p) (hr : right p = true) (hok : pskOk p n = false) : Calls Tryz.prog 12 #[patV x p, .int .i64 n] w fun e w' => e = .returned (.tuple #[patV nilS zP, .int .i64 13]) ∧ Below w.heap.size w w' := by
  obtain ⟨hlen, hpl, htl⟩ := first_len hr
  have hcase : n < 0 ∨ (¬ n < 0 ∧ (p.ms.length : Int) < n) ∨ (¬ n < 0 ∧ ¬ (p.ms.length : Int) < n ∧ 12 ≤ (p.ms.getD (pskI n) default).t.length) := by
    by_cases h0 : n < 0
    · exact .inl h0
    · by_cases h1 : (p.ms.length : Int) < n
      · exact .inr (.inl ⟨h0, h1⟩)
      · refine .inr (.inr ⟨h0, h1, ?_⟩)
        have e1 : decide ((0 : Int) ≤ n) = true := by simp; omega
        have e2 : decide (n ≤ (p.ms.length : Int)) = true := by simp; omega
        unfold pskOk at hok
        rw [e1, e2] at hok
        simp at hok
        simpa using hok
  unfold patV
  rcases hcase with h0 | ⟨h0, h1⟩ | ⟨h0, h1, h2⟩
  · have hz : (n == 0) = false := by simp; omega
    clear hp hr hok
    go_enter Tryz.func12, Tryz.ntmps12
    go_wp2_with fail
    refine bodyPost_ret (v := .tuple #[.agg #[.string ⟨#[]⟩, .slice none 0 0, .slice none 0 0, .slice none 0 0], .int .i64 13]) (by rw [results_cell_tmp rfl]; go_simp) rfl ?_
    exact ⟨rfl, ((Below.refl _ _).alloc (Nat.le_refl _) _).alloc (by simp) _⟩
  · have hz : (n == 0) = false := by simp; omega
    clear hp hr hok
    go_enter Tryz.func12, Tryz.ntmps12
    go_wp2_with fail
    refine bodyPost_ret (v := .tuple #[.agg #[.string ⟨#[]⟩, .slice none 0 0, .slice none 0 0, .slice none 0 0], .int .i64 13]) (by rw [results_cell_tmp rfl]; go_simp) rfl ?_
    exact ⟨rfl, ((Below.refl _ _).alloc (Nat.le_refl _) _).alloc (by simp) _⟩
  · have hlt : pskI n < p.ms.length := by unfold pskI; omega
    obtain ⟨g, o, hx2, hms⟩ := hp.im (by omega)
    obtain ⟨-, sj, cj, mj, -⟩ := hms (pskI n) hlt
    obtain ⟨tj, htj⟩ : ∃ tj, tj = (p.ms.getD (pskI n) default).t.length := ⟨_, rfl⟩
    rw [← htj] at mj h2
    have lg := World.block_lt_of_cell? _ _ mj
    have h2i : (12 : Int) ≤ tj := by omega
    have hji : (pskI n : Int) < p.ms.length := by omega
    have hl6 : (p.ms.length : Int) ≤ 6 := by omega
    rw [hx2]
    have hat : n = 0 ∨ n - 1 = (pskI n : Int) := by
      by_cases h : n = 0
      · exact .inl h
      · right; unfold pskI; omega
    have HJ0 : Hid (n = 0 → pskI n = 0) := Lib.hid (fun h => by rw [h]; rfl)
    clear hms hp hr hok hlen hpl htl htj h2
    generalize pskI n = j at *
    rcases hat with hz | hj1
    · subst hz
      obtain rfl : j = 0 := HJ0.out rfl
      simp only [Nat.zero_mul, Nat.add_zero] at mj
      go_enter Tryz.func12, Tryz.ntmps12
      go_wp2_with fail
      refine bodyPost_ret (v := .tuple #[.agg #[.string ⟨#[]⟩, .slice none 0 0, .slice none 0 0, .slice none 0 0], .int .i64 13]) (by rw [results_cell_tmp rfl]; go_simp) rfl ?_
      exact ⟨rfl, ((Below.refl _ _).alloc (Nat.le_refl _) _).alloc (by simp) _⟩
    · have hnz : (n == 0) = false := by simp; omega
      go_enter Tryz.func12, Tryz.ntmps12
      go_wp2_with fail
      refine bodyPost_ret (v := .tuple #[.agg #[.string ⟨#[]⟩, .slice none 0 0, .slice none 0 0, .slice none 0 0], .int .i64 13]) (by rw [results_cell_tmp rfl]; go_simp) rfl ?_
      exact ⟨rfl, ((Below.refl _ _).alloc (Nat.le_refl _) _).alloc (by simp) _⟩
theorem rpsk_any (x : Sl) (p : Pt) (n : Int) (w : World) (hp : PatA w x p) (hr : right p = true) : Calls Tryz.prog 12 #[patV x p, .int .i64 n] w fun e w' => ∃ y, e = .returned (.tuple #[patV y (pskP p n), .int .i64 (pskE p n)]) ∧ PatA w' y (pskP p n) ∧ Below w.heap.size w w' := by
  cases hok : pskOk p n with
  | true =>
    refine (rpsk_in x p n w hp hr hok).mono fun e w' ⟨y, he, hA, hb⟩ => ⟨y, ?_, hA, hb⟩
    have : pskE p n = 0 := by unfold pskE; rw [hr, hok]; rfl
    rw [this]; exact he
  | false =>
    refine (rpsk_out x p n w hp hr hok).mono fun e w' ⟨he, hb⟩ => ⟨nilS, ?_⟩
    have : pskP p n = zP ∧ pskE p n = 13 := by unfold pskP pskE; rw [hr, hok]; exact ⟨rfl, rfl⟩
    rw [this.1, this.2]; exact ⟨he, patA_zero _, hb⟩
end Go.Proofs.YtkdcdnkfcbngaaaGreatDoor
