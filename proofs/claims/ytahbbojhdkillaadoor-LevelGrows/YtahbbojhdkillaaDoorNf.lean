/- Layer 5: the walk of the law's Few. -/
import Derived.Test.YtahbbojhdkillaaDoorMk
namespace Go.Proofs.YtahbbojhdkillaaDoor
open Go.RowKit Go.Shelf

def shT (m : Ms) : Bool := decide (m.t.length ≤ 20)
def fewB (p : Pt) : Bool := p.ms.all shT && decide (p.ms.length ≤ 10) && decide (p.nm.length ≤ 40) && decide (p.p0.length ≤ 5) && decide (p.p1.length ≤ 5)
theorem sh_all {l : List Ms} {i : Nat} (h : i < l.length) (h1 : (l.take i).all shT = true) (h2 : shT (l.getD i default) = true) : (l.take (i + 1)).all shT = true := by
  rw [List.take_succ_eq_append_getElem h, List.all_append, h1]
  rw [List.getD_eq_getElem?_getD, List.getElem?_eq_getElem h] at h2
  simpa using h2
theorem sh_not {l : List Ms} {i : Nat} (h : i < l.length) (h2 : shT (l.getD i default) = false) : l.all shT = false := by
  rw [List.getD_eq_getElem?_getD, List.getElem?_eq_getElem h] at h2
  rw [List.all_eq_false]
  exact ⟨l[i], List.getElem_mem h, by simpa using h2⟩
set_option maxRecDepth 100000 in
set_option maxHeartbeats 4000000 in
theorem few_any (x : Sl) (p : Pt) (w : World) (hp : PatA w x p) : Calls Tryd.prog 15 #[patV x p] w fun e w' => e = .returned (.bool (fewB p)) ∧ Below w.heap.size w w' := by
  obtain ⟨s0, c0, s1, c1, s2, c2⟩ := x
  have HIM := Lib.hid hp.im
  clear hp
  unfold patV
  simp only at HIM ⊢
  obtain ⟨NB, hNB⟩ : ∃ NB : ByteArray, NB = ⟨p.nm.toArray⟩ := ⟨_, rfl⟩
  have HNB : Hid (NB.size = p.nm.length) := Lib.hid (by rw [hNB, arr_size])
  obtain ⟨n0, hn0⟩ : ∃ n, n = p.p0.length := ⟨_, rfl⟩
  obtain ⟨n1, hn1⟩ : ∃ n, n = p.p1.length := ⟨_, rfl⟩
  obtain ⟨n, hn⟩ : ∃ n, n = p.ms.length := ⟨_, rfl⟩
  rw [← hNB, ← hn0, ← hn1, ← hn]
  have HN0 := Lib.hid hn0
  have HN1 := Lib.hid hn1
  have HN := Lib.hid hn
  have HW : Hid (Below w.heap.size w (w.alloc (.cells #[.string NB, .slice s0 n0 c0, .slice s1 n1 c1, .slice s2 n c2] 29))) := Lib.hid ((Below.refl _ _).alloc (Nat.le_refl _) _)
  clear hNB hn0 hn1 hn
  go_enter Tryd.func15, Tryd.ntmps15
  go_wp2_with fail
  have hk := box4 (w := w) (Below.refl _ (w.alloc (.cells #[.string NB, .slice s0 n0 c0, .slice s1 n1 c1, .slice s2 n c2] 29)))
  generalize w.alloc (.cells #[.string NB, .slice s0 n0 c0, .slice s1 n1 c1, .slice s2 n c2] 29) = W1 at *
  obtain ⟨k0, k1, k2, k3, -⟩ := hk
  go_loopg [3] 11 (fun q u3 wr => ∃ i : Nat, i + q = 11 ∧ i ≤ n ∧ u3 = .int .i64 i ∧ Aside ((p.ms.take i).all shT = true) ∧ wr = W1)
  case atStart => exact ⟨0, by omega, by omega, rfl, rfl, rfl⟩
  case round =>
    obtain ⟨i, hiq, hin, rfl, hall, rfl⟩ := hrel
    have HALL := Lib.hid hall.out
    clear hall
    by_cases hlt : i < n ∧ i ≤ 10
    · obtain ⟨h1, h2⟩ := hlt
      obtain ⟨g, o, hs2, hia⟩ := (HIM.out.keep HW.out) (by have := HN.out; omega)
      subst hs2
      obtain ⟨q0, sx, cx, q1, qi⟩ := hia i (by have := HN.out; omega)
      clear hia qi
      obtain ⟨m, hm⟩ : ∃ m, m = (p.ms.getD i default).t.length := ⟨_, rfl⟩
      rw [← hm] at q1
      have hi2 : (i : Int) < n := by omega
      have hi3 : (i : Int) ≤ 10 := by omega
      by_cases h20 : m ≤ 20
      · have HS : Hid (shT (p.ms.getD i default) = true) := Lib.hid (by unfold shT; rw [← hm]; simpa using h20)
        have h20' : ¬ (20 : Int) < m := by omega
        clear hm
        go_wp2_with fail
        go_roundg (11 - (i + 1))
        case measure => omega
        case rel => exact ⟨i + 1, by omega, by omega, by go_num, sh_all (by have := HN.out; omega) HALL.out HS.out, rfl⟩
      · have HS : Hid (fewB p = false) := Lib.hid (by unfold fewB; rw [sh_not (i := i) (by have := HN.out; omega) (by unfold shT; rw [← hm]; simpa using h20)]; rfl)
        have h20' : (20 : Int) < m := by omega
        clear hm
        go_wp2_with fail
        go_ret
        exact ⟨by rw [HS.out]; rfl, HW.out⟩
    · have HF : Hid (fewB p = (decide ((n : Int) ≤ 10) && decide ((NB.size : Int) ≤ 40) && decide ((n0 : Int) ≤ 5) && decide ((n1 : Int) ≤ 5))) := Lib.hid (by
        have a0 := HN0.out
        have a1 := HN1.out
        have a2 := HN.out
        have a3 := HNB.out
        unfold fewB
        rw [← a0, ← a1, ← a2, ← a3]
        by_cases hn : n ≤ 10
        · have hin2 : i = n := by omega
          have := HALL.out
          rw [hin2, a2, List.take_length] at this
          rw [this, Bool.true_and]
          have e : ∀ a b : Nat, decide (a ≤ b) = decide ((a : Int) ≤ (b : Int)) := fun a b => decide_eq_decide.2 (by omega)
          rw [e n 10, e NB.size 40, e n0 5, e n1 5]; rfl
        · have e1 : decide (n ≤ 10) = false := by simpa using hn
          have e2 : decide ((n : Int) ≤ 10) = false := by simp; omega
          rw [e1, e2]; simp)
      have hg : (i : Int) < n → ¬ (i : Int) ≤ 10 := by omega
      by_cases hi2 : (i : Int) < n
      · have hi3 : ¬ (i : Int) ≤ 10 := hg hi2
        have hn10 : ¬ (n : Int) ≤ 10 := by omega
        have HF2 : Hid (fewB p = false) := Lib.hid (by rw [HF.out, decide_eq_false hn10]; simp)
        clear hlt hg
        go_wp2_with fail
        go_ret
        exact ⟨by rw [HF2.out]; rfl, HW.out⟩
      · clear hlt hg
        go_wp2_with fail
        all_goals go_ret
        all_goals refine ⟨?_, HW.out⟩
        all_goals rw [HF.out]
        all_goals simp_all
        all_goals (intros; omega)
end Go.Proofs.YtahbbojhdkillaaDoor
