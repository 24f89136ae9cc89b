/- The plain mathematics of what is made well: keys, a node that is there already. -/
import Derived.Test.YtgjhhipkfglpgaaDoorKb
import Derived.Test.YtgjhhipkfglpgaaDoorQh
namespace Go.Proofs.YtgjhhipkfglpgaaDoor

/-- What is there is made again as it was. -/
theorem mk_again {lim : Nat} {P : List Nd} {d : Nd} {r : Int} (hP : WF P) (hr : hasB P.length r = true) (hd : nd P r = d) : mkL lim P d = P ∧ mkR lim P d = r ∧ mkE lim P d = 0 := by
  obtain ⟨h0, h1⟩ := hasB_iff.1 hr
  have hi := hP.ix_at (i := r.toNat) (by omega)
  have hd' : P.getD r.toNat zN = d := hd
  rw [hd'] at hi
  obtain ⟨e1, e2, e3⟩ := mk_had (lim := lim) hP hi
  exact ⟨e1, by rw [e2]; omega, e3⟩
theorem keyN_wrong {L : List Nd} {i ck x : Int} (h : hasB L.length ck = false) : right L (keyN i ck x) = false := by
  unfold right
  simp [keyN, many, partsOk, partOk, h]
/-- Keys of a chaining key that there is. -/
theorem y_good {lim : Nat} {L : List Nd} {ck x : Int} (hL : WF L) (hm : lim ≤ 65536) (h1 : hasB L.length ck = true) (h2 : hasB L.length x = true) : ∀ n : Nat, n ≤ 4 → L.length + n ≤ lim →
    yE lim L ck x n = 0 ∧ WF (yL lim L ck x n) ∧ (∃ T, yL lim L ck x n = L ++ T) ∧ (yL lim L ck x n).length ≤ L.length + n ∧ ∀ i, i < n → hasB (yL lim L ck x n).length (yR lim L ck x i) = true ∧ nd (yL lim L ck x n) (yR lim L ck x i) = keyN ((i : Int) + 1) ck x
  | 0, _, _ => ⟨rfl, hL, ⟨[], by simp [yL, yA]⟩, Nat.le_refl _, fun i hi => absurd hi (by omega)⟩
  | n + 1, hn, hl => by
    obtain ⟨e, hw, ⟨T, hT⟩, hlen, hi⟩ := y_good hL hm h1 h2 n (by omega) (by omega)
    have c1 : hasB (yL lim L ck x n).length ck = true := by rw [hT]; exact hasB_ext h1
    have c2 : hasB (yL lim L ck x n).length x = true := by rw [hT]; exact hasB_ext h2
    obtain ⟨he, m⟩ := made (lim := lim) hw (keyN_ok (n := (yL lim L ck x n).length) (i := (n : Int) + 1) (by omega) (by omega) c1 c2) (by omega) (keyN_right (by omega) c1 c2)
    obtain ⟨y1, y2⟩ := y_succ e
    rw [y1, y2]
    refine ⟨he, m.wf, ?_, by have := m.le; omega, fun i hin => ?_⟩
    · obtain ⟨U, hU⟩ := m.ext
      exact ⟨T ++ U, by rw [hU, hT, List.append_assoc]⟩
    · by_cases e1 : i = n
      · subst e1; exact ⟨m.hr, m.at_⟩
      · obtain ⟨q1, q2⟩ := hi i (by omega)
        exact ⟨m.has q1, by rw [m.keep q1]; exact q2⟩
/-- Keys of one that there isn't. -/
theorem y_bad {lim : Nat} {L : List Nd} {ck x : Int} (h : hasB L.length ck = false) (n : Nat) : yL lim L ck x (n + 1) = L ∧ yE lim L ck x (n + 1) = 1 := by
  have h1 := y_succ (lim := lim) (L := L) (ck := ck) (x := x) (n := 0) rfl
  obtain ⟨w1, _, w3⟩ := mk_wrong (lim := lim) (keyN_wrong (L := yL lim L ck x 0) (i := ((0 : Nat) : Int) + 1) (x := x) h)
  rw [w1, w3] at h1
  have h2 := y_stuck (lim := lim) (L := L) (ck := ck) (x := x) (n := 1) (by rw [h1.2]; decide) (n + 1) (by omega)
  rw [h2.1, h2.2]
  exact h1
/-- Keys that are there are made again as they were. -/
theorem y_again {lim : Nat} {L P : List Nd} {ck x : Int} {k : Nat} {r : Nat → Int} (hP : WF P) (hr : ∀ i, i < k → hasB P.length (r i) = true ∧ nd P (r i) = keyN ((i : Int) + 1) ck x) : ∀ n, n ≤ k → yL lim P ck x n = P ∧ yE lim P ck x n = 0 ∧ ∀ i, i < n → yR lim P ck x i = r i
  | 0, _ => ⟨rfl, rfl, fun i hi => absurd hi (by omega)⟩
  | n + 1, hn => by
    obtain ⟨e1, e2, e3⟩ := y_again (L := L) hP hr n (by omega)
    obtain ⟨a1, a2, a3⟩ := mk_again (lim := lim) hP (hr n (by omega)).1 (hr n (by omega)).2
    obtain ⟨y1, y2⟩ := y_succ e2
    rw [e1] at y1 y2
    refine ⟨y1.trans a1, y2.trans a3, fun i hi => ?_⟩
    by_cases e : i = n
    · subst e; unfold yR; rw [e1]; exact a2
    · exact e3 i (by omega)
theorem bld_len11 {lim : Nat} (ns : List Nd) : (bld lim ns).length ≤ ns.length + 1 := by
  suffices h : ∀ (ns M : List Nd), (ns.foldl (mkL lim) M).length ≤ M.length + ns.length by
    have := h ns [zN]; unfold bld; simp only [List.length_cons, List.length_nil] at this; omega
  intro ns
  induction ns with
  | nil => intro M; simp
  | cons d r ih =>
    intro M
    simp only [List.foldl_cons, List.length_cons]
    have h1 := ih (mkL lim M d)
    have h2 : (mkL lim M d).length ≤ M.length + 1 := by
      unfold mkL; split
      · split
        · omega
        · split
          · omega
          · simp
      · omega
    omega
end Go.Proofs.YtgjhhipkfglpgaaDoor
