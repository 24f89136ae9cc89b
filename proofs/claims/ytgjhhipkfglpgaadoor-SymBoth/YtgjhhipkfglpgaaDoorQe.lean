/- Walks: which nodes may be, as the program decides it: a theorem a kind. Walks: valid, Find, Get. -/
import Derived.Test.YtgjhhipkfglpgaaDoorQd
namespace Go.Proofs.YtgjhhipkfglpgaaDoor
open Go.RowKit Go.Maps

def maxU : Int := 18446744073709551615
def loT (i : Nat) : Int := if i = 6 then 1 else 0
def hiT (i : Nat) : Int := if i = 1 ∨ i = 7 ∨ i = 9 then maxU else if i = 6 then 4 else 0
def ptT (i : Nat) : Int := if i = 0 ∨ i = 1 ∨ i = 9 then 0 else if i = 2 then 1 else if i = 7 then 3 else 2
/-- The table of shapes, as it lies in memory. -/
def Shp (w : World) : Prop := ∀ i : Nat, i < 10 → w.cell? ⟨0, i * 3, none⟩ = some (.int .u64 (loT i)) ∧ w.cell? ⟨0, i * 3 + 1, none⟩ = some (.int .u64 (hiT i)) ∧ w.cell? ⟨0, i * 3 + 2, none⟩ = some (.int .i64 (ptT i))
theorem Shp.pos {w : World} (h : Shp w) : 0 < w.heap.size := World.block_lt_of_cell? w ⟨0, 0, none⟩ (h 0 (by omega)).1
theorem Shp.keep {w w' : World} (h : Shp w) (hk : w'.heap[0]? = w.heap[0]?) : Shp w' := fun i hi => by
  have e : ∀ o, w'.cell? ⟨0, o, none⟩ = w.cell? ⟨0, o, none⟩ := fun o => World.cell?_of_block hk
  simp only [e]; exact h i hi
theorem Shp.below {w w' : World} (h : Shp w) (hb : Below w.heap.size w w') : Shp w' := h.keep (hb.block 0 h.pos)

theorem partsOk_only {n : Nat} {d : Nd} (h : (hasB n d.a && (hasB n d.b && hasB n d.c)) = true) : partsOk n d = onlyB (many d.k) d.a d.b d.c := by
  simp only [Bool.and_eq_true] at h
  unfold partsOk partOk onlyB
  rw [h.1, h.2.1, h.2.2]
  by_cases h0 : 0 < many d.k <;> by_cases h1 : 1 < many d.k <;> by_cases h2 : 2 < many d.k <;> simp [h0, h1, h2]
theorem right_held_not {L : List Nd} {d : Nd} (hp : 0 < L.length) (h : (hasB L.length d.a && (hasB L.length d.b && hasB L.length d.c)) = false) : right L d = false := by
  refine right_parts_not ?_
  cases hq : partsOk L.length d
  · rfl
  · have := partsOk_held hp hq
    rw [show hasB L.length d.a = true from hasB_iff.2 this.1, show hasB L.length d.b = true from hasB_iff.2 this.2.1, show hasB L.length d.c = true from hasB_iff.2 this.2.2] at h
    simp at h

set_option maxRecDepth 100000 in
set_option maxHeartbeats 4000000 in
theorem valid_at0 (b g bm cap lim : Nat) (L : List Nd) (n a b' c : Int) (w : World) (hA : Ar w b g bm cap lim L) (hsh : Shp w) (hn : u64ok n) :
    Calls Tryd.prog 29 #[.pointer (some ⟨b, 0, none⟩), .agg #[.int .i64 0, .int .u64 n, .int .i64 a, .int .i64 b', .int .i64 c]] w fun e w' => e = .returned (.bool (right L ⟨0, n, a, b', c⟩)) ∧ Below w.heap.size w w' := by
  have c0 := hA.c0
  have hb := hA.blt
  have hg := hA.glt
  have q1 : b < w.heap.size + 1 := by omega
  have q2 : b < w.heap.size + 1 + 1 := by omega
  have q3 : g < w.heap.size + 1 := by omega
  have q4 : g < w.heap.size + 1 + 1 := by omega
  have q5 : b < w.heap.size + 1 + 1 + 1 := by omega
  have q6 : g < w.heap.size + 1 + 1 + 1 := by omega
  have hz := hsh.pos
  skip
  have t0 : w.cell? ⟨0, 0, none⟩ = some (.int .u64 0) := (hsh 0 (by omega)).1
  have t1 : w.cell? ⟨0, 1, none⟩ = some (.int .u64 0) := (hsh 0 (by omega)).2.1
  have t2 : w.cell? ⟨0, 2, none⟩ = some (.int .i64 0) := (hsh 0 (by omega)).2.2
  have n0 : 0 ≤ n := hn.1
  have n1 : ¬ maxU < n := by unfold maxU; have := hn.2; omega
  have n2 : decide (maxU < n) = false := by simpa using n1
  clear hn n1 hsh
  have HA := Lib.hid hA; clear hA
  have hHB : (hasB L.length a && (hasB L.length b' && hasB L.length c)) = true ∨ (hasB L.length a && (hasB L.length b' && hasB L.length c)) = false := by
    cases (hasB L.length a && (hasB L.length b' && hasB L.length c)) <;> simp
  have hOB : onlyB 0 a b' c = true ∨ onlyB 0 a b' c = false := by cases onlyB 0 a b' c <;> simp
  rcases hHB with hh | hh
  rotate_left
  · have HF := Lib.hid (right_held_not (L := L) (d := ⟨0, n, a, b', c⟩) HA.out.wf.pos hh)
    have HH := Lib.hid hh; clear hh hOB
    have HO : True := trivial
    go_enter Tryd.func29, Tryd.ntmps29
    go_wp2_with (go_at_call 10; refine (has3_any b (some ⟨g, 0, none⟩) L.length cap _ _ a b' c _ ?_ ?_ ?_ ?_).mono ?_; (go_simp); (go_simp); (go_simp); (go_simp); rintro e w' ⟨rfl, rfl⟩; rw [HH.out])
    go_ret
    exact ⟨by rw [HF.out]; rfl, (((Below.refl _ _).alloc (Nat.le_refl _) _).alloc (by simp) _)⟩
  · have hpo : partsOk L.length ⟨0, n, a, b', c⟩ = onlyB 0 a b' c := partsOk_only hh
    have hbh : 0 ≤ b' ∧ b' < L.length := by simp only [Bool.and_eq_true] at hh; exact hasB_iff.1 hh.2.1
    have HH := Lib.hid hh; clear hh
    by_cases hn0 : n = 0
    rotate_left
    · have HF := Lib.hid (right_num_not (L := L) (d := ⟨0, n, a, b', c⟩) (by simp [numOk, hn0]))
      have hn1 : 0 < n := by omega
      clear hpo hOB hn0 hbh
      go_enter Tryd.func29, Tryd.ntmps29
      go_wp2_with (go_at_call 10; refine (has3_any b (some ⟨g, 0, none⟩) L.length cap _ _ a b' c _ ?_ ?_ ?_ ?_).mono ?_; (go_simp); (go_simp); (go_simp); (go_simp); rintro e w' ⟨rfl, rfl⟩; rw [HH.out])
      go_ret
      exact ⟨by rw [HF.out]; rfl, ((((Below.refl _ _).alloc (Nat.le_refl _) _).alloc (by simp) _).alloc (by simp; omega) _)⟩
    · subst hn0
      have hnum : numOk ⟨0, 0, a, b', c⟩ = true := by simp [numOk]
      rcases hOB with ho | ho
      rotate_left
      · have HF := Lib.hid (right_parts_not (L := L) (d := ⟨0, 0, a, b', c⟩) (by rw [hpo]; exact ho))
        have HO := Lib.hid ho; clear ho hpo hnum hbh
        go_enter Tryd.func29, Tryd.ntmps29
        go_wp2_with (first
          | (go_at_call 10; refine (has3_any b (some ⟨g, 0, none⟩) L.length cap _ _ a b' c _ ?_ ?_ ?_ ?_).mono ?_; (go_simp); (go_simp); (go_simp); (go_simp); rintro e w' ⟨rfl, rfl⟩; rw [HH.out])
          | (go_at_call 36; refine (only_any 0 0 a b' c 0 (by omega) _).mono ?_; rintro e w' ⟨rfl, rfl⟩; rw [HO.out]))
        go_ret
        exact ⟨by rw [HF.out]; rfl, (((((Below.refl _ _).alloc (Nat.le_refl _) _).alloc (by simp) _).alloc (by simp; omega) _).alloc (by simp; omega) _)⟩
      · have HL := Lib.hid (right_last (L := L) (d := ⟨0, 0, a, b', c⟩) (by show 0 ≤ many 0; decide) (by rw [hpo]; exact ho) hnum)
        have HO := Lib.hid ho; clear ho hpo hnum
        have HF := Lib.hid (HL.out.trans (show _ = true by simp [lastOk]))
        clear hbh
        go_enter Tryd.func29, Tryd.ntmps29
        go_wp2_with (first
          | (go_at_call 10; refine (has3_any b (some ⟨g, 0, none⟩) L.length cap _ _ a b' c _ ?_ ?_ ?_ ?_).mono ?_; (go_simp); (go_simp); (go_simp); (go_simp); rintro e w' ⟨rfl, rfl⟩; rw [HH.out])
          | (go_at_call 36; refine (only_any 0 0 a b' c 0 (by omega) _).mono ?_; rintro e w' ⟨rfl, rfl⟩; rw [HO.out]))
        go_ret
        exact ⟨by rw [HF.out]; rfl, (((((Below.refl _ _).alloc (Nat.le_refl _) _).alloc (by simp) _).alloc (by simp; omega) _).alloc (by simp; omega) _)⟩

set_option maxRecDepth 100000 in
set_option maxHeartbeats 4000000 in
theorem valid_at1 (b g bm cap lim : Nat) (L : List Nd) (n a b' c : Int) (w : World) (hA : Ar w b g bm cap lim L) (hsh : Shp w) (hn : u64ok n) :
    Calls Tryd.prog 29 #[.pointer (some ⟨b, 0, none⟩), .agg #[.int .i64 1, .int .u64 n, .int .i64 a, .int .i64 b', .int .i64 c]] w fun e w' => e = .returned (.bool (right L ⟨1, n, a, b', c⟩)) ∧ Below w.heap.size w w' := by
  have c0 := hA.c0
  have hb := hA.blt
  have hg := hA.glt
  have q1 : b < w.heap.size + 1 := by omega
  have q2 : b < w.heap.size + 1 + 1 := by omega
  have q3 : g < w.heap.size + 1 := by omega
  have q4 : g < w.heap.size + 1 + 1 := by omega
  have q5 : b < w.heap.size + 1 + 1 + 1 := by omega
  have q6 : g < w.heap.size + 1 + 1 + 1 := by omega
  have hz := hsh.pos
  skip
  have t0 : w.cell? ⟨0, 3, none⟩ = some (.int .u64 0) := (hsh 1 (by omega)).1
  have t1 : w.cell? ⟨0, 4, none⟩ = some (.int .u64 maxU) := (hsh 1 (by omega)).2.1
  have t2 : w.cell? ⟨0, 5, none⟩ = some (.int .i64 0) := (hsh 1 (by omega)).2.2
  have n0 : 0 ≤ n := hn.1
  have n1 : ¬ maxU < n := by unfold maxU; have := hn.2; omega
  have n2 : decide (maxU < n) = false := by simpa using n1
  clear hn n1 hsh
  have HA := Lib.hid hA; clear hA
  have hHB : (hasB L.length a && (hasB L.length b' && hasB L.length c)) = true ∨ (hasB L.length a && (hasB L.length b' && hasB L.length c)) = false := by
    cases (hasB L.length a && (hasB L.length b' && hasB L.length c)) <;> simp
  have hOB : onlyB 0 a b' c = true ∨ onlyB 0 a b' c = false := by cases onlyB 0 a b' c <;> simp
  rcases hHB with hh | hh
  rotate_left
  · have HF := Lib.hid (right_held_not (L := L) (d := ⟨1, n, a, b', c⟩) HA.out.wf.pos hh)
    have HH := Lib.hid hh; clear hh hOB
    have HO : True := trivial
    go_enter Tryd.func29, Tryd.ntmps29
    go_wp2_with (go_at_call 10; refine (has3_any b (some ⟨g, 0, none⟩) L.length cap _ _ a b' c _ ?_ ?_ ?_ ?_).mono ?_; (go_simp); (go_simp); (go_simp); (go_simp); rintro e w' ⟨rfl, rfl⟩; rw [HH.out])
    go_ret
    exact ⟨by rw [HF.out]; rfl, (((Below.refl _ _).alloc (Nat.le_refl _) _).alloc (by simp) _)⟩
  · have hpo : partsOk L.length ⟨1, n, a, b', c⟩ = onlyB 0 a b' c := partsOk_only hh
    have hbh : 0 ≤ b' ∧ b' < L.length := by simp only [Bool.and_eq_true] at hh; exact hasB_iff.1 hh.2.1
    have HH := Lib.hid hh; clear hh
    · have hnum : numOk ⟨1, n, a, b', c⟩ = true := by simp [numOk]
      rcases hOB with ho | ho
      rotate_left
      · have HF := Lib.hid (right_parts_not (L := L) (d := ⟨1, n, a, b', c⟩) (by rw [hpo]; exact ho))
        have HO := Lib.hid ho; clear ho hpo hnum hbh
        go_enter Tryd.func29, Tryd.ntmps29
        go_wp2_with (first
          | (go_at_call 10; refine (has3_any b (some ⟨g, 0, none⟩) L.length cap _ _ a b' c _ ?_ ?_ ?_ ?_).mono ?_; (go_simp); (go_simp); (go_simp); (go_simp); rintro e w' ⟨rfl, rfl⟩; rw [HH.out])
          | (go_at_call 36; refine (only_any 1 n a b' c 0 (by omega) _).mono ?_; rintro e w' ⟨rfl, rfl⟩; rw [HO.out]))
        go_ret
        exact ⟨by rw [HF.out]; rfl, (((((Below.refl _ _).alloc (Nat.le_refl _) _).alloc (by simp) _).alloc (by simp; omega) _).alloc (by simp; omega) _)⟩
      · have HL := Lib.hid (right_last (L := L) (d := ⟨1, n, a, b', c⟩) (by show 0 ≤ many 1; decide) (by rw [hpo]; exact ho) hnum)
        have HO := Lib.hid ho; clear ho hpo hnum
        have HF := Lib.hid (HL.out.trans (show _ = true by simp [lastOk]))
        clear hbh
        go_enter Tryd.func29, Tryd.ntmps29
        go_wp2_with (first
          | (go_at_call 10; refine (has3_any b (some ⟨g, 0, none⟩) L.length cap _ _ a b' c _ ?_ ?_ ?_ ?_).mono ?_; (go_simp); (go_simp); (go_simp); (go_simp); rintro e w' ⟨rfl, rfl⟩; rw [HH.out])
          | (go_at_call 36; refine (only_any 1 n a b' c 0 (by omega) _).mono ?_; rintro e w' ⟨rfl, rfl⟩; rw [HO.out]))
        go_ret
        exact ⟨by rw [HF.out]; rfl, (((((Below.refl _ _).alloc (Nat.le_refl _) _).alloc (by simp) _).alloc (by simp; omega) _).alloc (by simp; omega) _)⟩

set_option maxRecDepth 100000 in
set_option maxHeartbeats 4000000 in
theorem valid_at2 (b g bm cap lim : Nat) (L : List Nd) (n a b' c : Int) (w : World) (hA : Ar w b g bm cap lim L) (hsh : Shp w) (hn : u64ok n) :
    Calls Tryd.prog 29 #[.pointer (some ⟨b, 0, none⟩), .agg #[.int .i64 2, .int .u64 n, .int .i64 a, .int .i64 b', .int .i64 c]] w fun e w' => e = .returned (.bool (right L ⟨2, n, a, b', c⟩)) ∧ Below w.heap.size w w' := by
  have c0 := hA.c0
  have hb := hA.blt
  have hg := hA.glt
  have q1 : b < w.heap.size + 1 := by omega
  have q2 : b < w.heap.size + 1 + 1 := by omega
  have q3 : g < w.heap.size + 1 := by omega
  have q4 : g < w.heap.size + 1 + 1 := by omega
  have q5 : b < w.heap.size + 1 + 1 + 1 := by omega
  have q6 : g < w.heap.size + 1 + 1 + 1 := by omega
  have hz := hsh.pos
  skip
  have t0 : w.cell? ⟨0, 6, none⟩ = some (.int .u64 0) := (hsh 2 (by omega)).1
  have t1 : w.cell? ⟨0, 7, none⟩ = some (.int .u64 0) := (hsh 2 (by omega)).2.1
  have t2 : w.cell? ⟨0, 8, none⟩ = some (.int .i64 1) := (hsh 2 (by omega)).2.2
  have n0 : 0 ≤ n := hn.1
  have n1 : ¬ maxU < n := by unfold maxU; have := hn.2; omega
  have n2 : decide (maxU < n) = false := by simpa using n1
  clear hn n1 hsh
  have HA := Lib.hid hA; clear hA
  have hHB : (hasB L.length a && (hasB L.length b' && hasB L.length c)) = true ∨ (hasB L.length a && (hasB L.length b' && hasB L.length c)) = false := by
    cases (hasB L.length a && (hasB L.length b' && hasB L.length c)) <;> simp
  have hOB : onlyB 1 a b' c = true ∨ onlyB 1 a b' c = false := by cases onlyB 1 a b' c <;> simp
  rcases hHB with hh | hh
  rotate_left
  · have HF := Lib.hid (right_held_not (L := L) (d := ⟨2, n, a, b', c⟩) HA.out.wf.pos hh)
    have HH := Lib.hid hh; clear hh hOB
    have HO : True := trivial
    go_enter Tryd.func29, Tryd.ntmps29
    go_wp2_with (go_at_call 10; refine (has3_any b (some ⟨g, 0, none⟩) L.length cap _ _ a b' c _ ?_ ?_ ?_ ?_).mono ?_; (go_simp); (go_simp); (go_simp); (go_simp); rintro e w' ⟨rfl, rfl⟩; rw [HH.out])
    go_ret
    exact ⟨by rw [HF.out]; rfl, (((Below.refl _ _).alloc (Nat.le_refl _) _).alloc (by simp) _)⟩
  · have hpo : partsOk L.length ⟨2, n, a, b', c⟩ = onlyB 1 a b' c := partsOk_only hh
    have hbh : 0 ≤ b' ∧ b' < L.length := by simp only [Bool.and_eq_true] at hh; exact hasB_iff.1 hh.2.1
    have HH := Lib.hid hh; clear hh
    by_cases hn0 : n = 0
    rotate_left
    · have HF := Lib.hid (right_num_not (L := L) (d := ⟨2, n, a, b', c⟩) (by simp [numOk, hn0]))
      have hn1 : 0 < n := by omega
      clear hpo hOB hn0 hbh
      go_enter Tryd.func29, Tryd.ntmps29
      go_wp2_with (go_at_call 10; refine (has3_any b (some ⟨g, 0, none⟩) L.length cap _ _ a b' c _ ?_ ?_ ?_ ?_).mono ?_; (go_simp); (go_simp); (go_simp); (go_simp); rintro e w' ⟨rfl, rfl⟩; rw [HH.out])
      go_ret
      exact ⟨by rw [HF.out]; rfl, ((((Below.refl _ _).alloc (Nat.le_refl _) _).alloc (by simp) _).alloc (by simp; omega) _)⟩
    · subst hn0
      have hnum : numOk ⟨2, 0, a, b', c⟩ = true := by simp [numOk]
      rcases hOB with ho | ho
      rotate_left
      · have HF := Lib.hid (right_parts_not (L := L) (d := ⟨2, 0, a, b', c⟩) (by rw [hpo]; exact ho))
        have HO := Lib.hid ho; clear ho hpo hnum hbh
        go_enter Tryd.func29, Tryd.ntmps29
        go_wp2_with (first
          | (go_at_call 10; refine (has3_any b (some ⟨g, 0, none⟩) L.length cap _ _ a b' c _ ?_ ?_ ?_ ?_).mono ?_; (go_simp); (go_simp); (go_simp); (go_simp); rintro e w' ⟨rfl, rfl⟩; rw [HH.out])
          | (go_at_call 36; refine (only_any 2 0 a b' c 1 (by omega) _).mono ?_; rintro e w' ⟨rfl, rfl⟩; rw [HO.out]))
        go_ret
        exact ⟨by rw [HF.out]; rfl, (((((Below.refl _ _).alloc (Nat.le_refl _) _).alloc (by simp) _).alloc (by simp; omega) _).alloc (by simp; omega) _)⟩
      · have HL := Lib.hid (right_last (L := L) (d := ⟨2, 0, a, b', c⟩) (by show 0 ≤ many 2; decide) (by rw [hpo]; exact ho) hnum)
        have HO := Lib.hid ho; clear ho hpo hnum
        have HF := Lib.hid (HL.out.trans (show _ = true by simp [lastOk]))
        clear hbh
        go_enter Tryd.func29, Tryd.ntmps29
        go_wp2_with (first
          | (go_at_call 10; refine (has3_any b (some ⟨g, 0, none⟩) L.length cap _ _ a b' c _ ?_ ?_ ?_ ?_).mono ?_; (go_simp); (go_simp); (go_simp); (go_simp); rintro e w' ⟨rfl, rfl⟩; rw [HH.out])
          | (go_at_call 36; refine (only_any 2 0 a b' c 1 (by omega) _).mono ?_; rintro e w' ⟨rfl, rfl⟩; rw [HO.out]))
        go_ret
        exact ⟨by rw [HF.out]; rfl, (((((Below.refl _ _).alloc (Nat.le_refl _) _).alloc (by simp) _).alloc (by simp; omega) _).alloc (by simp; omega) _)⟩

set_option maxRecDepth 100000 in
set_option maxHeartbeats 4000000 in
theorem valid_at3 (b g bm cap lim : Nat) (L : List Nd) (n a b' c : Int) (w : World) (hA : Ar w b g bm cap lim L) (hsh : Shp w) (hn : u64ok n) :
    Calls Tryd.prog 29 #[.pointer (some ⟨b, 0, none⟩), .agg #[.int .i64 3, .int .u64 n, .int .i64 a, .int .i64 b', .int .i64 c]] w fun e w' => e = .returned (.bool (right L ⟨3, n, a, b', c⟩)) ∧ Below w.heap.size w w' := by
  have c0 := hA.c0
  have hb := hA.blt
  have hg := hA.glt
  have q1 : b < w.heap.size + 1 := by omega
  have q2 : b < w.heap.size + 1 + 1 := by omega
  have q3 : g < w.heap.size + 1 := by omega
  have q4 : g < w.heap.size + 1 + 1 := by omega
  have q5 : b < w.heap.size + 1 + 1 + 1 := by omega
  have q6 : g < w.heap.size + 1 + 1 + 1 := by omega
  have hz := hsh.pos
  skip
  have t0 : w.cell? ⟨0, 9, none⟩ = some (.int .u64 0) := (hsh 3 (by omega)).1
  have t1 : w.cell? ⟨0, 10, none⟩ = some (.int .u64 0) := (hsh 3 (by omega)).2.1
  have t2 : w.cell? ⟨0, 11, none⟩ = some (.int .i64 2) := (hsh 3 (by omega)).2.2
  have n0 : 0 ≤ n := hn.1
  have n1 : ¬ maxU < n := by unfold maxU; have := hn.2; omega
  have n2 : decide (maxU < n) = false := by simpa using n1
  clear hn n1 hsh
  have HA := Lib.hid hA; clear hA
  have hHB : (hasB L.length a && (hasB L.length b' && hasB L.length c)) = true ∨ (hasB L.length a && (hasB L.length b' && hasB L.length c)) = false := by
    cases (hasB L.length a && (hasB L.length b' && hasB L.length c)) <;> simp
  have hOB : onlyB 2 a b' c = true ∨ onlyB 2 a b' c = false := by cases onlyB 2 a b' c <;> simp
  rcases hHB with hh | hh
  rotate_left
  · have HF := Lib.hid (right_held_not (L := L) (d := ⟨3, n, a, b', c⟩) HA.out.wf.pos hh)
    have HH := Lib.hid hh; clear hh hOB
    have HO : True := trivial
    go_enter Tryd.func29, Tryd.ntmps29
    go_wp2_with (go_at_call 10; refine (has3_any b (some ⟨g, 0, none⟩) L.length cap _ _ a b' c _ ?_ ?_ ?_ ?_).mono ?_; (go_simp); (go_simp); (go_simp); (go_simp); rintro e w' ⟨rfl, rfl⟩; rw [HH.out])
    go_ret
    exact ⟨by rw [HF.out]; rfl, (((Below.refl _ _).alloc (Nat.le_refl _) _).alloc (by simp) _)⟩
  · have hpo : partsOk L.length ⟨3, n, a, b', c⟩ = onlyB 2 a b' c := partsOk_only hh
    have hbh : 0 ≤ b' ∧ b' < L.length := by simp only [Bool.and_eq_true] at hh; exact hasB_iff.1 hh.2.1
    have HH := Lib.hid hh; clear hh
    by_cases hn0 : n = 0
    rotate_left
    · have HF := Lib.hid (right_num_not (L := L) (d := ⟨3, n, a, b', c⟩) (by simp [numOk, hn0]))
      have hn1 : 0 < n := by omega
      clear hpo hOB hn0 hbh
      go_enter Tryd.func29, Tryd.ntmps29
      go_wp2_with (go_at_call 10; refine (has3_any b (some ⟨g, 0, none⟩) L.length cap _ _ a b' c _ ?_ ?_ ?_ ?_).mono ?_; (go_simp); (go_simp); (go_simp); (go_simp); rintro e w' ⟨rfl, rfl⟩; rw [HH.out])
      go_ret
      exact ⟨by rw [HF.out]; rfl, ((((Below.refl _ _).alloc (Nat.le_refl _) _).alloc (by simp) _).alloc (by simp; omega) _)⟩
    · subst hn0
      have hnum : numOk ⟨3, 0, a, b', c⟩ = true := by simp [numOk]
      rcases hOB with ho | ho
      rotate_left
      · have HF := Lib.hid (right_parts_not (L := L) (d := ⟨3, 0, a, b', c⟩) (by rw [hpo]; exact ho))
        have HO := Lib.hid ho; clear ho hpo hnum hbh
        go_enter Tryd.func29, Tryd.ntmps29
        go_wp2_with (first
          | (go_at_call 10; refine (has3_any b (some ⟨g, 0, none⟩) L.length cap _ _ a b' c _ ?_ ?_ ?_ ?_).mono ?_; (go_simp); (go_simp); (go_simp); (go_simp); rintro e w' ⟨rfl, rfl⟩; rw [HH.out])
          | (go_at_call 36; refine (only_any 3 0 a b' c 2 (by omega) _).mono ?_; rintro e w' ⟨rfl, rfl⟩; rw [HO.out]))
        go_ret
        exact ⟨by rw [HF.out]; rfl, (((((Below.refl _ _).alloc (Nat.le_refl _) _).alloc (by simp) _).alloc (by simp; omega) _).alloc (by simp; omega) _)⟩
      · have HL := Lib.hid (right_last (L := L) (d := ⟨3, 0, a, b', c⟩) (by show 0 ≤ many 3; decide) (by rw [hpo]; exact ho) hnum)
        have HO := Lib.hid ho; clear ho hpo hnum
        have HF := Lib.hid (HL.out.trans (show _ = decide (cmp L a b' ≤ 0) by simp [lastOk]))
        have HCC := Lib.hid (fun o1 o2 o3 o4 => compare_any b g cap L a b' ((((w.alloc o1).alloc o2).alloc o3).alloc o4) (by rw [World.cell?_alloc_lt _ _ _ (by simp; omega), World.cell?_alloc_lt _ _ _ (by simp; omega), World.cell?_alloc_lt _ _ _ (by simp; omega), World.cell?_alloc_lt _ _ _ hb]; exact c0) (HA.out.row.keep (by rw [Below.heap_alloc _ _ _ (by simp; omega), Below.heap_alloc _ _ _ (by simp; omega), Below.heap_alloc _ _ _ (by simp; omega), Below.heap_alloc _ _ _ hg])) HA.out.wf.toWFp HA.out.small (by simp; omega) (by simp; omega))
        clear hbh
        go_enter Tryd.func29, Tryd.ntmps29
        go_wp2_with (first
          | (go_at_call 10; refine (has3_any b (some ⟨g, 0, none⟩) L.length cap _ _ a b' c _ ?_ ?_ ?_ ?_).mono ?_; (go_simp); (go_simp); (go_simp); (go_simp); rintro e w' ⟨rfl, rfl⟩; rw [HH.out])
          | (go_at_call 36; refine (only_any 3 0 a b' c 2 (by omega) _).mono ?_; rintro e w' ⟨rfl, rfl⟩; rw [HO.out])
          | (go_at_call 37; refine (HCC.out _ _ _ _).mono ?_; rintro e w' ⟨rfl, hb2⟩))
        all_goals
          go_ret
          exact ⟨by rw [HF.out]; simp [*], (((((Below.refl _ _).alloc (Nat.le_refl _) _).alloc (by simp) _).alloc (by simp; omega) _).alloc (by simp; omega) _).trans (hb2.mono (by simp; omega))⟩

set_option maxRecDepth 100000 in
set_option maxHeartbeats 4000000 in
theorem valid_at4 (b g bm cap lim : Nat) (L : List Nd) (n a b' c : Int) (w : World) (hA : Ar w b g bm cap lim L) (hsh : Shp w) (hn : u64ok n) :
    Calls Tryd.prog 29 #[.pointer (some ⟨b, 0, none⟩), .agg #[.int .i64 4, .int .u64 n, .int .i64 a, .int .i64 b', .int .i64 c]] w fun e w' => e = .returned (.bool (right L ⟨4, n, a, b', c⟩)) ∧ Below w.heap.size w w' := by
  have c0 := hA.c0
  have hb := hA.blt
  have hg := hA.glt
  have q1 : b < w.heap.size + 1 := by omega
  have q2 : b < w.heap.size + 1 + 1 := by omega
  have q3 : g < w.heap.size + 1 := by omega
  have q4 : g < w.heap.size + 1 + 1 := by omega
  have q5 : b < w.heap.size + 1 + 1 + 1 := by omega
  have q6 : g < w.heap.size + 1 + 1 + 1 := by omega
  have hz := hsh.pos
  skip
  have t0 : w.cell? ⟨0, 12, none⟩ = some (.int .u64 0) := (hsh 4 (by omega)).1
  have t1 : w.cell? ⟨0, 13, none⟩ = some (.int .u64 0) := (hsh 4 (by omega)).2.1
  have t2 : w.cell? ⟨0, 14, none⟩ = some (.int .i64 2) := (hsh 4 (by omega)).2.2
  have n0 : 0 ≤ n := hn.1
  have n1 : ¬ maxU < n := by unfold maxU; have := hn.2; omega
  have n2 : decide (maxU < n) = false := by simpa using n1
  clear hn n1 hsh
  have HA := Lib.hid hA; clear hA
  have hHB : (hasB L.length a && (hasB L.length b' && hasB L.length c)) = true ∨ (hasB L.length a && (hasB L.length b' && hasB L.length c)) = false := by
    cases (hasB L.length a && (hasB L.length b' && hasB L.length c)) <;> simp
  have hOB : onlyB 2 a b' c = true ∨ onlyB 2 a b' c = false := by cases onlyB 2 a b' c <;> simp
  rcases hHB with hh | hh
  rotate_left
  · have HF := Lib.hid (right_held_not (L := L) (d := ⟨4, n, a, b', c⟩) HA.out.wf.pos hh)
    have HH := Lib.hid hh; clear hh hOB
    have HO : True := trivial
    go_enter Tryd.func29, Tryd.ntmps29
    go_wp2_with (go_at_call 10; refine (has3_any b (some ⟨g, 0, none⟩) L.length cap _ _ a b' c _ ?_ ?_ ?_ ?_).mono ?_; (go_simp); (go_simp); (go_simp); (go_simp); rintro e w' ⟨rfl, rfl⟩; rw [HH.out])
    go_ret
    exact ⟨by rw [HF.out]; rfl, (((Below.refl _ _).alloc (Nat.le_refl _) _).alloc (by simp) _)⟩
  · have hpo : partsOk L.length ⟨4, n, a, b', c⟩ = onlyB 2 a b' c := partsOk_only hh
    have hbh : 0 ≤ b' ∧ b' < L.length := by simp only [Bool.and_eq_true] at hh; exact hasB_iff.1 hh.2.1
    have HH := Lib.hid hh; clear hh
    by_cases hn0 : n = 0
    rotate_left
    · have HF := Lib.hid (right_num_not (L := L) (d := ⟨4, n, a, b', c⟩) (by simp [numOk, hn0]))
      have hn1 : 0 < n := by omega
      clear hpo hOB hn0 hbh
      go_enter Tryd.func29, Tryd.ntmps29
      go_wp2_with (go_at_call 10; refine (has3_any b (some ⟨g, 0, none⟩) L.length cap _ _ a b' c _ ?_ ?_ ?_ ?_).mono ?_; (go_simp); (go_simp); (go_simp); (go_simp); rintro e w' ⟨rfl, rfl⟩; rw [HH.out])
      go_ret
      exact ⟨by rw [HF.out]; rfl, ((((Below.refl _ _).alloc (Nat.le_refl _) _).alloc (by simp) _).alloc (by simp; omega) _)⟩
    · subst hn0
      have hnum : numOk ⟨4, 0, a, b', c⟩ = true := by simp [numOk]
      rcases hOB with ho | ho
      rotate_left
      · have HF := Lib.hid (right_parts_not (L := L) (d := ⟨4, 0, a, b', c⟩) (by rw [hpo]; exact ho))
        have HO := Lib.hid ho; clear ho hpo hnum hbh
        go_enter Tryd.func29, Tryd.ntmps29
        go_wp2_with (first
          | (go_at_call 10; refine (has3_any b (some ⟨g, 0, none⟩) L.length cap _ _ a b' c _ ?_ ?_ ?_ ?_).mono ?_; (go_simp); (go_simp); (go_simp); (go_simp); rintro e w' ⟨rfl, rfl⟩; rw [HH.out])
          | (go_at_call 36; refine (only_any 4 0 a b' c 2 (by omega) _).mono ?_; rintro e w' ⟨rfl, rfl⟩; rw [HO.out]))
        go_ret
        exact ⟨by rw [HF.out]; rfl, (((((Below.refl _ _).alloc (Nat.le_refl _) _).alloc (by simp) _).alloc (by simp; omega) _).alloc (by simp; omega) _)⟩
      · have HL := Lib.hid (right_last (L := L) (d := ⟨4, 0, a, b', c⟩) (by show 0 ≤ many 4; decide) (by rw [hpo]; exact ho) hnum)
        have HO := Lib.hid ho; clear ho hpo hnum
        obtain ⟨j, rfl⟩ := Int.eq_ofNat_of_zero_le hbh.1
        have hj : j < L.length := by omega
        have rj := (HA.out.row j hj).1
        obtain ⟨kb, hkb⟩ : ∃ kb, kb = (L.getD j zN).k := ⟨_, rfl⟩
        rw [← hkb] at rj
        have hnd : (nd L (j : Int)).k = kb := by unfold nd; rw [Int.toNat_natCast, hkb]
        have q7 : b < w.heap.size + 1 + 1 + 1 + 1 := by omega
        have q8 : g < w.heap.size + 1 + 1 + 1 + 1 := by omega
        clear hkb hbh
        by_cases hk2 : kb = 2
        · subst hk2
          have HF := Lib.hid (HL.out.trans (show _ = false by simp [lastOk, hnd]))
          clear hnd
          go_enter Tryd.func29, Tryd.ntmps29
          go_wp2_with (first
            | (go_at_call 10; refine (has3_any b (some ⟨g, 0, none⟩) L.length cap _ _ a (j : Int) c _ ?_ ?_ ?_ ?_).mono ?_; (go_simp); (go_simp); (go_simp); (go_simp); rintro e w' ⟨rfl, rfl⟩; rw [HH.out])
            | (go_at_call 36; refine (only_any 4 0 a (j : Int) c 2 (by omega) _).mono ?_; rintro e w' ⟨rfl, rfl⟩; rw [HO.out]))
          go_quiet (fail)
          go_wp2_with fail
          go_ret
          exact ⟨by rw [HF.out]; rfl, belowDrewN (((((Below.refl _ _).alloc (Nat.le_refl _) _).alloc (by simp) _).alloc (by simp; omega) _).alloc (by simp; omega) _)⟩
        · have hk3 : (kb != 2) = true := by simpa using hk2
          have HF := Lib.hid (HL.out.trans (show _ = true by simp [lastOk, hnd, hk2]))
          clear hnd hk2
          go_enter Tryd.func29, Tryd.ntmps29
          go_wp2_with (first
            | (go_at_call 10; refine (has3_any b (some ⟨g, 0, none⟩) L.length cap _ _ a (j : Int) c _ ?_ ?_ ?_ ?_).mono ?_; (go_simp); (go_simp); (go_simp); (go_simp); rintro e w' ⟨rfl, rfl⟩; rw [HH.out])
            | (go_at_call 36; refine (only_any 4 0 a (j : Int) c 2 (by omega) _).mono ?_; rintro e w' ⟨rfl, rfl⟩; rw [HO.out]))
          go_quiet (fail)
          go_wp2_with fail
          go_ret
          exact ⟨by rw [HF.out]; rfl, belowDrewN (((((Below.refl _ _).alloc (Nat.le_refl _) _).alloc (by simp) _).alloc (by simp; omega) _).alloc (by simp; omega) _)⟩

set_option maxRecDepth 100000 in
set_option maxHeartbeats 4000000 in
theorem valid_at5 (b g bm cap lim : Nat) (L : List Nd) (n a b' c : Int) (w : World) (hA : Ar w b g bm cap lim L) (hsh : Shp w) (hn : u64ok n) :
    Calls Tryd.prog 29 #[.pointer (some ⟨b, 0, none⟩), .agg #[.int .i64 5, .int .u64 n, .int .i64 a, .int .i64 b', .int .i64 c]] w fun e w' => e = .returned (.bool (right L ⟨5, n, a, b', c⟩)) ∧ Below w.heap.size w w' := by
  have c0 := hA.c0
  have hb := hA.blt
  have hg := hA.glt
  have q1 : b < w.heap.size + 1 := by omega
  have q2 : b < w.heap.size + 1 + 1 := by omega
  have q3 : g < w.heap.size + 1 := by omega
  have q4 : g < w.heap.size + 1 + 1 := by omega
  have q5 : b < w.heap.size + 1 + 1 + 1 := by omega
  have q6 : g < w.heap.size + 1 + 1 + 1 := by omega
  have hz := hsh.pos
  skip
  have t0 : w.cell? ⟨0, 15, none⟩ = some (.int .u64 0) := (hsh 5 (by omega)).1
  have t1 : w.cell? ⟨0, 16, none⟩ = some (.int .u64 0) := (hsh 5 (by omega)).2.1
  have t2 : w.cell? ⟨0, 17, none⟩ = some (.int .i64 2) := (hsh 5 (by omega)).2.2
  have n0 : 0 ≤ n := hn.1
  have n1 : ¬ maxU < n := by unfold maxU; have := hn.2; omega
  have n2 : decide (maxU < n) = false := by simpa using n1
  clear hn n1 hsh
  have HA := Lib.hid hA; clear hA
  have hHB : (hasB L.length a && (hasB L.length b' && hasB L.length c)) = true ∨ (hasB L.length a && (hasB L.length b' && hasB L.length c)) = false := by
    cases (hasB L.length a && (hasB L.length b' && hasB L.length c)) <;> simp
  have hOB : onlyB 2 a b' c = true ∨ onlyB 2 a b' c = false := by cases onlyB 2 a b' c <;> simp
  rcases hHB with hh | hh
  rotate_left
  · have HF := Lib.hid (right_held_not (L := L) (d := ⟨5, n, a, b', c⟩) HA.out.wf.pos hh)
    have HH := Lib.hid hh; clear hh hOB
    have HO : True := trivial
    go_enter Tryd.func29, Tryd.ntmps29
    go_wp2_with (go_at_call 10; refine (has3_any b (some ⟨g, 0, none⟩) L.length cap _ _ a b' c _ ?_ ?_ ?_ ?_).mono ?_; (go_simp); (go_simp); (go_simp); (go_simp); rintro e w' ⟨rfl, rfl⟩; rw [HH.out])
    go_ret
    exact ⟨by rw [HF.out]; rfl, (((Below.refl _ _).alloc (Nat.le_refl _) _).alloc (by simp) _)⟩
  · have hpo : partsOk L.length ⟨5, n, a, b', c⟩ = onlyB 2 a b' c := partsOk_only hh
    have hbh : 0 ≤ b' ∧ b' < L.length := by simp only [Bool.and_eq_true] at hh; exact hasB_iff.1 hh.2.1
    have HH := Lib.hid hh; clear hh
    by_cases hn0 : n = 0
    rotate_left
    · have HF := Lib.hid (right_num_not (L := L) (d := ⟨5, n, a, b', c⟩) (by simp [numOk, hn0]))
      have hn1 : 0 < n := by omega
      clear hpo hOB hn0 hbh
      go_enter Tryd.func29, Tryd.ntmps29
      go_wp2_with (go_at_call 10; refine (has3_any b (some ⟨g, 0, none⟩) L.length cap _ _ a b' c _ ?_ ?_ ?_ ?_).mono ?_; (go_simp); (go_simp); (go_simp); (go_simp); rintro e w' ⟨rfl, rfl⟩; rw [HH.out])
      go_ret
      exact ⟨by rw [HF.out]; rfl, ((((Below.refl _ _).alloc (Nat.le_refl _) _).alloc (by simp) _).alloc (by simp; omega) _)⟩
    · subst hn0
      have hnum : numOk ⟨5, 0, a, b', c⟩ = true := by simp [numOk]
      rcases hOB with ho | ho
      rotate_left
      · have HF := Lib.hid (right_parts_not (L := L) (d := ⟨5, 0, a, b', c⟩) (by rw [hpo]; exact ho))
        have HO := Lib.hid ho; clear ho hpo hnum hbh
        go_enter Tryd.func29, Tryd.ntmps29
        go_wp2_with (first
          | (go_at_call 10; refine (has3_any b (some ⟨g, 0, none⟩) L.length cap _ _ a b' c _ ?_ ?_ ?_ ?_).mono ?_; (go_simp); (go_simp); (go_simp); (go_simp); rintro e w' ⟨rfl, rfl⟩; rw [HH.out])
          | (go_at_call 36; refine (only_any 5 0 a b' c 2 (by omega) _).mono ?_; rintro e w' ⟨rfl, rfl⟩; rw [HO.out]))
        go_ret
        exact ⟨by rw [HF.out]; rfl, (((((Below.refl _ _).alloc (Nat.le_refl _) _).alloc (by simp) _).alloc (by simp; omega) _).alloc (by simp; omega) _)⟩
      · have HL := Lib.hid (right_last (L := L) (d := ⟨5, 0, a, b', c⟩) (by show 0 ≤ many 5; decide) (by rw [hpo]; exact ho) hnum)
        have HO := Lib.hid ho; clear ho hpo hnum
        have HF := Lib.hid (HL.out.trans (show _ = true by simp [lastOk]))
        clear hbh
        go_enter Tryd.func29, Tryd.ntmps29
        go_wp2_with (first
          | (go_at_call 10; refine (has3_any b (some ⟨g, 0, none⟩) L.length cap _ _ a b' c _ ?_ ?_ ?_ ?_).mono ?_; (go_simp); (go_simp); (go_simp); (go_simp); rintro e w' ⟨rfl, rfl⟩; rw [HH.out])
          | (go_at_call 36; refine (only_any 5 0 a b' c 2 (by omega) _).mono ?_; rintro e w' ⟨rfl, rfl⟩; rw [HO.out]))
        go_ret
        exact ⟨by rw [HF.out]; rfl, (((((Below.refl _ _).alloc (Nat.le_refl _) _).alloc (by simp) _).alloc (by simp; omega) _).alloc (by simp; omega) _)⟩

set_option maxRecDepth 100000 in
set_option maxHeartbeats 4000000 in
theorem valid_at6 (b g bm cap lim : Nat) (L : List Nd) (n a b' c : Int) (w : World) (hA : Ar w b g bm cap lim L) (hsh : Shp w) (hn : u64ok n) :
    Calls Tryd.prog 29 #[.pointer (some ⟨b, 0, none⟩), .agg #[.int .i64 6, .int .u64 n, .int .i64 a, .int .i64 b', .int .i64 c]] w fun e w' => e = .returned (.bool (right L ⟨6, n, a, b', c⟩)) ∧ Below w.heap.size w w' := by
  have c0 := hA.c0
  have hb := hA.blt
  have hg := hA.glt
  have q1 : b < w.heap.size + 1 := by omega
  have q2 : b < w.heap.size + 1 + 1 := by omega
  have q3 : g < w.heap.size + 1 := by omega
  have q4 : g < w.heap.size + 1 + 1 := by omega
  have q5 : b < w.heap.size + 1 + 1 + 1 := by omega
  have q6 : g < w.heap.size + 1 + 1 + 1 := by omega
  have hz := hsh.pos
  skip
  have t0 : w.cell? ⟨0, 18, none⟩ = some (.int .u64 1) := (hsh 6 (by omega)).1
  have t1 : w.cell? ⟨0, 19, none⟩ = some (.int .u64 4) := (hsh 6 (by omega)).2.1
  have t2 : w.cell? ⟨0, 20, none⟩ = some (.int .i64 2) := (hsh 6 (by omega)).2.2
  have n0 : 0 ≤ n := hn.1
  have n1 : ¬ maxU < n := by unfold maxU; have := hn.2; omega
  have n2 : decide (maxU < n) = false := by simpa using n1
  clear hn n1 hsh
  have HA := Lib.hid hA; clear hA
  have hHB : (hasB L.length a && (hasB L.length b' && hasB L.length c)) = true ∨ (hasB L.length a && (hasB L.length b' && hasB L.length c)) = false := by
    cases (hasB L.length a && (hasB L.length b' && hasB L.length c)) <;> simp
  have hOB : onlyB 2 a b' c = true ∨ onlyB 2 a b' c = false := by cases onlyB 2 a b' c <;> simp
  rcases hHB with hh | hh
  rotate_left
  · have HF := Lib.hid (right_held_not (L := L) (d := ⟨6, n, a, b', c⟩) HA.out.wf.pos hh)
    have HH := Lib.hid hh; clear hh hOB
    have HO : True := trivial
    go_enter Tryd.func29, Tryd.ntmps29
    go_wp2_with (go_at_call 10; refine (has3_any b (some ⟨g, 0, none⟩) L.length cap _ _ a b' c _ ?_ ?_ ?_ ?_).mono ?_; (go_simp); (go_simp); (go_simp); (go_simp); rintro e w' ⟨rfl, rfl⟩; rw [HH.out])
    go_ret
    exact ⟨by rw [HF.out]; rfl, (((Below.refl _ _).alloc (Nat.le_refl _) _).alloc (by simp) _)⟩
  · have hpo : partsOk L.length ⟨6, n, a, b', c⟩ = onlyB 2 a b' c := partsOk_only hh
    have hbh : 0 ≤ b' ∧ b' < L.length := by simp only [Bool.and_eq_true] at hh; exact hasB_iff.1 hh.2.1
    have HH := Lib.hid hh; clear hh
    by_cases hn0 : n < 1
    · have HF := Lib.hid (right_num_not (L := L) (d := ⟨6, n, a, b', c⟩) (by simp [numOk]; omega))
      clear hpo hOB hbh
      go_enter Tryd.func29, Tryd.ntmps29
      go_wp2_with (go_at_call 10; refine (has3_any b (some ⟨g, 0, none⟩) L.length cap _ _ a b' c _ ?_ ?_ ?_ ?_).mono ?_; (go_simp); (go_simp); (go_simp); (go_simp); rintro e w' ⟨rfl, rfl⟩; rw [HH.out])
      go_ret
      exact ⟨by rw [HF.out]; rfl, ((((Below.refl _ _).alloc (Nat.le_refl _) _).alloc (by simp) _).alloc (by simp; omega) _)⟩
    by_cases hn4 : 4 < n
    · have HF := Lib.hid (right_num_not (L := L) (d := ⟨6, n, a, b', c⟩) (by simp [numOk]; omega))
      have hd : decide (n < 1) = false := by simpa using hn0
      clear hpo hOB hbh hn0
      go_enter Tryd.func29, Tryd.ntmps29
      go_wp2_with (go_at_call 10; refine (has3_any b (some ⟨g, 0, none⟩) L.length cap _ _ a b' c _ ?_ ?_ ?_ ?_).mono ?_; (go_simp); (go_simp); (go_simp); (go_simp); rintro e w' ⟨rfl, rfl⟩; rw [HH.out])
      go_ret
      exact ⟨by rw [HF.out]; rfl, ((((Below.refl _ _).alloc (Nat.le_refl _) _).alloc (by simp) _).alloc (by simp; omega) _)⟩
    · have hd : decide (n < 1) = false := by simpa using hn0
      have hd2 : decide (4 < n) = false := by simpa using hn4
      have hnum : numOk ⟨6, n, a, b', c⟩ = true := by simp [numOk]; omega
      clear hn0 hn4
      rcases hOB with ho | ho
      rotate_left
      · have HF := Lib.hid (right_parts_not (L := L) (d := ⟨6, n, a, b', c⟩) (by rw [hpo]; exact ho))
        have HO := Lib.hid ho; clear ho hpo hnum hbh
        go_enter Tryd.func29, Tryd.ntmps29
        go_wp2_with (first
          | (go_at_call 10; refine (has3_any b (some ⟨g, 0, none⟩) L.length cap _ _ a b' c _ ?_ ?_ ?_ ?_).mono ?_; (go_simp); (go_simp); (go_simp); (go_simp); rintro e w' ⟨rfl, rfl⟩; rw [HH.out])
          | (go_at_call 36; refine (only_any 6 n a b' c 2 (by omega) _).mono ?_; rintro e w' ⟨rfl, rfl⟩; rw [HO.out]))
        go_ret
        exact ⟨by rw [HF.out]; rfl, (((((Below.refl _ _).alloc (Nat.le_refl _) _).alloc (by simp) _).alloc (by simp; omega) _).alloc (by simp; omega) _)⟩
      · have HL := Lib.hid (right_last (L := L) (d := ⟨6, n, a, b', c⟩) (by show 0 ≤ many 6; decide) (by rw [hpo]; exact ho) hnum)
        have HO := Lib.hid ho; clear ho hpo hnum
        have HF := Lib.hid (HL.out.trans (show _ = true by simp [lastOk]))
        clear hbh
        go_enter Tryd.func29, Tryd.ntmps29
        go_wp2_with (first
          | (go_at_call 10; refine (has3_any b (some ⟨g, 0, none⟩) L.length cap _ _ a b' c _ ?_ ?_ ?_ ?_).mono ?_; (go_simp); (go_simp); (go_simp); (go_simp); rintro e w' ⟨rfl, rfl⟩; rw [HH.out])
          | (go_at_call 36; refine (only_any 6 n a b' c 2 (by omega) _).mono ?_; rintro e w' ⟨rfl, rfl⟩; rw [HO.out]))
        go_ret
        exact ⟨by rw [HF.out]; rfl, (((((Below.refl _ _).alloc (Nat.le_refl _) _).alloc (by simp) _).alloc (by simp; omega) _).alloc (by simp; omega) _)⟩

set_option maxRecDepth 100000 in
set_option maxHeartbeats 4000000 in
theorem valid_at7 (b g bm cap lim : Nat) (L : List Nd) (n a b' c : Int) (w : World) (hA : Ar w b g bm cap lim L) (hsh : Shp w) (hn : u64ok n) :
    Calls Tryd.prog 29 #[.pointer (some ⟨b, 0, none⟩), .agg #[.int .i64 7, .int .u64 n, .int .i64 a, .int .i64 b', .int .i64 c]] w fun e w' => e = .returned (.bool (right L ⟨7, n, a, b', c⟩)) ∧ Below w.heap.size w w' := by
  have c0 := hA.c0
  have hb := hA.blt
  have hg := hA.glt
  have q1 : b < w.heap.size + 1 := by omega
  have q2 : b < w.heap.size + 1 + 1 := by omega
  have q3 : g < w.heap.size + 1 := by omega
  have q4 : g < w.heap.size + 1 + 1 := by omega
  have q5 : b < w.heap.size + 1 + 1 + 1 := by omega
  have q6 : g < w.heap.size + 1 + 1 + 1 := by omega
  have hz := hsh.pos
  skip
  have t0 : w.cell? ⟨0, 21, none⟩ = some (.int .u64 0) := (hsh 7 (by omega)).1
  have t1 : w.cell? ⟨0, 22, none⟩ = some (.int .u64 maxU) := (hsh 7 (by omega)).2.1
  have t2 : w.cell? ⟨0, 23, none⟩ = some (.int .i64 3) := (hsh 7 (by omega)).2.2
  have n0 : 0 ≤ n := hn.1
  have n1 : ¬ maxU < n := by unfold maxU; have := hn.2; omega
  have n2 : decide (maxU < n) = false := by simpa using n1
  clear hn n1 hsh
  have HA := Lib.hid hA; clear hA
  have hHB : (hasB L.length a && (hasB L.length b' && hasB L.length c)) = true ∨ (hasB L.length a && (hasB L.length b' && hasB L.length c)) = false := by
    cases (hasB L.length a && (hasB L.length b' && hasB L.length c)) <;> simp
  have hOB : onlyB 3 a b' c = true ∨ onlyB 3 a b' c = false := by cases onlyB 3 a b' c <;> simp
  rcases hHB with hh | hh
  rotate_left
  · have HF := Lib.hid (right_held_not (L := L) (d := ⟨7, n, a, b', c⟩) HA.out.wf.pos hh)
    have HH := Lib.hid hh; clear hh hOB
    have HO : True := trivial
    go_enter Tryd.func29, Tryd.ntmps29
    go_wp2_with (go_at_call 10; refine (has3_any b (some ⟨g, 0, none⟩) L.length cap _ _ a b' c _ ?_ ?_ ?_ ?_).mono ?_; (go_simp); (go_simp); (go_simp); (go_simp); rintro e w' ⟨rfl, rfl⟩; rw [HH.out])
    go_ret
    exact ⟨by rw [HF.out]; rfl, (((Below.refl _ _).alloc (Nat.le_refl _) _).alloc (by simp) _)⟩
  · have hpo : partsOk L.length ⟨7, n, a, b', c⟩ = onlyB 3 a b' c := partsOk_only hh
    have hbh : 0 ≤ b' ∧ b' < L.length := by simp only [Bool.and_eq_true] at hh; exact hasB_iff.1 hh.2.1
    have HH := Lib.hid hh; clear hh
    · have hnum : numOk ⟨7, n, a, b', c⟩ = true := by simp [numOk]
      rcases hOB with ho | ho
      rotate_left
      · have HF := Lib.hid (right_parts_not (L := L) (d := ⟨7, n, a, b', c⟩) (by rw [hpo]; exact ho))
        have HO := Lib.hid ho; clear ho hpo hnum hbh
        go_enter Tryd.func29, Tryd.ntmps29
        go_wp2_with (first
          | (go_at_call 10; refine (has3_any b (some ⟨g, 0, none⟩) L.length cap _ _ a b' c _ ?_ ?_ ?_ ?_).mono ?_; (go_simp); (go_simp); (go_simp); (go_simp); rintro e w' ⟨rfl, rfl⟩; rw [HH.out])
          | (go_at_call 36; refine (only_any 7 n a b' c 3 (by omega) _).mono ?_; rintro e w' ⟨rfl, rfl⟩; rw [HO.out]))
        go_ret
        exact ⟨by rw [HF.out]; rfl, (((((Below.refl _ _).alloc (Nat.le_refl _) _).alloc (by simp) _).alloc (by simp; omega) _).alloc (by simp; omega) _)⟩
      · have HL := Lib.hid (right_last (L := L) (d := ⟨7, n, a, b', c⟩) (by show 0 ≤ many 7; decide) (by rw [hpo]; exact ho) hnum)
        have HO := Lib.hid ho; clear ho hpo hnum
        have HF := Lib.hid (HL.out.trans (show _ = true by simp [lastOk]))
        clear hbh
        go_enter Tryd.func29, Tryd.ntmps29
        go_wp2_with (first
          | (go_at_call 10; refine (has3_any b (some ⟨g, 0, none⟩) L.length cap _ _ a b' c _ ?_ ?_ ?_ ?_).mono ?_; (go_simp); (go_simp); (go_simp); (go_simp); rintro e w' ⟨rfl, rfl⟩; rw [HH.out])
          | (go_at_call 36; refine (only_any 7 n a b' c 3 (by omega) _).mono ?_; rintro e w' ⟨rfl, rfl⟩; rw [HO.out]))
        go_ret
        exact ⟨by rw [HF.out]; rfl, (((((Below.refl _ _).alloc (Nat.le_refl _) _).alloc (by simp) _).alloc (by simp; omega) _).alloc (by simp; omega) _)⟩

set_option maxRecDepth 100000 in
set_option maxHeartbeats 4000000 in
theorem valid_at8 (b g bm cap lim : Nat) (L : List Nd) (n a b' c : Int) (w : World) (hA : Ar w b g bm cap lim L) (hsh : Shp w) (hn : u64ok n) :
    Calls Tryd.prog 29 #[.pointer (some ⟨b, 0, none⟩), .agg #[.int .i64 8, .int .u64 n, .int .i64 a, .int .i64 b', .int .i64 c]] w fun e w' => e = .returned (.bool (right L ⟨8, n, a, b', c⟩)) ∧ Below w.heap.size w w' := by
  have c0 := hA.c0
  have hb := hA.blt
  have hg := hA.glt
  have q1 : b < w.heap.size + 1 := by omega
  have q2 : b < w.heap.size + 1 + 1 := by omega
  have q3 : g < w.heap.size + 1 := by omega
  have q4 : g < w.heap.size + 1 + 1 := by omega
  have q5 : b < w.heap.size + 1 + 1 + 1 := by omega
  have q6 : g < w.heap.size + 1 + 1 + 1 := by omega
  have hz := hsh.pos
  skip
  have t0 : w.cell? ⟨0, 24, none⟩ = some (.int .u64 0) := (hsh 8 (by omega)).1
  have t1 : w.cell? ⟨0, 25, none⟩ = some (.int .u64 0) := (hsh 8 (by omega)).2.1
  have t2 : w.cell? ⟨0, 26, none⟩ = some (.int .i64 2) := (hsh 8 (by omega)).2.2
  have n0 : 0 ≤ n := hn.1
  have n1 : ¬ maxU < n := by unfold maxU; have := hn.2; omega
  have n2 : decide (maxU < n) = false := by simpa using n1
  clear hn n1 hsh
  have HA := Lib.hid hA; clear hA
  have hHB : (hasB L.length a && (hasB L.length b' && hasB L.length c)) = true ∨ (hasB L.length a && (hasB L.length b' && hasB L.length c)) = false := by
    cases (hasB L.length a && (hasB L.length b' && hasB L.length c)) <;> simp
  have hOB : onlyB 2 a b' c = true ∨ onlyB 2 a b' c = false := by cases onlyB 2 a b' c <;> simp
  rcases hHB with hh | hh
  rotate_left
  · have HF := Lib.hid (right_held_not (L := L) (d := ⟨8, n, a, b', c⟩) HA.out.wf.pos hh)
    have HH := Lib.hid hh; clear hh hOB
    have HO : True := trivial
    go_enter Tryd.func29, Tryd.ntmps29
    go_wp2_with (go_at_call 10; refine (has3_any b (some ⟨g, 0, none⟩) L.length cap _ _ a b' c _ ?_ ?_ ?_ ?_).mono ?_; (go_simp); (go_simp); (go_simp); (go_simp); rintro e w' ⟨rfl, rfl⟩; rw [HH.out])
    go_ret
    exact ⟨by rw [HF.out]; rfl, (((Below.refl _ _).alloc (Nat.le_refl _) _).alloc (by simp) _)⟩
  · have hpo : partsOk L.length ⟨8, n, a, b', c⟩ = onlyB 2 a b' c := partsOk_only hh
    have hbh : 0 ≤ b' ∧ b' < L.length := by simp only [Bool.and_eq_true] at hh; exact hasB_iff.1 hh.2.1
    have HH := Lib.hid hh; clear hh
    by_cases hn0 : n = 0
    rotate_left
    · have HF := Lib.hid (right_num_not (L := L) (d := ⟨8, n, a, b', c⟩) (by simp [numOk, hn0]))
      have hn1 : 0 < n := by omega
      clear hpo hOB hn0 hbh
      go_enter Tryd.func29, Tryd.ntmps29
      go_wp2_with (go_at_call 10; refine (has3_any b (some ⟨g, 0, none⟩) L.length cap _ _ a b' c _ ?_ ?_ ?_ ?_).mono ?_; (go_simp); (go_simp); (go_simp); (go_simp); rintro e w' ⟨rfl, rfl⟩; rw [HH.out])
      go_ret
      exact ⟨by rw [HF.out]; rfl, ((((Below.refl _ _).alloc (Nat.le_refl _) _).alloc (by simp) _).alloc (by simp; omega) _)⟩
    · subst hn0
      have hnum : numOk ⟨8, 0, a, b', c⟩ = true := by simp [numOk]
      rcases hOB with ho | ho
      rotate_left
      · have HF := Lib.hid (right_parts_not (L := L) (d := ⟨8, 0, a, b', c⟩) (by rw [hpo]; exact ho))
        have HO := Lib.hid ho; clear ho hpo hnum hbh
        go_enter Tryd.func29, Tryd.ntmps29
        go_wp2_with (first
          | (go_at_call 10; refine (has3_any b (some ⟨g, 0, none⟩) L.length cap _ _ a b' c _ ?_ ?_ ?_ ?_).mono ?_; (go_simp); (go_simp); (go_simp); (go_simp); rintro e w' ⟨rfl, rfl⟩; rw [HH.out])
          | (go_at_call 36; refine (only_any 8 0 a b' c 2 (by omega) _).mono ?_; rintro e w' ⟨rfl, rfl⟩; rw [HO.out]))
        go_ret
        exact ⟨by rw [HF.out]; rfl, (((((Below.refl _ _).alloc (Nat.le_refl _) _).alloc (by simp) _).alloc (by simp; omega) _).alloc (by simp; omega) _)⟩
      · have HL := Lib.hid (right_last (L := L) (d := ⟨8, 0, a, b', c⟩) (by show 0 ≤ many 8; decide) (by rw [hpo]; exact ho) hnum)
        have HO := Lib.hid ho; clear ho hpo hnum
        have HF := Lib.hid (HL.out.trans (show _ = true by simp [lastOk]))
        clear hbh
        go_enter Tryd.func29, Tryd.ntmps29
        go_wp2_with (first
          | (go_at_call 10; refine (has3_any b (some ⟨g, 0, none⟩) L.length cap _ _ a b' c _ ?_ ?_ ?_ ?_).mono ?_; (go_simp); (go_simp); (go_simp); (go_simp); rintro e w' ⟨rfl, rfl⟩; rw [HH.out])
          | (go_at_call 36; refine (only_any 8 0 a b' c 2 (by omega) _).mono ?_; rintro e w' ⟨rfl, rfl⟩; rw [HO.out]))
        go_ret
        exact ⟨by rw [HF.out]; rfl, (((((Below.refl _ _).alloc (Nat.le_refl _) _).alloc (by simp) _).alloc (by simp; omega) _).alloc (by simp; omega) _)⟩

set_option maxRecDepth 100000 in
set_option maxHeartbeats 4000000 in
theorem valid_at9 (b g bm cap lim : Nat) (L : List Nd) (n a b' c : Int) (w : World) (hA : Ar w b g bm cap lim L) (hsh : Shp w) (hn : u64ok n) :
    Calls Tryd.prog 29 #[.pointer (some ⟨b, 0, none⟩), .agg #[.int .i64 9, .int .u64 n, .int .i64 a, .int .i64 b', .int .i64 c]] w fun e w' => e = .returned (.bool (right L ⟨9, n, a, b', c⟩)) ∧ Below w.heap.size w w' := by
  have c0 := hA.c0
  have hb := hA.blt
  have hg := hA.glt
  have q1 : b < w.heap.size + 1 := by omega
  have q2 : b < w.heap.size + 1 + 1 := by omega
  have q3 : g < w.heap.size + 1 := by omega
  have q4 : g < w.heap.size + 1 + 1 := by omega
  have q5 : b < w.heap.size + 1 + 1 + 1 := by omega
  have q6 : g < w.heap.size + 1 + 1 + 1 := by omega
  have hz := hsh.pos
  skip
  have t0 : w.cell? ⟨0, 27, none⟩ = some (.int .u64 0) := (hsh 9 (by omega)).1
  have t1 : w.cell? ⟨0, 28, none⟩ = some (.int .u64 maxU) := (hsh 9 (by omega)).2.1
  have t2 : w.cell? ⟨0, 29, none⟩ = some (.int .i64 0) := (hsh 9 (by omega)).2.2
  have n0 : 0 ≤ n := hn.1
  have n1 : ¬ maxU < n := by unfold maxU; have := hn.2; omega
  have n2 : decide (maxU < n) = false := by simpa using n1
  clear hn n1 hsh
  have HA := Lib.hid hA; clear hA
  have hHB : (hasB L.length a && (hasB L.length b' && hasB L.length c)) = true ∨ (hasB L.length a && (hasB L.length b' && hasB L.length c)) = false := by
    cases (hasB L.length a && (hasB L.length b' && hasB L.length c)) <;> simp
  have hOB : onlyB 0 a b' c = true ∨ onlyB 0 a b' c = false := by cases onlyB 0 a b' c <;> simp
  rcases hHB with hh | hh
  rotate_left
  · have HF := Lib.hid (right_held_not (L := L) (d := ⟨9, n, a, b', c⟩) HA.out.wf.pos hh)
    have HH := Lib.hid hh; clear hh hOB
    have HO : True := trivial
    go_enter Tryd.func29, Tryd.ntmps29
    go_wp2_with (go_at_call 10; refine (has3_any b (some ⟨g, 0, none⟩) L.length cap _ _ a b' c _ ?_ ?_ ?_ ?_).mono ?_; (go_simp); (go_simp); (go_simp); (go_simp); rintro e w' ⟨rfl, rfl⟩; rw [HH.out])
    go_ret
    exact ⟨by rw [HF.out]; rfl, (((Below.refl _ _).alloc (Nat.le_refl _) _).alloc (by simp) _)⟩
  · have hpo : partsOk L.length ⟨9, n, a, b', c⟩ = onlyB 0 a b' c := partsOk_only hh
    have hbh : 0 ≤ b' ∧ b' < L.length := by simp only [Bool.and_eq_true] at hh; exact hasB_iff.1 hh.2.1
    have HH := Lib.hid hh; clear hh
    · have hnum : numOk ⟨9, n, a, b', c⟩ = true := by simp [numOk]
      rcases hOB with ho | ho
      rotate_left
      · have HF := Lib.hid (right_parts_not (L := L) (d := ⟨9, n, a, b', c⟩) (by rw [hpo]; exact ho))
        have HO := Lib.hid ho; clear ho hpo hnum hbh
        go_enter Tryd.func29, Tryd.ntmps29
        go_wp2_with (first
          | (go_at_call 10; refine (has3_any b (some ⟨g, 0, none⟩) L.length cap _ _ a b' c _ ?_ ?_ ?_ ?_).mono ?_; (go_simp); (go_simp); (go_simp); (go_simp); rintro e w' ⟨rfl, rfl⟩; rw [HH.out])
          | (go_at_call 36; refine (only_any 9 n a b' c 0 (by omega) _).mono ?_; rintro e w' ⟨rfl, rfl⟩; rw [HO.out]))
        go_ret
        exact ⟨by rw [HF.out]; rfl, (((((Below.refl _ _).alloc (Nat.le_refl _) _).alloc (by simp) _).alloc (by simp; omega) _).alloc (by simp; omega) _)⟩
      · have HL := Lib.hid (right_last (L := L) (d := ⟨9, n, a, b', c⟩) (by show 0 ≤ many 9; decide) (by rw [hpo]; exact ho) hnum)
        have HO := Lib.hid ho; clear ho hpo hnum
        have HF := Lib.hid (HL.out.trans (show _ = true by simp [lastOk]))
        clear hbh
        go_enter Tryd.func29, Tryd.ntmps29
        go_wp2_with (first
          | (go_at_call 10; refine (has3_any b (some ⟨g, 0, none⟩) L.length cap _ _ a b' c _ ?_ ?_ ?_ ?_).mono ?_; (go_simp); (go_simp); (go_simp); (go_simp); rintro e w' ⟨rfl, rfl⟩; rw [HH.out])
          | (go_at_call 36; refine (only_any 9 n a b' c 0 (by omega) _).mono ?_; rintro e w' ⟨rfl, rfl⟩; rw [HO.out]))
        go_ret
        exact ⟨by rw [HF.out]; rfl, (((((Below.refl _ _).alloc (Nat.le_refl _) _).alloc (by simp) _).alloc (by simp; omega) _).alloc (by simp; omega) _)⟩

end Go.Proofs.YtgjhhipkfglpgaaDoor

namespace Go.Proofs.YtgjhhipkfglpgaaDoor
open Go.RowKit Go.Maps

set_option maxRecDepth 100000 in
set_option maxHeartbeats 1000000 in
theorem valid_out (b : Nat) (L : List Nd) (k n a b' c : Int) (w : World) (hk : k < 0 ∨ 9 < k) :
    Calls Tryd.prog 29 #[.pointer (some ⟨b, 0, none⟩), .agg #[.int .i64 k, .int .u64 n, .int .i64 a, .int .i64 b', .int .i64 c]] w fun e w' => e = .returned (.bool (right L ⟨k, n, a, b', c⟩)) ∧ Below w.heap.size w w' := by
  have HF := Lib.hid (right_many_not (L := L) (d := ⟨k, n, a, b', c⟩) (by show many k < 0; rw [many_out hk]; decide))
  by_cases h0 : k < 0
  · clear hk
    go_enter Tryd.func29, Tryd.ntmps29
    go_wp2_with fail
    go_ret
    exact ⟨by rw [HF.out]; rfl, (Below.refl _ _).alloc (Nat.le_refl _) _⟩
  · have h1 : 10 ≤ k := by omega
    have h2 : decide (k < 0) = false := by simpa using h0
    clear hk h0
    go_enter Tryd.func29, Tryd.ntmps29
    go_wp2_with fail
    go_ret
    exact ⟨by rw [HF.out]; rfl, (Below.refl _ _).alloc (Nat.le_refl _) _⟩

theorem valid_any (b g bm cap lim : Nat) (L : List Nd) (k n a b' c : Int) (w : World) (hA : Ar w b g bm cap lim L) (hsh : Shp w) (hn : u64ok n) :
    Calls Tryd.prog 29 #[.pointer (some ⟨b, 0, none⟩), .agg #[.int .i64 k, .int .u64 n, .int .i64 a, .int .i64 b', .int .i64 c]] w fun e w' => e = .returned (.bool (right L ⟨k, n, a, b', c⟩)) ∧ Below w.heap.size w w' := by
  rcases kind_cases k with hk | hk
  · rcases hk with rfl | rfl | rfl | rfl | rfl | rfl | rfl | rfl | rfl | rfl
    · exact valid_at0 b g bm cap lim L n a b' c w hA hsh hn
    · exact valid_at1 b g bm cap lim L n a b' c w hA hsh hn
    · exact valid_at2 b g bm cap lim L n a b' c w hA hsh hn
    · exact valid_at3 b g bm cap lim L n a b' c w hA hsh hn
    · exact valid_at4 b g bm cap lim L n a b' c w hA hsh hn
    · exact valid_at5 b g bm cap lim L n a b' c w hA hsh hn
    · exact valid_at6 b g bm cap lim L n a b' c w hA hsh hn
    · exact valid_at7 b g bm cap lim L n a b' c w hA hsh hn
    · exact valid_at8 b g bm cap lim L n a b' c w hA hsh hn
    · exact valid_at9 b g bm cap lim L n a b' c w hA hsh hn
  · exact valid_out b L k n a b' c w hk

theorem Ar.look {w : World} {b g bm cap lim : Nat} {L : List Nd} (h : Ar w b g bm cap lim L) {d : Nd} (hok : d.ok) :
    (Instr.lookup 70 (.map (some bm)) (agg d) true).run Tryd.prog w = .ok (.tuple #[.int .i64 (((ix d L).getD 0 : Nat) : Int), .bool (ix d L).isSome]) w := by
  obtain ⟨D, hD, hR⟩ := h.reg
  obtain ⟨kl, hkl⟩ := key_ok hok
  obtain ⟨v, ps, hrun, hv⟩ := hD.look_ok law33 Tryd.underlying70 (zero3 w) (plainElem_int (a := 0) Tryd.underlying3 (by decide)) hkl
  obtain ⟨h1, h2⟩ := hR.2 d kl hkl
  rw [h2] at hv
  obtain ⟨x, rfl, hx, _⟩ := plainElem_int_inv Tryd.underlying3 hv
  rw [h1] at hrun
  have : x = (((ix d L).getD 0 : Nat) : Int) := by
    have := congrArg Prod.fst hx
    simp at this
    exact this.symm
  rw [this] at hrun
  exact hrun

set_option maxRecDepth 100000 in
set_option maxHeartbeats 1000000 in
theorem find_any (b g bm cap lim : Nat) (L : List Nd) (k n a b' c : Int) (w : World) (hA : Ar w b g bm cap lim L) (hok : (⟨k, n, a, b', c⟩ : Nd).ok) :
    Calls Tryd.prog 30 #[.pointer (some ⟨b, 0, none⟩), .agg #[.int .i64 k, .int .u64 n, .int .i64 a, .int .i64 b', .int .i64 c]] w fun e w' =>
      e = .returned (.tuple #[.int .i64 (((ix ⟨k, n, a, b', c⟩ L).getD 0 : Nat) : Int), .bool (ix ⟨k, n, a, b', c⟩ L).isSome]) ∧ Below w.heap.size w w' := by
  have c1 := hA.c1
  have hb := hA.blt
  have hl : ∀ o q, (Instr.lookup 70 (.map (some bm)) (.agg #[.int .i64 k, .int .u64 n, .int .i64 a, .int .i64 b', .int .i64 c]) true).run Tryd.prog ((w.alloc o).drewN q) = .ok (.tuple #[.int .i64 (((ix ⟨k, n, a, b', c⟩ L).getD 0 : Nat) : Int), .bool (ix ⟨k, n, a, b', c⟩ L).isSome]) ((w.alloc o).drewN q) :=
    fun o q => (hA.below (belowDrewN ((Below.refl _ _).alloc (Nat.le_refl _) _))).look hok
  generalize hx : (((ix ⟨k, n, a, b', c⟩ L).getD 0 : Nat) : Int) = x at *
  generalize hy : (ix ⟨k, n, a, b', c⟩ L).isSome = y at *
  clear hx hy hA
  go_enter Tryd.func30, Tryd.ntmps30
  go_wp2_with fail
  go_quiet (fail)
  go_wp2_with fail
  go_ret2
  exact ⟨rfl, belowDrewN ((Below.refl _ _).alloc (Nat.le_refl _) _)⟩

set_option maxRecDepth 100000 in
set_option maxHeartbeats 1000000 in
theorem get_yes (b g bm cap lim : Nat) (L : List Nd) (i : Nat) (hi : i < L.length) (w : World) (hA : Ar w b g bm cap lim L) :
    Calls Tryd.prog 35 #[.pointer (some ⟨b, 0, none⟩), .int .i64 i] w fun e w' => e = .returned (.tuple #[agg (L.getD i zN), .bool true]) ∧ Below w.heap.size w w' := by
  have c0 := hA.c0
  have hb := hA.blt
  have hg := hA.glt
  have ri := hA.row i hi
  unfold agg
  obtain ⟨m, hmm⟩ : ∃ m, m = L.getD i zN := ⟨_, rfl⟩
  rw [← hmm] at ri ⊢
  clear hmm hA
  obtain ⟨k1, n1, a1, b1, e1⟩ := m
  obtain ⟨ri0, ri1, ri2, ri3, ri4⟩ := ri
  simp only at ri0 ri1 ri2 ri3 ri4
  have hh : hasB L.length (i : Int) = true := hasB_iff.2 ⟨by omega, by omega⟩
  have HH := Lib.hid hh; clear hh
  go_enter Tryd.func35, Tryd.ntmps35
  go_wp2_with (go_at_call 24; refine (has_any b (some ⟨g, 0, none⟩) L.length cap _ _ ?_).mono ?_; (go_simp); rintro e w' ⟨rfl, rfl⟩; rw [HH.out])
  refine bodyPost_ret (v := .tuple #[.agg #[.int .i64 k1, .int .u64 n1, .int .i64 a1, .int .i64 b1, .int .i64 e1], .bool true]) (by simp [results, Tryd.results35, go_sem]) rfl ⟨rfl, (Below.refl _ _).alloc (Nat.le_refl _) _⟩

set_option maxRecDepth 100000 in
set_option maxHeartbeats 1000000 in
theorem get_no (b g bm cap lim : Nat) (L : List Nd) (r : Int) (hi : hasB L.length r = false) (w : World) (hA : Ar w b g bm cap lim L) :
    Calls Tryd.prog 35 #[.pointer (some ⟨b, 0, none⟩), .int .i64 r] w fun e w' => e = .returned (.tuple #[agg zN, .bool false]) ∧ Below w.heap.size w w' := by
  have c0 := hA.c0
  have hb := hA.blt
  have HH := Lib.hid hi; clear hi hA
  go_enter Tryd.func35, Tryd.ntmps35
  go_wp2_with (go_at_call 24; refine (has_any b (some ⟨g, 0, none⟩) L.length cap _ _ ?_).mono ?_; (go_simp); rintro e w' ⟨rfl, rfl⟩; rw [HH.out])
  refine bodyPost_ret (v := .tuple #[.agg #[.int .i64 0, .int .u64 0, .int .i64 0, .int .i64 0, .int .i64 0], .bool false]) (by simp [results, Tryd.results35, go_sem]) rfl ⟨rfl, (Below.refl _ _).alloc (Nat.le_refl _) _⟩
end Go.Proofs.YtgjhhipkfglpgaaDoor
