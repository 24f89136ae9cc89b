/- Walks: valid, Find, Get. -/
import Derived.Test.YtemjhhjalnlmlaaDoorWi
namespace Go.Proofs.YtemjhhjalnlmlaaDoor
open Go.RowKit Go.Maps

set_option maxHeartbeats 1000000 in
theorem valid_out (b : Nat) (L : List Nd) (k n a b' c : Int) (w : World) (hk : k < 0 ∨ 9 < k) :
    Calls Tryd.prog 36 #[.pointer (some ⟨b, 0, none⟩), .agg #[.int .i64 k, .int .u64 n, .int .i64 a, .int .i64 b', .int .i64 c]] w fun e w' => e = .returned (.bool (right L ⟨k, n, a, b', c⟩)) ∧ Below w.heap.size w w' := by
  have HF := Lib.hid (right_many_not (L := L) (d := ⟨k, n, a, b', c⟩) (by show many k < 0; rw [many_out hk]; decide))
  by_cases h0 : k < 0
  · clear hk
    go_enter Tryd.func36, Tryd.ntmps36
    go_wp2_with fail
    go_ret
    exact ⟨by rw [HF.out]; rfl, (Below.refl _ _).alloc (Nat.le_refl _) _⟩
  · have h1 : 10 ≤ k := by omega
    have h2 : decide (k < 0) = false := by simpa using h0
    clear hk h0
    go_enter Tryd.func36, Tryd.ntmps36
    go_wp2_with fail
    go_ret
    exact ⟨by rw [HF.out]; rfl, (Below.refl _ _).alloc (Nat.le_refl _) _⟩

theorem valid_any (b g bm cap lim : Nat) (L : List Nd) (k n a b' c : Int) (w : World) (hA : Ar w b g bm cap lim L) (hsh : Shp w) (hn : u64ok n) :
    Calls Tryd.prog 36 #[.pointer (some ⟨b, 0, none⟩), .agg #[.int .i64 k, .int .u64 n, .int .i64 a, .int .i64 b', .int .i64 c]] w fun e w' => e = .returned (.bool (right L ⟨k, n, a, b', c⟩)) ∧ Below w.heap.size w w' := by
  rcases kind_cases k with hk | hk
  · rcases hk with rfl | rfl | rfl | rfl | rfl | rfl | rfl | rfl | rfl | rfl
    · exact valid_at0 b g bm cap lim L n a b' c w hA hsh hn
    · exact valid_at1 b g bm cap lim L n a b' c w hA hsh hn
    · exact valid_at2 b g bm cap lim L n a b' c w hA hsh hn
    · exact valid_at3 b g bm cap lim L n a b' c w hA hsh hn
    · exact valid_at4 b g bm cap lim L n a b' c w hA hsh hn
    · exact valid_at5 b g bm cap lim L n a b' c w hA hsh hn
    · exact valid_at6 b g bm cap lim L n a b' c w hA hsh hn
    · exact valid_at7 b g bm cap lim L n a b' c w hA hsh hn
    · exact valid_at8 b g bm cap lim L n a b' c w hA hsh hn
    · exact valid_at9 b g bm cap lim L n a b' c w hA hsh hn
  · exact valid_out b L k n a b' c w hk

theorem Ar.look {w : World} {b g bm cap lim : Nat} {L : List Nd} (h : Ar w b g bm cap lim L) {d : Nd} (hok : d.ok) :
    (Instr.lookup 62 (.map (some bm)) (agg d) true).run Tryd.prog w = .ok (.tuple #[.int .i64 (((ix d L).getD 0 : Nat) : Int), .bool (ix d L).isSome]) w := by
  obtain ⟨D, hD, hR⟩ := h.reg
  obtain ⟨kl, hkl⟩ := key_ok hok
  obtain ⟨v, ps, hrun, hv⟩ := hD.look_ok law33 Tryd.underlying62 (zero3 w) (plainElem_int (a := 0) Tryd.underlying3 (by decide)) hkl
  obtain ⟨h1, h2⟩ := hR.2 d kl hkl
  rw [h2] at hv
  obtain ⟨x, rfl, hx, _⟩ := plainElem_int_inv Tryd.underlying3 hv
  rw [h1] at hrun
  have : x = (((ix d L).getD 0 : Nat) : Int) := by
    have := congrArg Prod.fst hx
    simp at this
    exact this.symm
  rw [this] at hrun
  exact hrun

set_option maxHeartbeats 1000000 in
theorem find_any (b g bm cap lim : Nat) (L : List Nd) (k n a b' c : Int) (w : World) (hA : Ar w b g bm cap lim L) (hok : (⟨k, n, a, b', c⟩ : Nd).ok) :
    Calls Tryd.prog 14 #[.pointer (some ⟨b, 0, none⟩), .agg #[.int .i64 k, .int .u64 n, .int .i64 a, .int .i64 b', .int .i64 c]] w fun e w' =>
      e = .returned (.tuple #[.int .i64 (((ix ⟨k, n, a, b', c⟩ L).getD 0 : Nat) : Int), .bool (ix ⟨k, n, a, b', c⟩ L).isSome]) ∧ Below w.heap.size w w' := by
  have c1 := hA.c1
  have hb := hA.blt
  have hl : ∀ o q, (Instr.lookup 62 (.map (some bm)) (.agg #[.int .i64 k, .int .u64 n, .int .i64 a, .int .i64 b', .int .i64 c]) true).run Tryd.prog ((w.alloc o).drewN q) = .ok (.tuple #[.int .i64 (((ix ⟨k, n, a, b', c⟩ L).getD 0 : Nat) : Int), .bool (ix ⟨k, n, a, b', c⟩ L).isSome]) ((w.alloc o).drewN q) :=
    fun o q => (hA.below (belowDrewN ((Below.refl _ _).alloc (Nat.le_refl _) _))).look hok
  generalize hx : (((ix ⟨k, n, a, b', c⟩ L).getD 0 : Nat) : Int) = x at *
  generalize hy : (ix ⟨k, n, a, b', c⟩ L).isSome = y at *
  clear hx hy hA
  go_enter Tryd.func14, Tryd.ntmps14
  go_wp2_with fail
  go_quiet (fail)
  go_wp2_with fail
  go_ret2
  exact ⟨rfl, belowDrewN ((Below.refl _ _).alloc (Nat.le_refl _) _)⟩

set_option maxHeartbeats 1000000 in
theorem get_yes (b g bm cap lim : Nat) (L : List Nd) (i : Nat) (hi : i < L.length) (w : World) (hA : Ar w b g bm cap lim L) :
    Calls Tryd.prog 16 #[.pointer (some ⟨b, 0, none⟩), .int .i64 i] w fun e w' => e = .returned (.tuple #[agg (L.getD i zN), .bool true]) ∧ Below w.heap.size w w' := by
  have c0 := hA.c0
  have hb := hA.blt
  have hg := hA.glt
  have ri := hA.row i hi
  unfold agg
  obtain ⟨m, hmm⟩ : ∃ m, m = L.getD i zN := ⟨_, rfl⟩
  rw [← hmm] at ri ⊢
  clear hmm hA
  obtain ⟨k1, n1, a1, b1, e1⟩ := m
  obtain ⟨ri0, ri1, ri2, ri3, ri4⟩ := ri
  simp only at ri0 ri1 ri2 ri3 ri4
  have hh : hasB L.length (i : Int) = true := hasB_iff.2 ⟨by omega, by omega⟩
  have HH := Lib.hid hh; clear hh
  go_enter Tryd.func16, Tryd.ntmps16
  go_wp2_with (go_at_call 29; refine (has_any b (some ⟨g, 0, none⟩) L.length cap _ _ ?_).mono ?_; (go_simp); rintro e w' ⟨rfl, rfl⟩; rw [HH.out])
  refine bodyPost_ret (v := .tuple #[.agg #[.int .i64 k1, .int .u64 n1, .int .i64 a1, .int .i64 b1, .int .i64 e1], .bool true]) (by simp [results, Tryd.results16, go_sem]) rfl ⟨rfl, (Below.refl _ _).alloc (Nat.le_refl _) _⟩

set_option maxHeartbeats 1000000 in
theorem get_no (b g bm cap lim : Nat) (L : List Nd) (r : Int) (hi : hasB L.length r = false) (w : World) (hA : Ar w b g bm cap lim L) :
    Calls Tryd.prog 16 #[.pointer (some ⟨b, 0, none⟩), .int .i64 r] w fun e w' => e = .returned (.tuple #[agg zN, .bool false]) ∧ Below w.heap.size w w' := by
  have c0 := hA.c0
  have hb := hA.blt
  have HH := Lib.hid hi; clear hi hA
  go_enter Tryd.func16, Tryd.ntmps16
  go_wp2_with (go_at_call 29; refine (has_any b (some ⟨g, 0, none⟩) L.length cap _ _ ?_).mono ?_; (go_simp); rintro e w' ⟨rfl, rfl⟩; rw [HH.out])
  refine bodyPost_ret (v := .tuple #[.agg #[.int .i64 0, .int .u64 0, .int .i64 0, .int .i64 0, .int .i64 0], .bool false]) (by simp [results, Tryd.results16, go_sem]) rfl ⟨rfl, (Below.refl _ _).alloc (Nat.le_refl _) _⟩
end Go.Proofs.YtemjhhjalnlmlaaDoor
