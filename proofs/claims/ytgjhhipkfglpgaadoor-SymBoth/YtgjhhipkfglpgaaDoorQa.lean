/- Walks of the leaf functions: comparisons of numbers, whether a ref is held, the arena's length. Walks: whether all refs of a list are held; the first number of a list that is not nought; the first parts in which two nodes differ. Walks: the order of refs, as the program reckons it. Walks: the reference's small functions: whether a ref is held, a node's part, how many parts a kind has. Walks: the order of refs, as the reference reckons it. -/
import Derived.Test.YtgjhhipkfglpgaaDoorRows
import Derived.Test.YtgjhhipkfglpgaaDoorPa
import Derived.WalkKit
import Derived.WalkSpells
import Derived.WalkLawsBesides
import Derived.Lib.Hide
import Derived.BigQuiet
import Derived.Deep.DeepCutAuto
import Derived.Deep.RegionHeld3
import Derived.StillTailTactics
import Derived.Deep.LoopGhost
namespace Go.Proofs.YtgjhhipkfglpgaaDoor
open Go.RowKit

set_option maxRecDepth 100000 in
set_option maxHeartbeats 400000 in
theorem isNaN_int (x : Int) (w : World) : Calls Tryd.prog 47 #[.int .i64 x] w fun e w' => e = .returned (.bool false) ∧ w = w' := by
  go_enter Tryd.func47, Tryd.ntmps47
  go_wp2
  go_ret
  exact ⟨by simp, rfl⟩
set_option maxRecDepth 100000 in
set_option maxHeartbeats 400000 in
theorem isNaN_u64 (x : Int) (w : World) : Calls Tryd.prog 48 #[.int .u64 x] w fun e w' => e = .returned (.bool false) ∧ w = w' := by
  go_enter Tryd.func48, Tryd.ntmps48
  go_wp2
  go_ret
  exact ⟨by simp, rfl⟩

set_option maxRecDepth 100000 in
set_option maxHeartbeats 400000 in
theorem cmp_int (x y : Int) (w : World) : Calls Tryd.prog 44 #[.int .i64 x, .int .i64 y] w fun e w' => e = .returned (.int .i64 (cmpZ x y)) ∧ w = w' := by
  rcases Int.lt_trichotomy x y with h | h | h
  · rw [cmpZ_lt h]
    go_enter Tryd.func44, Tryd.ntmps44
    go_wp2_with (go_at_call 47; refine (isNaN_int _ _).mono ?_; rintro e w' ⟨rfl, rfl⟩)
    go_ret
    exact ⟨rfl, rfl⟩
  · subst h
    rw [cmpZ_eq]
    go_enter Tryd.func44, Tryd.ntmps44
    go_wp2_with (go_at_call 47; refine (isNaN_int _ _).mono ?_; rintro e w' ⟨rfl, rfl⟩)
    go_ret
    exact ⟨rfl, rfl⟩
  · rw [cmpZ_gt h]
    have h' : ¬ x < y := by omega
    go_enter Tryd.func44, Tryd.ntmps44
    go_wp2_with (go_at_call 47; refine (isNaN_int _ _).mono ?_; rintro e w' ⟨rfl, rfl⟩)
    go_ret
    exact ⟨rfl, rfl⟩

set_option maxRecDepth 100000 in
set_option maxHeartbeats 400000 in
theorem cmp_u64 (x y : Int) (w : World) : Calls Tryd.prog 45 #[.int .u64 x, .int .u64 y] w fun e w' => e = .returned (.int .i64 (cmpZ x y)) ∧ w = w' := by
  rcases Int.lt_trichotomy x y with h | h | h
  · rw [cmpZ_lt h]
    go_enter Tryd.func45, Tryd.ntmps45
    go_wp2_with (go_at_call 48; refine (isNaN_u64 _ _).mono ?_; rintro e w' ⟨rfl, rfl⟩)
    go_ret
    exact ⟨rfl, rfl⟩
  · subst h
    rw [cmpZ_eq]
    go_enter Tryd.func45, Tryd.ntmps45
    go_wp2_with (go_at_call 48; refine (isNaN_u64 _ _).mono ?_; rintro e w' ⟨rfl, rfl⟩)
    go_ret
    exact ⟨rfl, rfl⟩
  · rw [cmpZ_gt h]
    have h' : ¬ x < y := by omega
    go_enter Tryd.func45, Tryd.ntmps45
    go_wp2_with (go_at_call 48; refine (isNaN_u64 _ _).mono ?_; rintro e w' ⟨rfl, rfl⟩)
    go_ret
    exact ⟨rfl, rfl⟩

set_option maxRecDepth 100000 in
set_option maxHeartbeats 400000 in
theorem has_any (b : Nat) (s : Option Addr) (n cap : Nat) (r : Int) (w : World) (c0 : w.cell? ⟨b, 0, none⟩ = some (.slice s n cap)) :
    Calls Tryd.prog 24 #[.pointer (some ⟨b, 0, none⟩), .int .i64 r] w fun e w' => e = .returned (.bool (hasB n r)) ∧ w = w' := by
  unfold hasB
  by_cases h0 : 0 ≤ r
  · by_cases h1 : r < n
    · have e : (decide (0 ≤ r) && decide (r < n)) = true := by simp [h0, h1]
      rw [e]
      go_enter Tryd.func24, Tryd.ntmps24
      go_wp2
      go_ret
      exact ⟨rfl, rfl⟩
    · have e : (decide (0 ≤ r) && decide (r < n)) = false := by simp [h1]
      rw [e]
      go_enter Tryd.func24, Tryd.ntmps24
      go_wp2
      go_ret
      exact ⟨rfl, rfl⟩
  · have e : (decide (0 ≤ r) && decide (r < n)) = false := by simp [h0]
    rw [e]
    go_enter Tryd.func24, Tryd.ntmps24
    go_wp2
    go_ret
    exact ⟨rfl, rfl⟩

set_option maxRecDepth 100000 in
set_option maxHeartbeats 400000 in
theorem miss_any (b : Nat) (s : Option Addr) (n cap : Nat) (x y : Int) (w : World) (c0 : w.cell? ⟨b, 0, none⟩ = some (.slice s n cap)) :
    Calls Tryd.prog 42 #[.pointer (some ⟨b, 0, none⟩), .int .i64 x, .int .i64 y] w fun e w' => e = .returned (.int .i64 (cmpMiss n x y)) ∧ w = w' := by
  unfold cmpMiss
  cases hx : hasB n x
  · cases hy : hasB n y
    · go_enter Tryd.func42, Tryd.ntmps42
      go_wp2_with (first | (go_at_call 24; refine (has_any b s n cap _ _ c0).mono ?_; rintro e w' ⟨rfl, rfl⟩) | (go_at_call 44; refine (cmp_int _ _ _).mono ?_; rintro e w' ⟨rfl, rfl⟩))
      go_ret
      exact ⟨rfl, rfl⟩
    · go_enter Tryd.func42, Tryd.ntmps42
      go_wp2_with (first | (go_at_call 24; refine (has_any b s n cap _ _ c0).mono ?_; rintro e w' ⟨rfl, rfl⟩) | (go_at_call 44; refine (cmp_int _ _ _).mono ?_; rintro e w' ⟨rfl, rfl⟩))
      go_ret
      exact ⟨rfl, rfl⟩
  · go_enter Tryd.func42, Tryd.ntmps42
    go_wp2_with (first | (go_at_call 24; refine (has_any b s n cap _ _ c0).mono ?_; rintro e w' ⟨rfl, rfl⟩) | (go_at_call 44; refine (cmp_int _ _ _).mono ?_; rintro e w' ⟨rfl, rfl⟩))
    go_ret
    exact ⟨rfl, rfl⟩
end Go.Proofs.YtgjhhipkfglpgaaDoor

namespace Go.Proofs.YtgjhhipkfglpgaaDoor
open Go.RowKit

set_option maxRecDepth 100000 in
set_option maxHeartbeats 400000 in
theorem hasAll_any (b : Nat) (s : Option Addr) (n cap : Nat) (g c : Nat) (xs : List Int) (w : World) (c0 : w.cell? ⟨b, 0, none⟩ = some (.slice s n cap)) (hm : xs.length ≤ 1000)
    (hx : ∀ i, i < xs.length → w.cell? ⟨g, i, none⟩ = some (.int .i64 (xs.getD i 0))) :
    Calls Tryd.prog 10 #[.pointer (some ⟨b, 0, none⟩), .slice (some ⟨g, 0, none⟩) xs.length c] w fun e w' => e = .returned (.bool (allB n xs)) ∧ w = w' := by
  have HX := Lib.hid hx; clear hx
  go_enter Tryd.func10, Tryd.ntmps10
  go_wp2_with fail
  go_loop [6, 9] (fun _ i => ∃ k : Nat, k ≤ xs.length ∧ i = .int .i64 k ∧ allB n (xs.take k) = true) (fun _ i => xs.length - (intOf i).toNat)
  case atStart => exact ⟨0, Nat.zero_le _, rfl, by simp [allB]⟩
  case round =>
    obtain ⟨k, hk, rfl, hall⟩ := hrel
    have HA := Lib.hid hall; clear hall
    by_cases hlt : k < xs.length
    · have hc := HX.out k hlt
      obtain ⟨x, hxk⟩ : ∃ x, xs.getD k 0 = x := ⟨_, rfl⟩
      rw [hxk] at hc
      cases hh : hasB n x
      · have hf := Lib.hid (allB_take_not hlt (by rw [hxk]; exact hh))
        have HH := Lib.hid hh; clear hh hxk
        go_wp2_with (go_at_call 24; refine (has_any b s n cap _ _ c0).mono ?_; rintro e w' ⟨rfl, rfl⟩; rw [HH.out])
        go_ret
        exact ⟨by rw [hf.out]; rfl, rfl⟩
      · have hf := Lib.hid (allB_take_succ hlt HA.out (by rw [hxk]; exact hh))
        have HH := Lib.hid hh; clear hh hxk
        go_wp2_with (go_at_call 24; refine (has_any b s n cap _ _ c0).mono ?_; rintro e w' ⟨rfl, rfl⟩; rw [HH.out])
        go_round
        case rel => exact ⟨k + 1, by omega, by go_num, hf.out⟩
        case measure => simp [intOf]; omega
    · have hf : allB n xs = true := by rw [← HA.out, List.take_of_length_le (by omega)]
      have HF := Lib.hid hf; clear hf
      go_wp2_with fail
      go_ret
      exact ⟨by rw [HF.out]; rfl, rfl⟩

set_option maxRecDepth 100000 in
set_option maxHeartbeats 400000 in
theorem or_any (g c : Nat) (xs : List Int) (w : World) (hm : xs.length ≤ 1000)
    (hx : ∀ i, i < xs.length → w.cell? ⟨g, i, none⟩ = some (.int .i64 (xs.getD i 0))) :
    Calls Tryd.prog 43 #[.slice (some ⟨g, 0, none⟩) xs.length c] w fun e w' => e = .returned (.int .i64 (orZ xs)) ∧ w = w' := by
  have HX := Lib.hid hx; clear hx
  go_enter Tryd.func43, Tryd.ntmps43
  go_wp2_with fail
  go_loop [5, 8] (fun _ i => ∃ k : Nat, k ≤ xs.length ∧ i = .int .i64 k ∧ ∀ j, j < k → xs.getD j 0 = 0) (fun _ i => xs.length - (intOf i).toNat)
  case atStart => exact ⟨0, Nat.zero_le _, rfl, by simp⟩
  case round =>
    obtain ⟨k, hk, rfl, hall⟩ := hrel
    have HA := Lib.hid hall; clear hall
    by_cases hlt : k < xs.length
    · have hc := HX.out k hlt
      obtain ⟨x, hxk⟩ : ∃ x, xs.getD k 0 = x := ⟨_, rfl⟩
      rw [hxk] at hc
      by_cases hh : x = 0
      · subst hh
        have HK := Lib.hid hxk; clear hxk
        go_wp2_with fail
        go_round
        case rel => exact ⟨k + 1, by omega, by go_num, fun j hj => by
          by_cases hjk : j < k
          · exact HA.out j hjk
          · obtain rfl : j = k := by omega
            exact HK.out⟩
        case measure => simp [intOf]; omega
      · have h1 : (x != 0) = true := by simpa using hh
        have hf := Lib.hid (orZ_take hlt HA.out (by rw [hxk]; exact hh))
        have HK := Lib.hid hxk; clear hxk hh
        go_wp2_with fail
        go_ret
        exact ⟨by rw [hf.out, HK.out]; rfl, rfl⟩
    · have hf : orZ xs = 0 := orZ_none fun j hj => HA.out j (by omega)
      have HF := Lib.hid hf; clear hf
      go_wp2_with fail
      go_ret
      exact ⟨by rw [HF.out]; rfl, rfl⟩

set_option maxRecDepth 100000 in
set_option maxHeartbeats 400000 in
theorem first_any (k1 n1 a1 b1 c1 k2 n2 a2 b2 c2 : Int) (w : World) :
    Calls Tryd.prog 46 #[.agg #[.int .i64 k1, .int .u64 n1, .int .i64 a1, .int .i64 b1, .int .i64 c1], .agg #[.int .i64 k2, .int .u64 n2, .int .i64 a2, .int .i64 b2, .int .i64 c2]] w fun e w' =>
      e = .returned (.tuple #[.int .i64 (if a1 = a2 then (if b1 = b2 then c1 else b1) else a1), .int .i64 (if a1 = a2 then (if b1 = b2 then c2 else b2) else a2)]) ∧ Below w.heap.size w w' := by
  have hb : ∀ o1 o2, ∀ n, Below w.heap.size w (((w.alloc o1).alloc o2).drewN n) := fun o1 o2 n =>
    ((Below.refl _ _).alloc (Nat.le_refl _) _ |>.alloc (by simp) _).trans ⟨rfl, rfl, rfl, Nat.le_refl _, fun _ _ => rfl⟩
  by_cases h1 : a1 = a2
  · subst h1
    by_cases h2 : b1 = b2
    · subst h2
      go_enter Tryd.func46, Tryd.ntmps46
      go_wp2
      go_quiet (fail)
      go_wp2
      go_ret2
      exact ⟨by simp, hb _ _ _⟩
    · have h3 : (b1 != b2) = true := by simpa using h2
      go_enter Tryd.func46, Tryd.ntmps46
      go_wp2
      go_quiet (fail)
      go_wp2
      go_ret2
      exact ⟨by simp, hb _ _ _⟩
  · have h3 : (a1 != a2) = true := by simpa using h1
    go_enter Tryd.func46, Tryd.ntmps46
    go_wp2
    go_quiet (fail)
    go_wp2
    go_ret2
    exact ⟨by simp, hb _ _ _⟩
end Go.Proofs.YtgjhhipkfglpgaaDoor

namespace Go.Proofs.YtgjhhipkfglpgaaDoor
open Go.RowKit

theorem has2_any (b : Nat) (s : Option Addr) (n cap : Nat) (g c : Nat) (x y : Int) (w : World) (c0 : w.cell? ⟨b, 0, none⟩ = some (.slice s n cap))
    (h0 : w.cell? ⟨g, 0, none⟩ = some (.int .i64 x)) (h1 : w.cell? ⟨g, 1, none⟩ = some (.int .i64 y)) :
    Calls Tryd.prog 10 #[.pointer (some ⟨b, 0, none⟩), .slice (some ⟨g, 0, none⟩) 2 c] w fun e w' => e = .returned (.bool (hasB n x && hasB n y)) ∧ w = w' := by
  have h := hasAll_any b s n cap g c [x, y] w c0 (by simp) (fun i hi => by
    match i, hi with
    | 0, _ => exact h0
    | 1, _ => exact h1)
  have e : allB n [x, y] = (hasB n x && hasB n y) := by simp [allB]
  rw [e] at h
  exact h
theorem has3_any (b : Nat) (s : Option Addr) (n cap : Nat) (g c : Nat) (x y z : Int) (w : World) (c0 : w.cell? ⟨b, 0, none⟩ = some (.slice s n cap))
    (h0 : w.cell? ⟨g, 0, none⟩ = some (.int .i64 x)) (h1 : w.cell? ⟨g, 1, none⟩ = some (.int .i64 y)) (h2 : w.cell? ⟨g, 2, none⟩ = some (.int .i64 z)) :
    Calls Tryd.prog 10 #[.pointer (some ⟨b, 0, none⟩), .slice (some ⟨g, 0, none⟩) 3 c] w fun e w' => e = .returned (.bool (hasB n x && (hasB n y && hasB n z))) ∧ w = w' := by
  have h := hasAll_any b s n cap g c [x, y, z] w c0 (by simp) (fun i hi => by
    match i, hi with
    | 0, _ => exact h0
    | 1, _ => exact h1
    | 2, _ => exact h2)
  have e : allB n [x, y, z] = (hasB n x && (hasB n y && hasB n z)) := by simp [allB]
  rw [e] at h
  exact h
theorem or2_any (g c : Nat) (x y : Int) (w : World) (h0 : w.cell? ⟨g, 0, none⟩ = some (.int .i64 x)) (h1 : w.cell? ⟨g, 1, none⟩ = some (.int .i64 y)) :
    Calls Tryd.prog 43 #[.slice (some ⟨g, 0, none⟩) 2 c] w fun e w' => e = .returned (.int .i64 (orZ [x, y])) ∧ w = w' :=
  or_any g c [x, y] w (by simp) (fun i hi => by
    match i, hi with
    | 0, _ => exact h0
    | 1, _ => exact h1)

/-- A row of nodes, five cells each. -/
def ndAt (w : World) (g i : Nat) (d : Nd) : Prop :=
  w.cell? ⟨g, i * 5, none⟩ = some (.int .i64 d.k) ∧ w.cell? ⟨g, i * 5 + 1, none⟩ = some (.int .u64 d.n) ∧ w.cell? ⟨g, i * 5 + 2, none⟩ = some (.int .i64 d.a) ∧ w.cell? ⟨g, i * 5 + 3, none⟩ = some (.int .i64 d.b) ∧ w.cell? ⟨g, i * 5 + 4, none⟩ = some (.int .i64 d.c)
def rowAt (w : World) (g : Nat) (L : List Nd) : Prop := ∀ i, i < L.length → ndAt w g i (L.getD i zN)

theorem ndAt.keep {w w' : World} {g i : Nat} {d : Nd} (h : ndAt w g i d) (hk : w'.heap[g]? = w.heap[g]?) : ndAt w' g i d := by
  unfold ndAt at *
  have e : ∀ o, w'.cell? ⟨g, o, none⟩ = w.cell? ⟨g, o, none⟩ := fun o => World.cell?_of_block hk
  simp only [e]; exact h

/-- A node in a box of its own. -/
def boxAt (w : World) (p : Nat) (k n a b c : Int) : Prop :=
  w.cell? ⟨p, 0, none⟩ = some (.int .i64 k) ∧ w.cell? ⟨p, 1, none⟩ = some (.int .u64 n) ∧ w.cell? ⟨p, 2, none⟩ = some (.int .i64 a) ∧ w.cell? ⟨p, 3, none⟩ = some (.int .i64 b) ∧ w.cell? ⟨p, 4, none⟩ = some (.int .i64 c)

set_option maxRecDepth 100000 in
set_option maxHeartbeats 1000000 in
theorem compare_any (b g cap : Nat) (L : List Nd) (x y : Int) (w : World) (c0 : w.cell? ⟨b, 0, none⟩ = some (.slice (some ⟨g, 0, none⟩) L.length cap)) (hr : rowAt w g L) (hw : WFp L) (_hm : L.length ≤ 65536) (hb : b < w.heap.size) (hg : g < w.heap.size) :
    Calls Tryd.prog 37 #[.pointer (some ⟨b, 0, none⟩), .int .i64 x, .int .i64 y] w fun e w' => e = .returned (.int .i64 (cmp L x y)) ∧ Below w.heap.size w w' := by
  have HR := Lib.hid hr; clear hr
  have HW := Lib.hid hw; clear hw
  go_enter Tryd.func37, Tryd.ntmps37
  go_wp2_with fail
  go_loopg [1, 2, 7, 8, 9] (x.toNat + y.toNat) (fun k u1 u2 _ _ _ wr => ∃ x' y' : Int, u1 = .int .i64 x' ∧ u2 = .int .i64 y' ∧ cmp L x' y' = cmp L x y ∧ x'.toNat + y'.toNat ≤ k ∧ Below w.heap.size w wr)
  case atStart => exact ⟨x, y, rfl, rfl, rfl, Nat.le_refl _, Below.refl _ _⟩
  case round =>
    obtain ⟨x', y', rfl, rfl, hc, hk, hbel⟩ := hrel
    have HC := Lib.hid hc; clear hc
    have c0' : wr.cell? ⟨b, 0, none⟩ = some (.slice (some ⟨g, 0, none⟩) L.length cap) := by rw [hbel.cell (p := ⟨b, 0, none⟩) hb]; exact c0
    have hbr : b < wr.heap.size := Nat.lt_of_lt_of_le hb hbel.size
    have hgr : g < wr.heap.size := Nat.lt_of_lt_of_le hg hbel.size
    by_cases hxy : x' = y'
    · subst hxy
      have HF : Hid (cmp L x y = 0) := Lib.hid (by rw [← HC.out, cmp_self])
      go_wp2_with fail
      go_ret
      exact ⟨by rw [HF.out]; rfl, hbel⟩
    · have h1 : (x' != y') = true := by simpa using hxy
      cases hbo : both L x' y'
      · have HF : Hid (cmp L x y = cmpMiss L.length x' y') := Lib.hid (by rw [← HC.out, cmp_miss hxy hbo])
        have HB := Lib.hid hbo; clear hbo
        clear hxy
        go_wp2_with fail
        refine (has2_any b (some ⟨g, 0, none⟩) L.length cap _ _ x' y' _ ?_ ?_ ?_).mono ?_
        · go_simp
        · go_simp
        · go_simp
        rintro e w' ⟨rfl, rfl⟩
        rw [show (hasB L.length x' && hasB L.length y') = false from HB.out]
        go_wp2_with fail
        refine (miss_any b (some ⟨g, 0, none⟩) L.length cap _ _ _ ?_).mono ?_
        · go_simp
        rintro e w' ⟨rfl, rfl⟩
        go_wp2_with fail
        go_ret
        exact ⟨by rw [HF.out]; rfl, hbel.alloc hbel.size _⟩
      · have hbb := both_iff.1 hbo
        obtain ⟨i, rfl⟩ := Int.eq_ofNat_of_zero_le hbb.1.1
        obtain ⟨j, rfl⟩ := Int.eq_ofNat_of_zero_le hbb.2.1
        have hi : i < L.length := by omega
        have hj : j < L.length := by omega
        have ri := (HR.out i hi).keep (w' := wr) (hbel.block g hg)
        have rj := (HR.out j hj).keep (w' := wr) (hbel.block g hg)
        have HB := Lib.hid hbo; clear hbo hbb
        have HXY := Lib.hid hxy; clear hxy
        obtain ⟨m, hmm⟩ : ∃ m, m = L.getD i zN := ⟨_, rfl⟩
        obtain ⟨n, hnn⟩ : ∃ n, n = L.getD j zN := ⟨_, rfl⟩
        rw [← hmm] at ri
        rw [← hnn] at rj
        have HM := Lib.hid hmm; clear hmm
        have HN := Lib.hid hnn; clear hnn
        obtain ⟨k1, n1, a1, b1, e1⟩ := m
        obtain ⟨k2, n2, a2, b2, e2⟩ := n
        obtain ⟨ri0, ri1, ri2, ri3, ri4⟩ := ri
        obtain ⟨rj0, rj1, rj2, rj3, rj4⟩ := rj
        simp only at ri0 ri1 ri2 ri3 ri4 rj0 rj1 rj2 rj3 rj4
        go_wp2_with fail
        refine (has2_any b (some ⟨g, 0, none⟩) L.length cap _ _ (i : Int) (j : Int) _ ?_ ?_ ?_).mono ?_
        · go_simp
        · go_simp
        · go_simp
        rintro e w' ⟨rfl, rfl⟩
        rw [show (hasB L.length (i : Int) && hasB L.length (j : Int)) = true from HB.out]
        go_wp2_with fail
        have q1 : b < wr.heap.size + 1 := by omega
        have q2 : b < wr.heap.size + 1 + 1 := by omega
        have q3 : g < wr.heap.size + 1 := by omega
        have q4 : g < wr.heap.size + 1 + 1 := by omega
        go_cut [7, 8] (fun s7 s8 wx => ∃ p q : Nat, p < wx.heap.size ∧ q < wx.heap.size ∧ s7 = .pointer (some ⟨p, 0, none⟩) ∧ s8 = .pointer (some ⟨q, 0, none⟩) ∧ boxAt wx p k1 n1 a1 b1 e1 ∧ boxAt wx q k2 n2 a2 b2 e2 ∧ Below w.heap.size w wx)
        case first =>
          go_region
          · go_wp2_with fail
            go_meet
            case rel => exact ⟨wr.heap.size + 1, wr.heap.size + 1 + 1, by simp, by simp, rfl, rfl, by unfold boxAt; refine ⟨?_, ?_, ?_, ?_, ?_⟩ <;> go_simp, by unfold boxAt; refine ⟨?_, ?_, ?_, ?_, ?_⟩ <;> go_simp, (((hbel.alloc hbel.size _).alloc (Nat.le_trans hbel.size (by simp)) _).alloc (Nat.le_trans hbel.size (by simp; omega)) _).drew⟩
          · go_wp2_with fail
            go_meet
            case rel => exact ⟨wr.heap.size + 1 + 1, wr.heap.size + 1, by simp, by simp, rfl, rfl, by unfold boxAt; refine ⟨?_, ?_, ?_, ?_, ?_⟩ <;> go_simp, by unfold boxAt; refine ⟨?_, ?_, ?_, ?_, ?_⟩ <;> go_simp, (((hbel.alloc hbel.size _).alloc (Nat.le_trans hbel.size (by simp)) _).alloc (Nat.le_trans hbel.size (by simp; omega)) _).drew⟩
        case rest =>
          obtain ⟨p, q, hp, hq, rfl, rfl, hbp, hbq, hbx⟩ := hcut
          obtain ⟨p0, p1, p2, p3, p4⟩ := hbp
          obtain ⟨o0, o1, o2, o3, o4⟩ := hbq
          clear q1 q2 q3 q4 ri0 ri1 ri2 ri3 ri4 rj0 rj1 rj2 rj3 rj4
          go_upto_region 5 with fail
          go_cut [9] (fun s9 wx => s9 = .int .i64 (orZ [cmpZ k1 k2, cmpZ n1 n2]) ∧ boxAt wx p k1 n1 a1 b1 e1 ∧ boxAt wx q k2 n2 a2 b2 e2 ∧ Below w.heap.size w wx)
          case first =>
            go_region_held3 (fun w' => w'.cell? ⟨p, 0, none⟩ = some (.int .i64 k1) ∧ w'.cell? ⟨q, 0, none⟩ = some (.int .i64 k2) ∧ w'.cell? ⟨p, 1, none⟩ = some (.int .u64 n1) ∧ w'.cell? ⟨q, 1, none⟩ = some (.int .u64 n2)) (go_keep)
              (first
                | (go_at_call 44; refine (cmp_int _ _ _).mono ?_; rintro e w' ⟨rfl, rfl⟩)
                | (go_at_call 45; refine (cmp_u64 _ _ _).mono ?_; rintro e w' ⟨rfl, rfl⟩)
                | (go_at_call 43; refine (or2_any _ _ (cmpZ k1 k2) (cmpZ n1 n2) _ ?_ ?_).mono ?_; (go_simp); (go_simp); rintro e w' ⟨rfl, rfl⟩))
            go_wp2_with fail
            go_meet
            case rel => exact ⟨rfl, by unfold boxAt; refine ⟨?_, ?_, ?_, ?_, ?_⟩ <;> go_simp, by unfold boxAt; refine ⟨?_, ?_, ?_, ?_, ?_⟩ <;> go_simp, (hbx.alloc hbx.size _).drew⟩
          case rest =>
            clear p0 p1 p2 p3 p4 o0 o1 o2 o3 o4 hp hq hbx
            obtain ⟨rfl, hbp, hbq, hbx⟩ := hcut
            obtain ⟨p0, p1, p2, p3, p4⟩ := hbp
            obtain ⟨o0, o1, o2, o3, o4⟩ := hbq
            have hni : nd L (i : Int) = ⟨k1, n1, a1, b1, e1⟩ := by unfold nd; rw [Int.toNat_natCast]; exact HM.out.symm
            have hnj : nd L (j : Int) = ⟨k2, n2, a2, b2, e2⟩ := by unfold nd; rw [Int.toNat_natCast]; exact HN.out.symm
            obtain ⟨t, htt⟩ : ∃ t, t = orZ [cmpZ k1 k2, cmpZ n1 n2] := ⟨_, rfl⟩
            have hto : top (nd L (i : Int)) (nd L (j : Int)) = t := by rw [hni, hnj, htt]; rfl
            rw [← htt]
            clear htt
            by_cases h0 : t = 0
            · subst h0
              have hdeep := cmp_deep HW.out HXY.out HB.out hto
              have hlt := HW.out.fd_lt HXY.out HB.out hto
              rw [hni, hnj] at hdeep hlt
              have HD := Lib.hid hdeep
              clear hdeep hto hni hnj
              unfold fd1 fd2 at hlt
              simp only at hlt
              have HL := Lib.hid hlt; clear hlt
              go_wp2_with fail
              refine (first_any k1 n1 a1 b1 e1 k2 n2 a2 b2 e2 _).mono ?_
              rintro e w' ⟨rfl, hb2⟩
              obtain ⟨f1, hf1⟩ : ∃ f, f = (if a1 = a2 then (if b1 = b2 then e1 else b1) else a1) := ⟨_, rfl⟩
              obtain ⟨f2, hf2⟩ : ∃ f, f = (if a1 = a2 then (if b1 = b2 then e2 else b2) else a2) := ⟨_, rfl⟩
              rw [← hf1, ← hf2]
              have HF1 := Lib.hid hf1
              have HF2 := Lib.hid hf2
              clear hf1 hf2
              go_wp2_with fail
              go_roundg (f1.toNat + f2.toNat)
              case measure => have := HL.out; rw [← HF1.out, ← HF2.out] at this; omega
              case rel =>
                refine ⟨f1, f2, rfl, rfl, ?_, Nat.le_refl _, hbx.trans (hb2.mono hbx.size)⟩
                rw [← HC.out, HD.out, HF1.out, HF2.out]; rfl
            · have h2 : (t != 0) = true := by simpa using h0
              have HF : Hid (cmp L x y = t) := Lib.hid (by rw [← HC.out, cmp_top HXY.out HB.out (by rw [hto]; exact h0), hto])
              clear hto hni hnj h0
              go_wp2_with fail
              go_ret
              exact ⟨by rw [HF.out]; rfl, hbx⟩
end Go.Proofs.YtgjhhipkfglpgaaDoor

namespace Go.Proofs.YtgjhhipkfglpgaaDoor
open Go.RowKit

set_option maxRecDepth 100000 in
set_option maxHeartbeats 400000 in
theorem refHas_any (lim : Int) (s : Option Addr) (n cap : Nat) (r : Int) (w : World) :
    Calls Tryd.prog 39 #[.agg #[.int .i64 lim, .slice s n cap], .int .i64 r] w fun e w' => e = .returned (.bool (hasB n r)) ∧ w.alloc (.cells #[.int .i64 lim, .slice s n cap] 28) = w' := by
  unfold hasB
  by_cases h0 : 0 ≤ r
  · by_cases h1 : r < n
    · have e : (decide (0 ≤ r) && decide (r < n)) = true := by simp [h0, h1]
      rw [e]
      go_enter Tryd.func39, Tryd.ntmps39
      go_wp2
      go_ret
      exact ⟨rfl, rfl⟩
    · have e : (decide (0 ≤ r) && decide (r < n)) = false := by simp [h1]
      rw [e]
      go_enter Tryd.func39, Tryd.ntmps39
      go_wp2
      go_ret
      exact ⟨rfl, rfl⟩
  · have e : (decide (0 ≤ r) && decide (r < n)) = false := by simp [h0]
    rw [e]
    go_enter Tryd.func39, Tryd.ntmps39
    go_wp2
    go_ret
    exact ⟨rfl, rfl⟩

def partZ (k : Int) (a b c : Int) : Int := if k = 0 then a else if k = 1 then b else c

set_option maxRecDepth 100000 in
set_option maxHeartbeats 400000 in
theorem part_any (k n a b c i : Int) (w : World) :
    Calls Tryd.prog 40 #[.agg #[.int .i64 k, .int .u64 n, .int .i64 a, .int .i64 b, .int .i64 c], .int .i64 i] w fun e w' => e = .returned (.int .i64 (partZ i a b c)) ∧ w.alloc (.cells #[.int .i64 k, .int .u64 n, .int .i64 a, .int .i64 b, .int .i64 c] 60) = w' := by
  unfold partZ
  by_cases h0 : i = 0
  · subst h0
    go_enter Tryd.func40, Tryd.ntmps40
    go_wp2
    go_ret
    exact ⟨rfl, rfl⟩
  · rw [if_neg h0]
    have g0 : (i == 0) = false := by simpa using h0
    by_cases h1 : i = 1
    · subst h1
      go_enter Tryd.func40, Tryd.ntmps40
      go_wp2
      go_ret
      exact ⟨rfl, rfl⟩
    · rw [if_neg h1]
      have g1 : (i == 1) = false := by simpa using h1
      clear h0 h1
      go_enter Tryd.func40, Tryd.ntmps40
      go_wp2
      go_ret
      exact ⟨rfl, rfl⟩

theorem kind_cases (k : Int) : (k = 0 ∨ k = 1 ∨ k = 2 ∨ k = 3 ∨ k = 4 ∨ k = 5 ∨ k = 6 ∨ k = 7 ∨ k = 8 ∨ k = 9) ∨ (k < 0 ∨ 9 < k) := by omega
theorem many_out {k : Int} (h : k < 0 ∨ 9 < k) : many k = -1 := by
  unfold many
  rw [if_neg (by omega), if_neg (by omega), if_neg (by omega), if_neg (by omega)]

set_option maxRecDepth 100000 in
set_option maxHeartbeats 1000000 in
theorem many_any (k : Int) (w : World) : Calls Tryd.prog 38 #[.int .i64 k] w fun e w' => e = .returned (.int .i64 (many k)) ∧ w = w' := by
  rcases kind_cases k with h | h
  · rcases h with rfl | rfl | rfl | rfl | rfl | rfl | rfl | rfl | rfl | rfl <;>
      (go_enter Tryd.func38, Tryd.ntmps38
       go_wp2
       go_ret
       exact ⟨rfl, rfl⟩)
  · rw [many_out h]
    have g0 : (k == 0) = false := by simp; omega
    have g1 : (k == 1) = false := by simp; omega
    have g2 : (k == 2) = false := by simp; omega
    have g3 : (k == 3) = false := by simp; omega
    have g4 : (k == 4) = false := by simp; omega
    have g5 : (k == 5) = false := by simp; omega
    have g6 : (k == 6) = false := by simp; omega
    have g7 : (k == 7) = false := by simp; omega
    have g8 : (k == 8) = false := by simp; omega
    have g9 : (k == 9) = false := by simp; omega
    clear h
    go_enter Tryd.func38, Tryd.ntmps38
    go_wp2
    go_ret
    exact ⟨rfl, rfl⟩
end Go.Proofs.YtgjhhipkfglpgaaDoor

namespace Go.Proofs.YtgjhhipkfglpgaaDoor
open Go.RowKit

theorem bcell {W w1 : World} (hb : Below W.heap.size W w1) : ∀ b o, b < W.heap.size → w1.cell? ⟨b, o, none⟩ = W.cell? ⟨b, o, none⟩ := fun b o h => hb.cell (p := ⟨b, o, none⟩) h
theorem rowAt.keep {w w' : World} {g : Nat} {L : List Nd} (h : rowAt w g L) (hk : w'.heap[g]? = w.heap[g]?) : rowAt w' g L := fun i hi => (h i hi).keep hk

theorem lexLast {c0 c1 c2 : Int} (h0 : c0 = 0) (h1 : c1 = 0) (h2 : c2 = 0) : orZ [0, 0, c0, c1, c2] = 0 := by simp [orZ, h0, h1, h2]
theorem lexAt (c : Int → Int) (kk : Nat) (h3 : kk < 3) (hz : ∀ t : Nat, t < kk → c t = 0) (hn : c kk ≠ 0) : orZ [0, 0, c 0, c 1, c 2] = c kk := by
  match kk, h3 with
  | 0, _ =>
    have hn : c 0 ≠ 0 := hn
    simp only [orZ, if_true]; rw [if_neg hn]; rfl
  | 1, _ =>
    have h0 : c 0 = 0 := hz 0 (by omega)
    have hn : c 1 ≠ 0 := hn
    simp only [orZ, if_true]
    rw [if_pos h0, if_neg hn]; rfl
  | 2, _ =>
    have h0 : c 0 = 0 := hz 0 (by omega)
    have h1 : c 1 = 0 := hz 1 (by omega)
    have hn : c 2 ≠ 0 := hn
    simp only [orZ, if_true]
    rw [if_pos h0, if_pos h1, if_neg hn]; rfl
theorem part_lt (t : Nat) (a1 b1 e1 a2 b2 e2 : Int) (i j : Nat) (hij : i ≠ j) (h1 : inAt a1 i ∧ inAt b1 i ∧ inAt e1 i) (h2 : inAt a2 j ∧ inAt b2 j ∧ inAt e2 j) :
    (partZ t a1 b1 e1).toNat + (partZ t a2 b2 e2).toNat < i + j := by
  unfold partZ inAt at *
  split
  · omega
  · split <;> omega

set_option maxRecDepth 100000 in
set_option maxHeartbeats 1000000 in
theorem refCmp_ind (lim : Int) (g cap : Nat) (L : List Nd) (hw : WFp L) (N : Nat) : ∀ (x y : Int) (w : World), x.toNat + y.toNat < N → rowAt w g L → g < w.heap.size →
    Calls Tryd.prog 41 #[.agg #[.int .i64 lim, .slice (some ⟨g, 0, none⟩) L.length cap], .int .i64 x, .int .i64 y] w fun e w' => e = .returned (.int .i64 (cmp L x y)) ∧ Below w.heap.size w w' := by
  have HW := Lib.hid hw; clear hw
  induction N with
  | zero => intro x y w h; omega
  | succ N ih =>
    intro x y w hN hr hg
    have IH := Lib.hid ih; clear ih
    have HR := Lib.hid hr; clear hr
    by_cases hxy : x = y
    · subst hxy
      rw [cmp_self]
      go_enter Tryd.func41, Tryd.ntmps41
      go_wp2_with fail
      go_ret
      exact ⟨rfl, (Below.refl _ _).alloc (Nat.le_refl _) _⟩
    · have h1 : (x == y) = false := by simpa using hxy
      cases hx : hasB L.length x
      · have hbo : both L x y = false := by simp [both, hx]
        cases hy : hasB L.length y
        · by_cases hlt : x < y
          · rw [show cmp L x y = -1 from by rw [cmp_miss hxy hbo]; simp [cmpMiss, hx, hy, cmpZ_lt hlt]]
            clear hxy hbo
            go_enter Tryd.func41, Tryd.ntmps41
            go_wp2_with (go_at_call 39; refine (refHas_any _ _ _ _ _ _).mono ?_; rintro e w' ⟨rfl, rfl⟩)
            go_ret
            exact ⟨rfl, (((((Below.refl _ _).alloc (Nat.le_refl _) _).alloc (by simp) _).alloc (by simp; omega) _).alloc (by simp; omega) _)⟩
          · rw [show cmp L x y = 1 from by rw [cmp_miss hxy hbo]; simp [cmpMiss, hx, hy, cmpZ_gt (show y < x by omega)]]
            have h2 : decide (x < y) = false := by simpa using hlt
            clear hxy hbo hlt
            go_enter Tryd.func41, Tryd.ntmps41
            go_wp2_with (go_at_call 39; refine (refHas_any _ _ _ _ _ _).mono ?_; rintro e w' ⟨rfl, rfl⟩)
            go_ret
            exact ⟨rfl, (((((Below.refl _ _).alloc (Nat.le_refl _) _).alloc (by simp) _).alloc (by simp; omega) _).alloc (by simp; omega) _)⟩
        · rw [show cmp L x y = 1 from by rw [cmp_miss hxy hbo]; simp [cmpMiss, hx, hy]]
          clear hxy hbo
          go_enter Tryd.func41, Tryd.ntmps41
          go_wp2_with (go_at_call 39; refine (refHas_any _ _ _ _ _ _).mono ?_; rintro e w' ⟨rfl, rfl⟩)
          go_ret
          exact ⟨rfl, (((((Below.refl _ _).alloc (Nat.le_refl _) _).alloc (by simp) _).alloc (by simp; omega) _).alloc (by simp; omega) _)⟩
      · cases hy : hasB L.length y
        · have hbo : both L x y = false := by simp [both, hx, hy]
          rw [show cmp L x y = -1 from by rw [cmp_miss hxy hbo]; simp [cmpMiss, hx]]
          clear hbo hxy
          go_enter Tryd.func41, Tryd.ntmps41
          go_wp2_with (go_at_call 39; refine (refHas_any _ _ _ _ _ _).mono ?_; rintro e w' ⟨rfl, rfl⟩)
          go_ret
          exact ⟨rfl, (((((Below.refl _ _).alloc (Nat.le_refl _) _).alloc (by simp) _).alloc (by simp; omega) _).alloc (by simp; omega) _)⟩
        · have hbo : both L x y = true := by simp [both, hx, hy]
          have hbb := both_iff.1 hbo
          obtain ⟨i, rfl⟩ := Int.eq_ofNat_of_zero_le hbb.1.1
          obtain ⟨j, rfl⟩ := Int.eq_ofNat_of_zero_le hbb.2.1
          have hi : i < L.length := by omega
          have hj : j < L.length := by omega
          have ri := HR.out i hi
          have rj := HR.out j hj
          have hlex := cmp_lex HW.out hbo
          have pi := HW.out.parts i hi
          have pj := HW.out.parts j hj
          have hij : i ≠ j := fun e => hxy (by rw [e])
          have hni : nd L (i : Int) = L.getD i zN := by unfold nd; rw [Int.toNat_natCast]
          have hnj : nd L (j : Int) = L.getD j zN := by unfold nd; rw [Int.toNat_natCast]
          rw [hni, hnj] at hlex
          clear hni hnj hbo hbb hxy
          obtain ⟨m, hmm⟩ : ∃ m, m = L.getD i zN := ⟨_, rfl⟩
          obtain ⟨n, hnn⟩ : ∃ n, n = L.getD j zN := ⟨_, rfl⟩
          rw [← hmm] at ri pi hlex
          rw [← hnn] at rj pj hlex
          clear hmm hnn
          obtain ⟨k1, n1, a1, b1, e1⟩ := m
          obtain ⟨k2, n2, a2, b2, e2⟩ := n
          obtain ⟨ri0, ri1, ri2, ri3, ri4⟩ := ri
          obtain ⟨rj0, rj1, rj2, rj3, rj4⟩ := rj
          simp only at ri0 ri1 ri2 ri3 ri4 rj0 rj1 rj2 rj3 rj4 hlex pi pj
          have HLex := Lib.hid hlex; clear hlex
          have HPi := Lib.hid pi; clear pi
          have HPj := Lib.hid pj; clear pj
          have q1 : g < w.heap.size + 1 := by omega
          have q2 : g < w.heap.size + 1 + 1 := by omega
          have q3 : g < w.heap.size + 1 + 1 + 1 := by omega
          by_cases hk : k1 = k2
          · subst hk
            by_cases hn : n1 = n2
            · subst hn
              go_enter Tryd.func41, Tryd.ntmps41
              go_wp2_with (go_at_call 39; refine (refHas_any _ _ _ _ _ _).mono ?_; rintro e w' ⟨rfl, rfl⟩)
              go_loopg [9, 10] 3 (fun r u9 _ wr => ∃ kk : Nat, kk + r = 3 ∧ u9 = .int .i64 kk ∧ (∀ t : Nat, t < kk → cmp L (partZ t a1 b1 e1) (partZ t a2 b2 e2) = 0) ∧ Below w.heap.size w wr ∧ w.heap.size + 5 ≤ wr.heap.size ∧
                wr.cell? ⟨w.heap.size, 0, none⟩ = some (.int .i64 lim) ∧ wr.cell? ⟨w.heap.size, 1, none⟩ = some (.slice (some ⟨g, 0, none⟩) L.length cap) ∧ boxAt wr (w.heap.size + 1 + 1 + 1) k1 n1 a1 b1 e1 ∧ boxAt wr (w.heap.size + 1 + 1 + 1 + 1) k1 n1 a2 b2 e2)
              case atStart => exact ⟨0, rfl, rfl, fun t ht => by omega, (((((Below.refl _ _).alloc (Nat.le_refl _) _).alloc (by simp) _).alloc (by simp; omega) _).alloc (by simp; omega) _).alloc (by simp; omega) _, by simp, by go_simp, by go_simp, by unfold boxAt; refine ⟨?_, ?_, ?_, ?_, ?_⟩ <;> go_simp, by unfold boxAt; refine ⟨?_, ?_, ?_, ?_, ?_⟩ <;> go_simp⟩
              case round =>
                obtain ⟨kk, hkr, rfl, hall, hbel, hsz, z0, z1, hbp, hbq⟩ := hrel
                have HA := Lib.hid hall; clear hall
                by_cases hlt : kk < 3
                · obtain ⟨p0, p1, p2, p3, p4⟩ := hbp
                  obtain ⟨o0, o1, o2, o3, o4⟩ := hbq
                  have s0 : w.heap.size < wr.heap.size := by omega
                  have s1 : w.heap.size + 1 + 1 + 1 < wr.heap.size := by omega
                  have s2 : w.heap.size + 1 + 1 + 1 + 1 < wr.heap.size := by omega
                  have t0 : w.heap.size < wr.heap.size + 1 := by omega
                  have t1 : w.heap.size + 1 + 1 + 1 < wr.heap.size + 1 := by omega
                  have t2 : w.heap.size + 1 + 1 + 1 + 1 < wr.heap.size + 1 := by omega
                  have v0 : w.heap.size < wr.heap.size + 1 + 1 := by omega
                  have v1 : w.heap.size + 1 + 1 + 1 < wr.heap.size + 1 + 1 := by omega
                  have v2 : w.heap.size + 1 + 1 + 1 + 1 < wr.heap.size + 1 + 1 := by omega
                  have HLT := Lib.hid (part_lt kk a1 b1 e1 a2 b2 e2 i j hij HPi.out HPj.out)
                  have HLT : Hid ((partZ kk a1 b1 e1).toNat + (partZ kk a2 b2 e2).toNat < N) := Lib.hid (by have := HLT.out; omega)
                  have HB2 := Lib.hid (fun o1 o2 => ((hbel.alloc hbel.size o1).alloc (Nat.le_trans hbel.size (by simp)) o2).drew)
                  have HRW : Hid (∀ o1 o2, rowAt ((wr.alloc o1).alloc o2).drew g L) := Lib.hid (fun o1 o2 => HR.out.keep ((HB2.out o1 o2).block g hg))
                  have HS : Hid (∀ o1 o2, g < ((wr.alloc o1).alloc o2).drew.heap.size) := Lib.hid (fun o1 o2 => by have := (HB2.out o1 o2).size; omega)
                  go_upto_region 20 with fail
                  go_cut [10] (fun s10 wx => s10 = .int .i64 (cmp L (partZ kk a1 b1 e1) (partZ kk a2 b2 e2)) ∧ Below w.heap.size w wx ∧ w.heap.size + 5 ≤ wx.heap.size ∧
                    wx.cell? ⟨w.heap.size, 0, none⟩ = some (.int .i64 lim) ∧ wx.cell? ⟨w.heap.size, 1, none⟩ = some (.slice (some ⟨g, 0, none⟩) L.length cap) ∧ boxAt wx (w.heap.size + 1 + 1 + 1) k1 n1 a1 b1 e1 ∧ boxAt wx (w.heap.size + 1 + 1 + 1 + 1) k1 n1 a2 b2 e2)
                  case first =>
                    go_region_held3 (fun w' => w'.cell? ⟨w.heap.size, 0, none⟩ = some (.int .i64 lim) ∧ w'.cell? ⟨w.heap.size, 1, none⟩ = some (.slice (some ⟨g, 0, none⟩) L.length cap) ∧
                        w'.cell? ⟨w.heap.size + 1 + 1 + 1, 0, none⟩ = some (.int .i64 k1) ∧ w'.cell? ⟨w.heap.size + 1 + 1 + 1, 1, none⟩ = some (.int .u64 n1) ∧ w'.cell? ⟨w.heap.size + 1 + 1 + 1, 2, none⟩ = some (.int .i64 a1) ∧ w'.cell? ⟨w.heap.size + 1 + 1 + 1, 3, none⟩ = some (.int .i64 b1) ∧ w'.cell? ⟨w.heap.size + 1 + 1 + 1, 4, none⟩ = some (.int .i64 e1) ∧
                        w'.cell? ⟨w.heap.size + 1 + 1 + 1 + 1, 0, none⟩ = some (.int .i64 k1) ∧ w'.cell? ⟨w.heap.size + 1 + 1 + 1 + 1, 1, none⟩ = some (.int .u64 n1) ∧ w'.cell? ⟨w.heap.size + 1 + 1 + 1 + 1, 2, none⟩ = some (.int .i64 a2) ∧ w'.cell? ⟨w.heap.size + 1 + 1 + 1 + 1, 3, none⟩ = some (.int .i64 b2) ∧ w'.cell? ⟨w.heap.size + 1 + 1 + 1 + 1, 4, none⟩ = some (.int .i64 e2)) (first | (go_simp; done) | (simp [*]; done))
                      (first
                        | (go_at_call 40; refine (part_any _ _ _ _ _ _ _).mono ?_; rintro e w' ⟨rfl, rfl⟩)
                        | (go_at_call 41; refine (IH.out (partZ kk a1 b1 e1) (partZ kk a2 b2 e2) _ HLT.out (HRW.out _ _) (HS.out _ _)).mono ?_; rintro e w' ⟨rfl, hb2⟩; have hbc := bcell hb2))
                    go_wp2_with fail
                    go_meet
                    case rel =>
                      refine ⟨rfl, (HB2.out _ _).trans (hb2.mono (HB2.out _ _).size), ?_, ?_, ?_, ?_, ?_⟩
                      · have := hb2.size; simp at this; omega
                      · rw [hbc _ _ (by simp; omega)]; go_simp
                      · rw [hbc _ _ (by simp; omega)]; go_simp
                      · unfold boxAt; refine ⟨?_, ?_, ?_, ?_, ?_⟩ <;> (rw [hbc _ _ (by simp; omega)]; go_simp)
                      · unfold boxAt; refine ⟨?_, ?_, ?_, ?_, ?_⟩ <;> (rw [hbc _ _ (by simp; omega)]; go_simp)
                  case rest =>
                    clear HB2 HRW HS z0 z1 p0 p1 p2 p3 p4 o0 o1 o2 o3 o4 hbel hsz s0 s1 s2 t0 t1 t2 v0 v1 v2
                    obtain ⟨rfl, hbel, hsz, z0, z1, hbp, hbq⟩ := hcut
                    obtain ⟨t, htt⟩ : ∃ t, t = cmp L (partZ kk a1 b1 e1) (partZ kk a2 b2 e2) := ⟨_, rfl⟩
                    rw [← htt]
                    by_cases h0 : t = 0
                    · subst h0
                      have HT := Lib.hid htt; clear htt
                      go_wp2_with fail
                      go_roundg (2 - kk)
                      case measure => omega
                      case rel =>
                        refine ⟨kk + 1, by omega, by go_num, fun t ht => ?_, hbel, hsz, z0, z1, hbp, hbq⟩
                        by_cases htk : t < kk
                        · exact HA.out t htk
                        · obtain rfl : t = kk := by omega
                          exact HT.out.symm
                    · have h2 : (t != 0) = true := by simpa using h0
                      have HF : Hid (cmp L ↑i ↑j = t) := Lib.hid (by
                        rw [HLex.out, cmpZ_eq, cmpZ_eq, htt]
                        exact lexAt (fun t => cmp L (partZ t a1 b1 e1) (partZ t a2 b2 e2)) kk hlt (fun t ht => HA.out t ht) (by rw [← htt]; exact h0))
                      clear htt h0
                      go_wp2_with fail
                      go_ret
                      exact ⟨by rw [HF.out]; rfl, hbel⟩
                · obtain rfl : kk = 3 := by omega
                  have HF : Hid (cmp L ↑i ↑j = 0) := Lib.hid (by
                    rw [HLex.out, cmpZ_eq, cmpZ_eq]
                    exact lexLast (HA.out 0 (by omega)) (HA.out 1 (by omega)) (HA.out 2 (by omega)))
                  go_wp2_with fail
                  go_ret
                  exact ⟨by rw [HF.out]; rfl, hbel⟩
            · have h2 : (n1 != n2) = true := by simpa using hn
              have HF : Hid (cmp L ↑i ↑j = cmpZ n1 n2) := Lib.hid (by rw [HLex.out]; simp only [orZ, cmpZ_eq, if_true]; rw [if_neg (fun e => hn (cmpZ_zero.1 e))])
              by_cases hlt : n1 < n2
              · go_enter Tryd.func41, Tryd.ntmps41
                go_wp2_with (go_at_call 39; refine (refHas_any _ _ _ _ _ _).mono ?_; rintro e w' ⟨rfl, rfl⟩)
                go_ret
                exact ⟨by rw [HF.out, cmpZ_lt hlt]; rfl, (((((Below.refl _ _).alloc (Nat.le_refl _) _).alloc (by simp) _).alloc (by simp; omega) _).alloc (by simp; omega) _).alloc (by simp; omega) _⟩
              · have h3 : decide (n1 < n2) = false := by simpa using hlt
                have hgt : n2 < n1 := by omega
                go_enter Tryd.func41, Tryd.ntmps41
                go_wp2_with (go_at_call 39; refine (refHas_any _ _ _ _ _ _).mono ?_; rintro e w' ⟨rfl, rfl⟩)
                go_ret
                exact ⟨by rw [HF.out, cmpZ_gt hgt]; rfl, (((((Below.refl _ _).alloc (Nat.le_refl _) _).alloc (by simp) _).alloc (by simp; omega) _).alloc (by simp; omega) _).alloc (by simp; omega) _⟩
          · have h2 : (k1 != k2) = true := by simpa using hk
            have HF : Hid (cmp L ↑i ↑j = cmpZ k1 k2) := Lib.hid (by rw [HLex.out]; simp only [orZ]; rw [if_neg (fun e => hk (cmpZ_zero.1 e))])
            by_cases hlt : k1 < k2
            · go_enter Tryd.func41, Tryd.ntmps41
              go_wp2_with (go_at_call 39; refine (refHas_any _ _ _ _ _ _).mono ?_; rintro e w' ⟨rfl, rfl⟩)
              go_ret
              exact ⟨by rw [HF.out, cmpZ_lt hlt]; rfl, (((((Below.refl _ _).alloc (Nat.le_refl _) _).alloc (by simp) _).alloc (by simp; omega) _).alloc (by simp; omega) _).alloc (by simp; omega) _⟩
            · have h3 : decide (k1 < k2) = false := by simpa using hlt
              have hgt : k2 < k1 := by omega
              go_enter Tryd.func41, Tryd.ntmps41
              go_wp2_with (go_at_call 39; refine (refHas_any _ _ _ _ _ _).mono ?_; rintro e w' ⟨rfl, rfl⟩)
              go_ret
              exact ⟨by rw [HF.out, cmpZ_gt hgt]; rfl, (((((Below.refl _ _).alloc (Nat.le_refl _) _).alloc (by simp) _).alloc (by simp; omega) _).alloc (by simp; omega) _).alloc (by simp; omega) _⟩
theorem refCmp_any (lim : Int) (g cap : Nat) (L : List Nd) (hw : WFp L) (x y : Int) (w : World) (hr : rowAt w g L) (hg : g < w.heap.size) :
    Calls Tryd.prog 41 #[.agg #[.int .i64 lim, .slice (some ⟨g, 0, none⟩) L.length cap], .int .i64 x, .int .i64 y] w fun e w' => e = .returned (.int .i64 (cmp L x y)) ∧ Below w.heap.size w w' :=
  refCmp_ind lim g cap L hw _ x y w (Nat.lt_succ_self _) hr hg
end Go.Proofs.YtgjhhipkfglpgaaDoor
