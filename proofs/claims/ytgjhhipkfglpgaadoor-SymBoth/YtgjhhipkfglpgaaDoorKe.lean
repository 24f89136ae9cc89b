/- Layer 11: the walk of keys. -/
import Derived.Deep.OwnRows
import Derived.Test.YtgjhhipkfglpgaaDoorKc
namespace Go.Proofs.YtgjhhipkfglpgaaDoor
open Go.RowKit

theorem keyN_okI {i ck x : Int} (hi : 0 ≤ i ∧ i ≤ 4) (h1 : i64ok ck) (h2 : i64ok x) : (keyN i ck x).ok :=
  ⟨by simp [keyN, i64ok], by unfold keyN u64ok; constructor <;> simp only <;> omega, h1, h2, by simp [keyN, i64ok]⟩
/-- The row of keys behind so many rounds. -/
def kyRow (lim : Nat) (L : List Nd) (ck x : Int) (many k : Nat) : Array Value := ((List.range many).map fun i => if i < k then Value.int .i64 (yR lim L ck x i) else .int .i64 0).toArray
theorem kyRow_at {lim : Nat} {L : List Nd} {ck x : Int} {many k i : Nat} (h : i < many) : (kyRow lim L ck x many k)[i]? = some (if i < k then Value.int .i64 (yR lim L ck x i) else .int .i64 0) := by
  unfold kyRow; simp [h]
theorem kyRow_zero (lim : Nat) (L : List Nd) (ck x : Int) (many : Nat) : kyRow lim L ck x many 0 = madeCells #[.int .i64 0] many := by
  rw [← Array.toArray_toList (xs := madeCells #[.int .i64 0] many), toList_madeCells_one]
  unfold kyRow
  refine congrArg List.toArray (List.ext_getElem (by simp) fun i h1 h2 => by simp)
theorem kyRow_set {lim : Nat} {L : List Nd} {ck x : Int} {many k : Nat} (h : k < many) : (kyRow lim L ck x many k).set! k (.int .i64 (yR lim L ck x k)) = kyRow lim L ck x many (k + 1) := by
  refine Array.ext_getElem? fun i => ?_
  by_cases hi : i < many
  · rw [kyRow_at hi]
    rw [Array.set!_eq_setIfInBounds, Array.getElem?_setIfInBounds]
    by_cases e : k = i
    · subst e
      have hs : k < (kyRow lim L ck x many k).size := by unfold kyRow; simp [h]
      simp [hs]
    · rw [if_neg e, kyRow_at hi]
      by_cases h1 : i < k
      · rw [if_pos h1, if_pos (by omega)]
      · rw [if_neg h1, if_neg (by omega)]
  · rw [Array.getElem?_eq_none (by unfold kyRow; simp; omega), Array.getElem?_eq_none (by unfold kyRow; simp; omega)]
theorem keyN_parts (i ck x : Int) : keyN i ck x = ⟨6, i, ck, x, 0⟩ := rfl
def KyPost (w0 : World) (b g bm lim : Nat) (L : List Nd) (ck x : Int) (many : Nat) (w : World) (e : Ending) (w' : World) : Prop :=
  ∃ g' cap' v, e = .returned (.tuple #[v, .int .i64 (yE lim L ck x many)]) ∧ St w0 w' b g' bm cap' lim (yL lim L ck x many) ∧ (g' = g ∨ w.heap.size ≤ g') ∧ Kept w w' b g bm ∧
    (yE lim L ck x many = 0 → ∃ q, v = .slice (some ⟨q, 0, none⟩) many many ∧ w.heap.size ≤ q ∧ w'.heap[q]? = some (.cells (kyRow lim L ck x many many) 3 (0, 0))) ∧
    (yE lim L ck x many ≠ 0 → v = .slice none 0 0)
/-- The loop's state. -/
def KyL (w0 : World) (b g bm lim : Nat) (L : List Nd) (s : Sf) (x : Int) (many : Nat) (w : World) (k : Nat) (wr : World) : Prop :=
  ∃ g' cap', yE lim L s.ck x k = 0 ∧ St w0 wr b g' bm cap' lim (yL lim L s.ck x k) ∧ (g' = g ∨ w.heap.size ≤ g') ∧ Kept w wr b g bm ∧
    wr.heap[w.heap.size]? = some (.cells #[.int .i64 s.ck, .int .i64 s.h, .int .i64 s.c.k, .bool s.c.h, .int .u64 s.c.n] 35 (0, 0)) ∧
    wr.heap[w.heap.size + 1]? = some (.cells (kyRow lim L s.ck x many k) 3 (0, 0))
theorem kyRow_cell {w : World} {p : Nat} {lim : Nat} {L : List Nd} {ck x : Int} {many k i : Nat} (h : w.heap[p]? = some (.cells (kyRow lim L ck x many k) 3 (0, 0))) (hi : i < many) : ∃ v, w.cell? ⟨p, i, none⟩ = some (.int .i64 v) := by
  rw [cell_of_row w p i _ _ _ h, kyRow_at hi]
  split
  · exact ⟨_, rfl⟩
  · exact ⟨_, rfl⟩
theorem setCell_row {w : World} {p i : Nat} {cs : Array Value} {T : TypeId} {v : Value} (h : w.heap[p]? = some (.cells cs T (0, 0))) : (w.setCell ⟨p, i, none⟩ v).heap[p]? = some (.cells (cs.set! i v) T (0, 0)) := by
  simp only [World.setCell, Array.getElem?_modify, if_true, h]
  rfl
set_option maxRecDepth 100000 in
set_option maxHeartbeats 4000000 in
theorem keys_any (w0 : World) (b g bm cap lim : Nat) (L : List Nd) (s : Sf) (x : Int) (many : Nat) (w : World) (hA : St w0 w b g bm cap lim L) (hsh : Shp w0) (hs : i64ok s.ck) (hx : i64ok x) (hm : many ≤ 3) :
    Calls Tryd.prog 25 #[syV s, .pointer (some ⟨b, 0, none⟩), .int .i64 x, .int .i64 many] w (KyPost w0 b g bm lim L s.ck x many w) := by
  obtain ⟨i0, hi0, hz0, hz1, hz2⟩ := info_parts Tryd.infoI
  have HSt : Hid (KyL w0 b g bm lim L s x many w 0 ((w.alloc (.cells #[.int .i64 s.ck, .int .i64 s.h, .int .i64 s.c.k, .bool s.c.h, .int .u64 s.c.n] 35)).alloc (.cells (madeCells #[.int .i64 0] many) 3))) := Lib.hid (by
    refine ⟨g, cap, rfl, hA.keep (two_below _ _ _), .inl rfl, Kept.of (two_below _ _ _), ?_, ?_⟩
    · rw [Below.heap_alloc _ _ _ (by simp)]; exact heap_alloc_new w _
    · rw [kyRow_zero]
      have := heap_alloc_new (w.alloc (.cells #[.int .i64 s.ck, .int .i64 s.h, .int .i64 s.c.k, .bool s.c.h, .int .u64 s.c.n] 35)) (.cells (madeCells #[.int .i64 0] many) 3)
      rwa [World.size_alloc] at this)
  have HSH := Lib.hid hsh
  have HWW : Hid (w0.heap.size ≤ w.heap.size) := Lib.hid hA.bel.size
  have HOK : Hid (∀ k : Nat, k < 3 → (keyN ((k : Int) + 1) s.ck x).ok) := Lib.hid (fun k hk => keyN_okI (by omega) hs hx)
  clear hA hsh hs hx
  unfold syV
  go_enter Tryd.func25, Tryd.ntmps25
  go_wp2_with (first
    | (at_make; refine wpList_make_row _ rfl _ _ 63 rfl 3 i0 (.int .i64 0) Tryd.underlying63 hi0 hz0 hz1 rfl _ _ many rfl rfl (by rw [hz2]; omega) (by omega) ?_))
  generalize (w.alloc (.cells #[.int .i64 s.ck, .int .i64 s.h, .int .i64 s.c.k, .bool s.c.h, .int .u64 s.c.n] 35)).alloc (.cells (madeCells #[.int .i64 0] many) 3) = W0 at *
  go_loopg [11, 12, 13, 17] many (fun q _ _ _ u17 wr => ∃ k : Nat, k + q = many ∧ u17 = .int .i64 k ∧ KyL w0 b g bm lim L s x many w k wr)
  case atStart => exact ⟨0, by omega, rfl, HSt.out⟩
  case round =>
    obtain ⟨k, hkq, rfl, g1, cap1, he1, hA1, hg1, hk1, hb1, hr1⟩ := hrel
    by_cases hlt : k < many
    · have hlt' : (k : Int) < many := by omega
      have hw1 : IntKind.u64.wrap (k : Int) = k := by rw [IntKind.wrap_u64]; omega
      have hw2 : IntKind.u64.wrap ((k : Int) + 1) = k + 1 := by rw [IntKind.wrap_u64]; omega
      have HMK := Lib.hid (mk_any b g1 bm cap1 lim (yL lim L s.ck x k) 6 ((k : Int) + 1) s.ck x 0 wr hA1.ar (hA1.shp HSH.out) (HOK.out k (by omega)))
      unfold MkPost at HMK
      obtain ⟨y1, y2⟩ := y_succ he1
      rw [keyN_parts] at y1 y2
      have HY1 := Lib.hid y1
      have HY2 := Lib.hid y2
      have HSET := Lib.hid (kyRow_set (lim := lim) (L := L) (ck := s.ck) (x := x) hlt)
      have HYR : Hid (yR lim L s.ck x k = mkR lim (yL lim L s.ck x k) ⟨6, (k : Int) + 1, s.ck, x, 0⟩) := Lib.hid rfl
      rw [HYR.out] at HSET
      have HA1 := Lib.hid hA1
      have HG1 := Lib.hid hg1
      have HK1 := Lib.hid hk1
      have HB1 := Lib.hid hb1
      have HR1 := Lib.hid hr1
      have HSTK := Lib.hid (fun (h : yE lim L s.ck x (k + 1) ≠ 0) => y_stuck h many (by omega))
      obtain ⟨c0, -, -, -, -⟩ := sy_cells hb1
      have l0 := lt_of_heap hb1
      clear y1 y2 HYR hA1 hg1 hk1 hb1 hr1 he1 HSt
      generalize mkL lim (yL lim L s.ck x k) ⟨6, (k : Int) + 1, s.ck, x, 0⟩ = M at *
      generalize mkR lim (yL lim L s.ck x k) ⟨6, (k : Int) + 1, s.ck, x, 0⟩ = r at *
      generalize mkE lim (yL lim L s.ck x k) ⟨6, (k : Int) + 1, s.ck, x, 0⟩ = er at *
      go_wp2_with fail
      go_at_call 18
      refine HMK.out.mono ?_
      rintro e w3 ⟨g', cap', rfl, hA3, hg3, hk3⟩
      have HS3 := Lib.hid (HA1.out.step hA3 hg3 hk3)
      have HB3 := Lib.hid (HA1.out.ar.boxKept hk3 HB1.out (by decide) (by decide))
      have HR3 := Lib.hid (HA1.out.ar.boxKept hk3 HR1.out (by decide) (by decide))
      have HG3 := Lib.hid (grow_two HK1.out.size HG1.out hg3)
      have HK3 := Lib.hid (Kept.two HK1.out hk3 HG1.out)
      clear hA3 hg3 hk3 HMK HA1 HG1 HK1 HB1 HR1 c0 l0
      by_cases her : er = 0
      · subst her
        obtain ⟨v0, r0⟩ := kyRow_cell HR3.out hlt
        have l1 := lt_of_heap HR3.out
        have fr : w3.frozen? ⟨w.heap.size + 1, k, none⟩ = false := frozen_of_row _ _ _ _ _ HR3.out
        go_wp2_with fail
        go_roundg (many - (k + 1))
        case rel =>
          refine ⟨k + 1, by omega, by go_num, g', cap', HY2.out, ?_, HG3.out, ?_, ?_, ?_⟩
          · rw [HY1.out]
            have hf := HS3.out.ar.far HR3.out (by decide) (by decide)
            exact ⟨HS3.out.ar.setAt (Ne.symm hf.1) (Ne.symm hf.2.1) (Ne.symm hf.2.2) _, HS3.out.bel.setCell (Nat.le_trans HWW.out (Nat.le_succ _)) _, HS3.out.hb, HS3.out.hg, HS3.out.hm⟩
          · exact HK3.out.setAt (Nat.le_succ _) _
          · rw [Below.heap_setCell _ _ _ _ (by simp)]; exact HB3.out
          · rw [← HSET.out]; exact setCell_row HR3.out
        case measure => omega
      · have hne : (er != 0) = true := by simpa using her
        have HS' := Lib.hid (HSTK.out (by rw [HY2.out]; exact her))
        have HER := Lib.hid her
        clear HSTK her
        go_wp2_with fail
        go_ret2
        refine ⟨g', cap', .slice none 0 0, ?_, ?_, HG3.out, HK3.out, ?_, fun _ => rfl⟩
        · rw [HS'.out.2, HY2.out]; go_simp
        · rw [HS'.out.1, HY1.out]; exact HS3.out
        · intro h0
          rw [HS'.out.2, HY2.out] at h0
          exact absurd h0 HER.out
    · obtain rfl : k = many := by omega
      have hlt' : ¬ (k : Int) < k := by omega
      have HF := Lib.hid (And.intro he1 (And.intro hA1 (And.intro hg1 (And.intro hk1 hr1))))
      clear HSt he1 hA1 hg1 hk1 hr1 hb1
      go_wp2_with fail
      go_ret2
      obtain ⟨he1, hA1, hg1, hk1, hr1⟩ := HF.out
      refine ⟨g1, cap1, .slice (some ⟨w.heap.size + 1, 0, none⟩) k k, by rw [he1]; go_simp, hA1, hg1, hk1, fun _ => ⟨_, rfl, Nat.le_succ _, hr1⟩, fun h => absurd he1 h⟩
end Go.Proofs.YtgjhhipkfglpgaaDoor
