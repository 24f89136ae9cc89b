/- Walks: whether an arena has just the reference's terms (Same). -/
import Derived.Test.YtonpjogaamgceaaDoorQh
namespace Go.Proofs.YtonpjogaamgceaaDoor
open Go.RowKit Go.Maps

set_option maxRecDepth 100000 in
set_option maxHeartbeats 4000000 in
theorem same_any (b g bm cap lim gr capr : Nat) (L : List Nd) (w : World) (hA : Ar w b g bm cap lim L) (hr : rowAt w gr L) (hgr : gr < w.heap.size) :
    Calls Tryd.prog 15 #[.pointer (some ⟨b, 0, none⟩), .agg #[.int .i64 lim, .slice (some ⟨gr, 0, none⟩) L.length capr]] w fun e w' => e = .returned (.bool true) ∧ Below w.heap.size w w' := by
  have HA := Lib.hid hA; clear hA
  have HR := Lib.hid hr; clear hr
  have hm : L.length ≤ 65536 := HA.out.small
  have HLEN := Lib.hid (fun (o : Obj) q => len_any b (some ⟨g, 0, none⟩) L.length cap ((w.alloc o).drewN q) ((HA.out.below (belowDrewN ((Below.refl _ _).alloc (Nat.le_refl _) o))).c0))
  go_enter Tryd.func15, Tryd.ntmps15
  go_wp2_with fail
  go_quiet ((go_at_call 32; exact Calls.quiet_of_same ((HLEN.out _ _).mono fun _ _ ⟨he, hw⟩ => ⟨he, hw.symm⟩)))
  go_wp2_with fail
  go_loopg [5, 6, 7, 17] L.length (fun r _ _ _ u17 wr => ∃ k : Nat, k + r = L.length ∧ u17 = .int .i64 k ∧ Below w.heap.size w wr ∧ wr.heap[w.heap.size]? = some (.cells #[.int .i64 lim, .slice (some ⟨gr, 0, none⟩) L.length capr] 30 (0, 0)))
  case atStart => exact ⟨0, by omega, rfl, belowDrewN ((Below.refl _ _).alloc (Nat.le_refl _) _), heap_alloc_new w _⟩
  case round =>
    obtain ⟨k, hkr, rfl, hbel, hbox⟩ := hrel
    by_cases hlt : k < L.length
    · have hgk := get_yes b g bm cap lim L k hlt wr (HA.out.below hbel)
      have ri := (HR.out k hlt).keep (w' := wr) (hbel.block gr hgr)
      unfold agg at hgk
      obtain ⟨m, hmm⟩ : ∃ m, m = L.getD k zN := ⟨_, rfl⟩
      rw [← hmm] at ri hgk
      clear hmm
      obtain ⟨k1, n1, a1, b1, e1⟩ := m
      obtain ⟨ri0, ri1, ri2, ri3, ri4⟩ := ri
      simp only at ri0 ri1 ri2 ri3 ri4 hgk
      have HG := Lib.hid hgk; clear hgk
      have hbl := lt_of_heap hbox
      have z0 : wr.cell? ⟨w.heap.size, 0, none⟩ = some (.int .i64 lim) := by rw [cell_of_row wr _ 0 _ _ _ hbox]; rfl
      have z1 : wr.cell? ⟨w.heap.size, 1, none⟩ = some (.slice (some ⟨gr, 0, none⟩) L.length capr) := by rw [cell_of_row wr _ 1 _ _ _ hbox]; rfl
      have HBX := Lib.hid hbox; clear hbox
      go_wp2_with fail
      refine HG.out.mono ?_
      rintro e w2 ⟨rfl, hb2⟩
      have hs2 := hb2.size
      have y1 := (bcell hb2 w.heap.size 1 hbl).trans z1
      have r0 := (bcell hb2 gr (k * 5) (by omega)).trans ri0
      have r1 := (bcell hb2 gr (k * 5 + 1) (by omega)).trans ri1
      have r2 := (bcell hb2 gr (k * 5 + 2) (by omega)).trans ri2
      have r3 := (bcell hb2 gr (k * 5 + 3) (by omega)).trans ri3
      have r4 := (bcell hb2 gr (k * 5 + 4) (by omega)).trans ri4
      have l0 : w.heap.size < w2.heap.size := by omega
      have l1 : gr < w2.heap.size := by omega
      have l2 : w.heap.size < w2.heap.size + 1 := by omega
      have l3 : gr < w2.heap.size + 1 := by omega
      have l4 : w.heap.size < w2.heap.size + 1 + 1 := by omega
      have l5 : gr < w2.heap.size + 1 + 1 := by omega
      have hk0 : (0 : Int) ≤ (k : Int) := by omega
      have hk1 : (k : Int) < (L.length : Int) := by omega
      have HB2 := Lib.hid hb2; clear hb2
      clear ri0 ri1 ri2 ri3 ri4 z0 z1
      go_wp2_with fail
      go_region_held3 (fun w' => w'.cell? ⟨w2.heap.size, 0, none⟩ = some (.int .i64 k1) ∧ w'.cell? ⟨w2.heap.size, 1, none⟩ = some (.int .u64 n1) ∧ w'.cell? ⟨w2.heap.size, 2, none⟩ = some (.int .i64 a1) ∧ w'.cell? ⟨w2.heap.size, 3, none⟩ = some (.int .i64 b1) ∧ w'.cell? ⟨w2.heap.size, 4, none⟩ = some (.int .i64 e1) ∧
          w'.cell? ⟨w.heap.size, 1, none⟩ = some (.slice (some ⟨gr, 0, none⟩) L.length capr) ∧ w'.cell? ⟨gr, k * 5, none⟩ = some (.int .i64 k1) ∧ w'.cell? ⟨gr, k * 5 + 1, none⟩ = some (.int .u64 n1) ∧ w'.cell? ⟨gr, k * 5 + 2, none⟩ = some (.int .i64 a1) ∧ w'.cell? ⟨gr, k * 5 + 3, none⟩ = some (.int .i64 b1) ∧ w'.cell? ⟨gr, k * 5 + 4, none⟩ = some (.int .i64 e1)) (first | (go_simp; done) | (simp [*]; done))
        (first
          | (go_at_call 27; refine (one_any _ _ _ _ _ _).mono ?_; rintro e w' ⟨rfl, rfl⟩))
      go_wp2_with fail
      go_roundg (L.length - (k + 1))
      case measure => omega
      case rel =>
        have hb3 : Below wr.heap.size wr w2 := HB2.out
        have hb4 := ((((hb3.alloc hb3.size (.cells #[.int .i64 k1, .int .u64 n1, .int .i64 a1, .int .i64 b1, .int .i64 e1] 54)).alloc (Nat.le_trans hb3.size (by simp)) (.cells #[.int .i64 k1, .int .u64 n1, .int .i64 a1, .int .i64 b1, .int .i64 e1] 54)).alloc (Nat.le_trans hb3.size (by simp; omega)) (.cells #[.int .i64 k1, .int .u64 n1, .int .i64 a1, .int .i64 b1, .int .i64 e1] 66))).drew
        exact ⟨k + 1, by omega, by go_num, hbel.trans (hb4.mono hbel.size), (hb4.block _ hbl).trans HBX.out⟩
    · go_wp2_with fail
      go_ret
      exact ⟨rfl, hbel⟩
end Go.Proofs.YtonpjogaamgceaaDoor
