/- Walks: the reference's New and Share; the law's One. Walks: sharing, as the reference does it. Walks: making a node, as the reference does it, with a word on where the new row lies. -/
import Derived.Test.YtgjhhipkfglpgaaDoorQf
namespace Go.Proofs.YtgjhhipkfglpgaaDoor
open Go.RowKit Go.Maps

/-- The reference's arena as a value, its row in memory, all made since w. -/
structure Rf (w wi : World) (g : Nat) (L : List Nd) : Prop where
  row : rowAt wi g L
  lt : g < wi.heap.size
  ge : w.heap.size ≤ g

def RefNew (x : Int) (w : World) (e : Ending) (w' : World) : Prop :=
  ∃ g, e = .returned (.agg #[.int .i64 (limZ x), .slice (some ⟨g, 0, none⟩) 1 1]) ∧ Rf w w' g [zN] ∧ Below w.heap.size w w'

theorem refNew_close {x l : Int} {w w' : World} {g : Nat} (hl : ((limZ x : Nat) : Int) = l) (hrow : w'.heap[g]? = some (.cells #[.int .i64 0, .int .u64 0, .int .i64 0, .int .i64 0, .int .i64 0] 60 (0, 0))) (hg : w.heap.size ≤ g) (hB : Below w.heap.size w w') :
    RefNew x w (.returned (.agg #[.int .i64 l, .slice (some ⟨g, 0, none⟩) 1 1])) w' := by
  subst hl
  refine ⟨g, rfl, ⟨?_, lt_of_heap hrow, hg⟩, hB⟩
  intro i hi
  obtain rfl : i = 0 := by simp at hi; exact hi
  refine ⟨?_, ?_, ?_, ?_, ?_⟩ <;> (rw [cell_of_row w' g _ _ _ _ hrow]; rfl)

set_option maxRecDepth 100000 in
set_option maxHeartbeats 1000000 in
theorem refNew_any (x : Int) (w : World) : Calls Tryd.prog 20 #[.int .i64 x] w (RefNew x w) := by
  by_cases h1 : x < 1
  · go_enter Tryd.func20, Tryd.ntmps20
    go_wp2
    refine bodyPost_ret (v := .agg #[.int .i64 1, .slice (some ⟨w.heap.size + 1, 0, none⟩) 1 1]) (by simp [results, Tryd.results20, go_sem]) rfl ?_
    exact refNew_close (by rw [limZ_cast]; omega) (by simpa using heap_alloc_new (w.alloc _) _) (by omega) ((((Below.refl _ _).alloc (Nat.le_refl _) _)).alloc (by simp) _)
  · have h2 : decide (x < 1) = false := by simpa using h1
    by_cases h3 : 65536 < x
    · go_enter Tryd.func20, Tryd.ntmps20
      go_wp2
      refine bodyPost_ret (v := .agg #[.int .i64 65536, .slice (some ⟨w.heap.size + 1, 0, none⟩) 1 1]) (by simp [results, Tryd.results20, go_sem]) rfl ?_
      exact refNew_close (by rw [limZ_cast]; omega) (by simpa using heap_alloc_new (w.alloc _) _) (by omega) ((((Below.refl _ _).alloc (Nat.le_refl _) _)).alloc (by simp) _)
    · have h4 : decide (65536 < x) = false := by simpa using h3
      go_enter Tryd.func20, Tryd.ntmps20
      go_wp2
      refine bodyPost_ret (v := .agg #[.int .i64 x, .slice (some ⟨w.heap.size + 1, 0, none⟩) 1 1]) (by simp [results, Tryd.results20, go_sem]) rfl ?_
      exact refNew_close (by rw [limZ_cast]; omega) (by simpa using heap_alloc_new (w.alloc _) _) (by omega) ((((Below.refl _ _).alloc (Nat.le_refl _) _)).alloc (by simp) _)

set_option maxRecDepth 100000 in
set_option maxHeartbeats 400000 in
theorem one_any (k n a b c : Int) (w : World) :
    Calls Tryd.prog 22 #[.agg #[.int .i64 k, .int .u64 n, .int .i64 a, .int .i64 b, .int .i64 c]] w fun e w' => e = .returned (.agg #[.int .i64 k, .int .u64 n, .int .i64 a, .int .i64 b, .int .i64 c]) ∧
      (w.alloc (.cells #[.int .i64 k, .int .u64 n, .int .i64 a, .int .i64 b, .int .i64 c] 53)).alloc (.cells #[.int .i64 k, .int .u64 n, .int .i64 a, .int .i64 b, .int .i64 c] 60) = w' := by
  go_enter Tryd.func22, Tryd.ntmps22
  go_wp2
  exact bodyPost_ret (v := .agg #[.int .i64 k, .int .u64 n, .int .i64 a, .int .i64 b, .int .i64 c]) (by simp [results, Tryd.results22, go_sem]) rfl ⟨rfl, rfl⟩

def RefSh (lim : Nat) (L : List Nd) (x y : Int) (w : World) (e : Ending) (w' : World) : Prop :=
  ∃ g' cap', e = .returned (.tuple #[.agg #[.int .i64 lim, .slice (some ⟨g', 0, none⟩) (shL lim L x y).length cap'], .int .i64 (shR lim L x y), .int .i64 (shE lim L x y)]) ∧ rowAt w' g' (shL lim L x y) ∧ g' < w'.heap.size ∧ Below w.heap.size w w'

theorem refSh_close {lim g' cap' : Nat} {L : List Nd} {x y : Int} {d : Nd} {w w' : World} {p : Nat} (hbo : both L x y = true) (hd : shN L x y = d) (hrow : rowAt w' g' (mkL lim L d)) (hlt : g' < w'.heap.size) (hgp : g' ≠ p) (hB : Below w.heap.size w w') (hp : w.heap.size ≤ p) (u v : Value) :
    RefSh lim L x y w (.returned (.tuple #[.agg #[.int .i64 lim, .slice (some ⟨g', 0, none⟩) (mkL lim L d).length cap'], .int .i64 (mkR lim L d), .int .i64 (mkE lim L d)])) ((w'.setCell ⟨p, 0, none⟩ u).setCell ⟨p, 1, none⟩ v) := by
  subst hd
  unfold RefSh shL shR shE
  rw [if_pos hbo, if_pos hbo, if_pos hbo]
  exact ⟨g', cap', rfl, hrow.keep (set2_block _ _ _ _ _ hgp), by rw [set2_size]; exact hlt, set2_below hB hp _ _⟩
end Go.Proofs.YtgjhhipkfglpgaaDoor

namespace Go.Proofs.YtgjhhipkfglpgaaDoor
open Go.RowKit Go.Maps

theorem mkL_pos {lim : Nat} {L : List Nd} {d : Nd} (h : 0 < L.length) : 0 < (mkL lim L d).length := by
  unfold mkL
  split
  · split
    · exact h
    · split
      · exact h
      · simp
  · exact h
theorem row_ne {w : World} {g p : Nat} {L : List Nd} {s : Option Addr} {n c : Nat} (h : rowAt w g L) (hl : 0 < L.length) (hp : w.cell? ⟨p, 1, none⟩ = some (.slice s n c)) : g ≠ p := by
  intro e
  subst e
  have h1 := (h 0 hl).2.1
  simp only [Nat.zero_mul, Nat.zero_add] at h1
  rw [h1] at hp
  cases hp

end Go.Proofs.YtgjhhipkfglpgaaDoor

namespace Go.Proofs.YtgjhhipkfglpgaaDoor
open Go.RowKit

def RefMj (g lim : Nat) (L : List Nd) (d : Nd) (w : World) (e : Ending) (w' : World) : Prop :=
  ∃ g' cap', e = .returned (.tuple #[.agg #[.int .i64 lim, .slice (some ⟨g', 0, none⟩) (mkL lim L d).length cap'], .int .i64 (mkR lim L d), .int .i64 (mkE lim L d)]) ∧ rowAt w' g' (mkL lim L d) ∧ g' < w'.heap.size ∧ Below w.heap.size w w' ∧ (g' = g ∨ w.heap.size ≤ g')
theorem refMj_same {lim g cap : Nat} {L : List Nd} {d : Nd} {r er : Int} {w w2 : World} {p : Nat} (hV : mkL lim L d = L ∧ mkR lim L d = r ∧ mkE lim L d = er) (hrow : rowAt w2 g L) (hgw : g < w.heap.size) (hB : Below w.heap.size w w2) (hp : w.heap.size ≤ p) (u v : Value) :
    RefMj g lim L d w (.returned (.tuple #[.agg #[.int .i64 lim, .slice (some ⟨g, 0, none⟩) L.length cap], .int .i64 r, .int .i64 er])) ((w2.setCell ⟨p, 0, none⟩ u).setCell ⟨p, 1, none⟩ v) := by
  unfold RefMj
  rw [hV.1, hV.2.1, hV.2.2]
  exact ⟨g, cap, rfl, hrow.keep (set2_block _ _ _ _ _ (by omega)), by rw [set2_size]; have := hB.size; omega, set2_below hB hp _ _, .inl rfl⟩
theorem refMj_new {lim g g2 cap2 : Nat} {L : List Nd} {d : Nd} {w w2 wx : World} {p : Nat} (hV : mkL lim L d = L ++ [d] ∧ mkR lim L d = L.length ∧ mkE lim L d = 0) (hrow : rowAt wx g2 (L ++ [d])) (hlt : g2 < wx.heap.size) (hge : w2.heap.size ≤ g2) (hl : p < w2.heap.size) (hB : Below w.heap.size w wx) (hp : w.heap.size ≤ p) (u v : Value) :
    RefMj g lim L d w (.returned (.tuple #[.agg #[.int .i64 lim, .slice (some ⟨g2, 0, none⟩) (L.length + 1) cap2], .int .i64 L.length, .int .i64 0])) ((wx.setCell ⟨p, 0, none⟩ u).setCell ⟨p, 1, none⟩ v).drew := by
  unfold RefMj
  rw [hV.1, hV.2.1, hV.2.2]
  refine ⟨g2, cap2, by simp, hrow.keep (set2_block _ _ _ _ _ (by omega)), ?_, (set2_below hB hp _ _).drew, .inr (by omega)⟩
  show g2 < ((wx.setCell ⟨p, 0, none⟩ u).setCell ⟨p, 1, none⟩ v).heap.size
  rw [set2_size]; exact hlt

set_option maxRecDepth 100000 in
set_option maxHeartbeats 8000000 in
theorem refMj_any (lim : Nat) (g cap : Nat) (L : List Nd) (hw : WFp L) (hm : L.length ≤ 65536) (k n a b c : Int) (w : World) (hr : rowAt w g L) (hg : g < w.heap.size) :
    Calls Tryd.prog 21 #[.agg #[.int .i64 lim, .slice (some ⟨g, 0, none⟩) L.length cap], .agg #[.int .i64 k, .int .u64 n, .int .i64 a, .int .i64 b, .int .i64 c]] w (RefMj g lim L ⟨k, n, a, b, c⟩ w) := by
  have HW := Lib.hid hw; clear hw
  have HR := Lib.hid hr; clear hr
  have hB : ∀ o1 o2 o3, Below w.heap.size w (((w.alloc o1).alloc o2).alloc o3) := fun o1 o2 o3 => ((((Below.refl _ _).alloc (Nat.le_refl _) _).alloc (by simp) _).alloc (by simp; omega) _)
  have HB := Lib.hid hB; clear hB
  have HC := Lib.hid (fun o1 o2 o3 => refRight_any (lim : Int) g cap L HW.out k n a b c (((w.alloc o1).alloc o2).alloc o3) (HR.out.keep ((HB.out o1 o2 o3).block g hg)) (by simp; omega))
  go_enter Tryd.func21, Tryd.ntmps21
  go_wp2_with fail
  refine (HC.out _ _ _).mono ?_
  rintro e w1 ⟨rfl, hb1⟩
  have hc1 := bcell hb1
  have hf1 := bfroz hb1
  have hs1 := hb1.size
  simp only [World.size_alloc] at hc1 hf1 hs1
  have hb2 := (HB.out _ _ _).trans (hb1.mono (HB.out _ _ _).size)
  have c0 : w1.cell? ⟨w.heap.size, 0, none⟩ = some (.int .i64 lim) := by rw [hc1 _ _ (by omega)]; go_simp
  have c1 : w1.cell? ⟨w.heap.size, 1, none⟩ = some (.slice (some ⟨g, 0, none⟩) L.length cap) := by rw [hc1 _ _ (by omega)]; go_simp
  have n0 : w1.cell? ⟨w.heap.size + 1, 0, none⟩ = some (.int .i64 k) := by rw [hc1 _ _ (by omega)]; go_simp
  have n1 : w1.cell? ⟨w.heap.size + 1, 1, none⟩ = some (.int .u64 n) := by rw [hc1 _ _ (by omega)]; go_simp
  have n2 : w1.cell? ⟨w.heap.size + 1, 2, none⟩ = some (.int .i64 a) := by rw [hc1 _ _ (by omega)]; go_simp
  have n3 : w1.cell? ⟨w.heap.size + 1, 3, none⟩ = some (.int .i64 b) := by rw [hc1 _ _ (by omega)]; go_simp
  have n4 : w1.cell? ⟨w.heap.size + 1, 4, none⟩ = some (.int .i64 c) := by rw [hc1 _ _ (by omega)]; go_simp
  have r0 : w1.cell? ⟨w.heap.size + 1 + 1, 0, none⟩ = some (.int .i64 0) := by rw [hc1 _ _ (by omega)]; go_simp
  have r1 : w1.cell? ⟨w.heap.size + 1 + 1, 1, none⟩ = some (.slice none 0 0) := by rw [hc1 _ _ (by omega)]; go_simp
  have f0 : w1.frozen? ⟨w.heap.size + 1 + 1, 0, none⟩ = false := by rw [hf1 _ _ (by omega)]; go_simp
  have f1 : w1.frozen? ⟨w.heap.size + 1 + 1, 1, none⟩ = false := by rw [hf1 _ _ (by omega)]; go_simp
  have f2 : w1.frozen? ⟨w.heap.size, 1, none⟩ = false := by rw [hf1 _ _ (by omega)]; go_simp
  have HB2 := Lib.hid hb2
  have hgw : g < w1.heap.size := by omega
  have HR1 := Lib.hid (HR.out.keep (w' := w1) (hb2.block g hg))
  clear hc1 hf1 hb1 hb2 HC HB
  cases hrt : right L ⟨k, n, a, b, c⟩
  · have hv := mk_wrong (lim := lim) hrt
    have HV := Lib.hid hv; clear hv
    have HR2 := Lib.hid hrt; clear hrt
    go_wp2_with fail
    refine bodyPost_ret (v := .tuple #[.agg #[.int .i64 lim, .slice (some ⟨g, 0, none⟩) L.length cap], .int .i64 0, .int .i64 1]) (by simp [results, Tryd.results21, go_sem, r0, r1]) rfl ?_
    exact refMj_same HV.out HR1.out hg HB2.out (by omega) _ _
  · go_wp2_with fail
    have HR2 := Lib.hid hrt; clear hrt
    go_loopg [7] L.length (fun r u7 wr => ∃ i : Nat, i + r = L.length ∧ u7 = .int .i64 i ∧ (∀ t : Nat, t < i → L.getD t zN ≠ ⟨k, n, a, b, c⟩) ∧ ∃ q, wr = w1.drewN q)
    case atStart => exact ⟨0, by omega, rfl, fun t ht => by omega, 0, rfl⟩
    case round =>
      obtain ⟨i, hir, rfl, hall, q, rfl⟩ := hrel
      have HA := Lib.hid hall; clear hall
      by_cases hlt : i < L.length
      · have ri := HR1.out i hlt
        obtain ⟨m, hmm⟩ : ∃ m, m = L.getD i zN := ⟨_, rfl⟩
        rw [← hmm] at ri
        obtain ⟨k2, m2, a2, b2, c2⟩ := m
        obtain ⟨ri0, ri1, ri2, ri3, ri4⟩ := ri
        simp only at ri0 ri1 ri2 ri3 ri4
        by_cases he : (⟨k2, m2, a2, b2, c2⟩ : Nd) = ⟨k, n, a, b, c⟩
        · injection he with e1 e2 e3 e4 e5
          subst e1; subst e2; subst e3; subst e4; subst e5
          have HM := Lib.hid hmm; clear hmm
          have hv := mk_old (lim := lim) HR2.out (ix_of hlt HM.out.symm HA.out)
          have HV := Lib.hid hv; clear hv
          go_wp2_with fail
          go_quiet (fail)
          go_wp2_with fail
          refine bodyPost_ret (v := .tuple #[.agg #[.int .i64 lim, .slice (some ⟨g, 0, none⟩) L.length cap], .int .i64 i, .int .i64 0]) (by simp [results, Tryd.results21, go_sem, r0, r1]) rfl ?_
          exact refMj_same (w2 := w1.drewN (q + nq)) (p := w.heap.size + 1 + 1) HV.out (HR1.out.keep rfl) hg (belowDrewN HB2.out) (by omega) _ _
        · have HN : Hid (L.getD i zN ≠ ⟨k, n, a, b, c⟩) := Lib.hid (by rw [← hmm]; exact he)
          have hcase : k2 ≠ k ∨ (k2 = k ∧ m2 ≠ n) ∨ (k2 = k ∧ m2 = n ∧ a2 ≠ a) ∨ (k2 = k ∧ m2 = n ∧ a2 = a ∧ b2 ≠ b) ∨ (k2 = k ∧ m2 = n ∧ a2 = a ∧ b2 = b ∧ c2 ≠ c) := by
            by_cases e1 : k2 = k
            · by_cases e2 : m2 = n
              · by_cases e3 : a2 = a
                · by_cases e4 : b2 = b
                  · by_cases e5 : c2 = c
                    · exact absurd (Nd.ext5 e1 e2 e3 e4 e5) he
                    · exact .inr (.inr (.inr (.inr ⟨e1, e2, e3, e4, e5⟩)))
                  · exact .inr (.inr (.inr (.inl ⟨e1, e2, e3, e4⟩)))
                · exact .inr (.inr (.inl ⟨e1, e2, e3⟩))
              · exact .inr (.inl ⟨e1, e2⟩)
            · exact .inl e1
          clear hmm he
          rcases hcase with h | ⟨rfl, h⟩ | ⟨rfl, rfl, h⟩ | ⟨rfl, rfl, rfl, h⟩ | ⟨rfl, rfl, rfl, rfl, h⟩
          all_goals
            have hq := beq_eq_false_iff_ne.2 h
            clear h
            go_wp2_with fail
            go_quiet (fail)
            go_wp2_with fail
            go_roundg (L.length - (i + 1))
            case measure => omega
            case rel =>
              refine ⟨i + 1, by omega, by go_num, fun t ht => ?_, q + nq, rfl⟩
              by_cases htk : t < i
              · exact HA.out t htk
              · obtain rfl : t = i := by omega
                exact HN.out
      · obtain rfl : i = L.length := by omega
        have hin := ix_no HA.out
        have HIN := Lib.hid hin; clear hin
        by_cases hl : lim ≤ L.length
        · have HV := Lib.hid (mk_full (lim := lim) HR2.out HIN.out hl)
          go_wp2_with fail
          refine bodyPost_ret (v := .tuple #[.agg #[.int .i64 lim, .slice (some ⟨g, 0, none⟩) L.length cap], .int .i64 0, .int .i64 3]) (by simp [results, Tryd.results21, go_sem, r0, r1]) rfl ?_
          exact refMj_same (w2 := w1.drewN q) (p := w.heap.size + 1 + 1) HV.out (HR1.out.keep rfl) hg (belowDrewN HB2.out) (by omega) _ _
        · have hl2 : decide (lim ≤ L.length) = false := by simpa using hl
          have HV := Lib.hid (mk_new (lim := lim) HR2.out HIN.out (by omega))
          obtain ⟨w2, hw2⟩ : ∃ w2, w2 = w1.drewN q := ⟨_, rfl⟩
          have c0 : w2.cell? ⟨w.heap.size, 0, none⟩ = some (.int .i64 lim) := by rw [hw2]; exact c0
          have c1 : w2.cell? ⟨w.heap.size, 1, none⟩ = some (.slice (some ⟨g, 0, none⟩) L.length cap) := by rw [hw2]; exact c1
          have n0 : w2.cell? ⟨w.heap.size + 1, 0, none⟩ = some (.int .i64 k) := by rw [hw2]; exact n0
          have n1 : w2.cell? ⟨w.heap.size + 1, 1, none⟩ = some (.int .u64 n) := by rw [hw2]; exact n1
          have n2 : w2.cell? ⟨w.heap.size + 1, 2, none⟩ = some (.int .i64 a) := by rw [hw2]; exact n2
          have n3 : w2.cell? ⟨w.heap.size + 1, 3, none⟩ = some (.int .i64 b) := by rw [hw2]; exact n3
          have n4 : w2.cell? ⟨w.heap.size + 1, 4, none⟩ = some (.int .i64 c) := by rw [hw2]; exact n4
          have r0 : w2.cell? ⟨w.heap.size + 1 + 1, 0, none⟩ = some (.int .i64 0) := by rw [hw2]; exact r0
          have r1 : w2.cell? ⟨w.heap.size + 1 + 1, 1, none⟩ = some (.slice none 0 0) := by rw [hw2]; exact r1
          have f0 : w2.frozen? ⟨w.heap.size + 1 + 1, 0, none⟩ = false := by rw [hw2]; exact f0
          have f1 : w2.frozen? ⟨w.heap.size + 1 + 1, 1, none⟩ = false := by rw [hw2]; exact f1
          have f2 : w2.frozen? ⟨w.heap.size, 1, none⟩ = false := by rw [hw2]; exact f2
          have hs2 : w.heap.size + 1 + 1 + 1 ≤ w2.heap.size := by rw [hw2]; exact hs1
          have HB3 : Hid (Below w.heap.size w w2) := Lib.hid (by rw [hw2]; exact belowDrewN HB2.out)
          have HR3 : Hid (rowAt w2 g L) := Lib.hid (by rw [hw2]; exact HR1.out.keep rfl)
          have hpos := HW.out.pos
          go_wp2_with fail
          rw [← hw2]
          clear hw2
          have hg2 : g < w2.heap.size := by omega
          have l0 : w.heap.size < w2.heap.size := by omega
          have l1 : w.heap.size + 1 < w2.heap.size := by omega
          have l2 : w.heap.size + 1 + 1 < w2.heap.size := by omega
          obtain ⟨i0, hi0, hz0, hz1, hz2⟩ := info_parts Tryd.info60
          go_cut [] (fun wx => Tail lim (L ++ [⟨k, n, a, b, c⟩]) (L.length + 1) w w2 wx)
          case first =>
            refine wp_region_noPanic ?_
            refine wp_region_held_drew (S := fun W' => w2.grownBy W' (some w.heap.size)) (by kernel_rfl) (grow_of (Below.refl _ _).drew) (fun hHeld => ?_)
            refine wpAnyH_take (i := 1) (v := ?_) rfl (by kernel_rfl) (by kernel_rfl) (by kernel_rfl) (fun _ _ _ h => h) (Or.inl ⟨by rfl, ?_⟩) (by assumption) ?_
            rotate_left
            · (intro W hSw; go_simp; try with_reducible rfl)
            try simp only [List.getElem_toArray, List.getElem_cons_succ, List.getElem_cons_zero, Act.put, List.setIfInBounds_toArray, List.set_cons_zero, List.set_cons_succ]
            refine wpAnyH_take (i := 4) (v := ?_) rfl (by kernel_rfl) (by kernel_rfl) (by kernel_rfl) (fun _ _ _ h => h) (Or.inl ⟨by rfl, ?_⟩) (by assumption) ?_
            rotate_left
            · (intro W hSw; have e0 := (hSw.cell n0 (by simp)); have e1 := (hSw.cell n1 (by simp)); have e2 := (hSw.cell n2 (by simp)); have e3 := (hSw.cell n3 (by simp)); have e4 := (hSw.cell n4 (by simp)); go_simp; try with_reducible rfl)
            try simp only [List.getElem_toArray, List.getElem_cons_succ, List.getElem_cons_zero, Act.put, List.setIfInBounds_toArray, List.set_cons_zero, List.set_cons_succ]
            clear hHeld
            have hB : Below w2.heap.size w2 w2.drew := (Below.refl _ _).drew
            generalize w2.drew = X0 at *
            refine wpAnyH_ready (rs := [0, 2, 5]) (by kernel_rfl) (by simp) ?_
            refine (AllReadyH.cons rfl (fun K hK => ?_) (AllReadyH.cons rfl (fun K hK => ?_) (AllReadyH.cons rfl (fun K hK => ?_) AllReadyH.nil)))
            · go_simp
              refine hK.out _ _ (grow_of (hB.alloc hB.size _)) (fun hHeld => ?_)
              clear hK K hHeld
              try simp only [List.getElem_toArray, List.getElem_cons_succ, List.getElem_cons_zero, Act.put, List.setIfInBounds_toArray, List.set_cons_zero, List.set_cons_succ]
              have hB' := hB.alloc hB.size (.cells #[] 60)
              have hE := heap_alloc_new X0 (.cells #[] 60)
              obtain ⟨E, hEe⟩ : ∃ v, v = X0.heap.size := ⟨_, rfl⟩
              rw [← hEe] at hE ⊢
              have hE0 : w2.heap.size ≤ E := by rw [hEe]; exact hB.size
              have hElt : E < (X0.alloc (.cells #[] 60)).heap.size := by rw [hEe]; simp
              clear hEe hB
              generalize X0.alloc (.cells #[] 60) = X1 at *
              have hB := hB'
              clear hB'
              refine wpAnyH_ready (rs := [2, 5]) (by kernel_rfl) (by simp) ?_
              refine (AllReadyH.cons rfl (fun K hK => ?_) (AllReadyH.cons rfl (fun K hK => ?_) AllReadyH.nil))
              · have e1 := (bcell hB w.heap.size 1 l0).trans c1
                go_simp
                refine hK.out _ _ (grow_of hB) (fun hHeld => ?_)
                clear hK K hHeld e1
                try simp only [List.getElem_toArray, List.getElem_cons_succ, List.getElem_cons_zero, Act.put, List.setIfInBounds_toArray, List.set_cons_zero, List.set_cons_succ]
                refine wpAnyH_ready (rs := [3, 5]) (by kernel_rfl) (by simp) ?_
                refine (AllReadyH.cons rfl (fun K hK => ?_) (AllReadyH.cons rfl (fun K hK => ?_) AllReadyH.nil))
                · refine step_append_lies _ (by rfl) (.tmp 36) (.tmp 38) 26 (by rfl) 0 60 i0 _ 5 40 Tryd.underlying26 hi0 hz0 hz1 hz2 rfl (by omega) (.slice (some ⟨E, 0, none⟩) 0 0) 0 [] (by rfl) (ownsRow_empty hE) ⟨g, 0, none⟩ L.length cap (cells L) (by rfl) (cells_length L) (HR3.out.keep (hB.block g hg2)).news (cells_oneCell L) hpos (by simp [maxLen]; omega) (by omega) (Nat.zero_le _) _ rfl ?_
                  intro g1 cap1 X2 hown1 hgr1 hat1 hlt1
                  have hB' : Below w2.heap.size w2 X2 := hB.grown hgr1 hB.size (fun k hk => by simp [Value.ownBlock] at hk; omega)
                  have hg1 : w2.heap.size ≤ g1 := by
                    have h0 := hB.size
                    rcases hat1 with h | h
                    · simp [Value.ownBlock] at h; omega
                    · rw [h]; exact h0
                  have hown1 : X2.ownsRow 0 60 5 (.slice (some ⟨g1, 0, none⟩) L.length cap1) L.length (cells L) := by simpa using hown1
                  simp only [Nat.zero_add]
                  clear hgr1 hat1 hE hElt hE0 hB
                  refine hK.out _ _ (grow_of hB') (fun hHeld => ?_)
                  clear hK K hHeld
                  try simp only [List.getElem_toArray, List.getElem_cons_succ, List.getElem_cons_zero, Act.put, List.setIfInBounds_toArray, List.set_cons_zero, List.set_cons_succ]
                  have hB := hB'
                  clear hB'
                  refine wpAnyH_ready (rs := [5]) (by kernel_rfl) (by simp) ?_
                  refine (AllReadyH.cons rfl (fun K hK => ?_) AllReadyH.nil)
                  · go_simp
                    refine hK.out _ _ (grow_of (hB.alloc hB.size _)) (fun hHeld => ?_)
                    clear hK K hHeld
                    try simp only [List.getElem_toArray, List.getElem_cons_succ, List.getElem_cons_zero, Act.put, List.setIfInBounds_toArray, List.set_cons_zero, List.set_cons_succ]
                    have hB' := hB.alloc hB.size (.cells #[.int .i64 k, .int .u64 n, .int .i64 a, .int .i64 b, .int .i64 c] 60)
                    have hN := heap_alloc_new X2 (.cells #[.int .i64 k, .int .u64 n, .int .i64 a, .int .i64 b, .int .i64 c] 60)
                    have hown1' := hown1.alloc (.cells #[.int .i64 k, .int .u64 n, .int .i64 a, .int .i64 b, .int .i64 c] 60)
                    have hlt1' : g1 < (X2.alloc (.cells #[.int .i64 k, .int .u64 n, .int .i64 a, .int .i64 b, .int .i64 c] 60)).heap.size := by simp; omega
                    obtain ⟨Nb, hNbe⟩ : ∃ v, v = X2.heap.size := ⟨_, rfl⟩
                    rw [← hNbe] at hN ⊢
                    have hNb0 : w2.heap.size ≤ Nb := by rw [hNbe]; exact hB.size
                    have hNlt : Nb < (X2.alloc (.cells #[.int .i64 k, .int .u64 n, .int .i64 a, .int .i64 b, .int .i64 c] 60)).heap.size := by rw [hNbe]; simp
                    have hne1 : Nb ≠ g1 := by omega
                    clear hNbe hB
                    clear hown1 hlt1
                    generalize X2.alloc (.cells #[.int .i64 k, .int .u64 n, .int .i64 a, .int .i64 b, .int .i64 c] 60) = X3 at *
                    have hB := hB'
                    clear hB'
                    have hown1 := hown1'
                    clear hown1'
                    have hlt1 := hlt1'
                    clear hlt1'
                    refine wpAnyH_ready (rs := [6]) (by kernel_rfl) (by simp) ?_
                    refine AllReadyH.cons rfl (fun K hK => ?_) AllReadyH.nil
                    refine step_append_lies _ (by rfl) (.tmp 39) (.tmp 41) 26 (by rfl) 0 60 i0 _ 5 40 Tryd.underlying26 hi0 hz0 hz1 hz2 rfl (by omega) (.slice (some ⟨g1, 0, none⟩) L.length cap1) L.length (cells L) (by rfl) hown1 ⟨Nb, 0, none⟩ 1 1 (vals ⟨k, n, a, b, c⟩) (by rfl) (by rfl) (World.news_of_block (cs := #[.int .i64 k, .int .u64 n, .int .i64 a, .int .i64 b, .int .i64 c]) (t := 60) (fr := (0, 0)) hN) (by simp [vals, Value.oneCell']) (by omega) (by simp [maxLen]; omega) (by omega) (Nat.zero_le _) _ rfl ?_
                    intro g2 cap2 w4 hown2 hgr2 hat2 hlt2
                    have hb4 : Below w2.heap.size w2 w4 := hB.grown hgr2 hB.size (fun k hk => by simp [Value.ownBlock] at hk; omega)
                    have hg2' : w2.heap.size ≤ g2 := by
                      have h0 := hB.size
                      rcases hat2 with h | h
                      · simp [Value.ownBlock] at h; omega
                      · rw [h]; exact h0
                    have hrow2 : rowAt w4 g2 (L ++ [⟨k, n, a, b, c⟩]) := ownsRow_row (by rw [cells_append, cells_one]; exact hown2)
                    refine hK.out _ _ (grow_of hb4) (fun hHeld => ?_)
                    clear hK K hHeld
                    try simp only [List.getElem_toArray, List.getElem_cons_succ, List.getElem_cons_zero, Act.put, List.setIfInBounds_toArray, List.set_cons_zero, List.set_cons_succ]
                    refine wpAnyH_take (i := 7) (v := ?_) rfl (by kernel_rfl) (by kernel_rfl) (by kernel_rfl) (fun _ _ _ h => h) (Or.inl ⟨by rfl, ?_⟩) (grow_of hb4) ?_
                    rotate_left
                    · (intro W hSw; go_simp; try with_reducible rfl)
                    try simp only [List.getElem_toArray, List.getElem_cons_succ, List.getElem_cons_zero, Act.put, List.setIfInBounds_toArray, List.set_cons_zero, List.set_cons_succ]
                    refine wpAnyH_ready (rs := [8]) (by kernel_rfl) (by simp) ?_
                    refine AllReadyH.cons rfl (fun K hK => ?_) AllReadyH.nil
                    have e1 := (bcell hb4 w.heap.size 1 l0).trans c1
                    have e2 := (bfroz hb4 w.heap.size 1 l0).trans f2
                    go_simp
                    refine hK.out _ _ (grow_set hb4 l0 _) (fun hHeld => ?_)
                    clear hK K hHeld e1 e2
                    try simp only [List.getElem_toArray, List.getElem_cons_succ, List.getElem_cons_zero, Act.put, List.setIfInBounds_toArray, List.set_cons_zero, List.set_cons_succ]
                    refine wpAnyH_done (by kernel_rfl) ?_ _
                    refine NoPanic.normal ?_
                    go_wp2_with fail
                    go_meet
                    case rel => exact tail_rel (c := 1) hrow2 hlt2 hg2' hb4 HB3.out l0 l2 c0 c1
                · go_simp
                  refine hK.out _ _ (grow_of (hB.alloc hB.size _)) (fun hHeld => ?_)
                  clear hK K hHeld
                  try simp only [List.getElem_toArray, List.getElem_cons_succ, List.getElem_cons_zero, Act.put, List.setIfInBounds_toArray, List.set_cons_zero, List.set_cons_succ]
                  have hB' := hB.alloc hB.size (.cells #[.int .i64 k, .int .u64 n, .int .i64 a, .int .i64 b, .int .i64 c] 60)
                  have hN := heap_alloc_new X1 (.cells #[.int .i64 k, .int .u64 n, .int .i64 a, .int .i64 b, .int .i64 c] 60)
                  have hE' := (Below.heap_alloc X1 (.cells #[.int .i64 k, .int .u64 n, .int .i64 a, .int .i64 b, .int .i64 c] 60) E hElt).trans hE
                  have hElt' : E < (X1.alloc (.cells #[.int .i64 k, .int .u64 n, .int .i64 a, .int .i64 b, .int .i64 c] 60)).heap.size := by simp; omega
                  obtain ⟨Nb, hNbe⟩ : ∃ v, v = X1.heap.size := ⟨_, rfl⟩
                  rw [← hNbe] at hN ⊢
                  have hNb0 : w2.heap.size ≤ Nb := by rw [hNbe]; exact hB.size
                  have hNlt : Nb < (X1.alloc (.cells #[.int .i64 k, .int .u64 n, .int .i64 a, .int .i64 b, .int .i64 c] 60)).heap.size := by rw [hNbe]; simp
                  have hne : Nb ≠ E := by omega
                  clear hNbe hB
                  clear hE hElt
                  generalize X1.alloc (.cells #[.int .i64 k, .int .u64 n, .int .i64 a, .int .i64 b, .int .i64 c] 60) = X4 at *
                  have hB := hB'
                  clear hB'
                  have hE := hE'
                  clear hE'
                  have hElt := hElt'
                  clear hElt'
                  refine wpAnyH_ready (rs := [3]) (by kernel_rfl) (by simp) ?_
                  refine (AllReadyH.cons rfl (fun K hK => ?_) AllReadyH.nil)
                  · refine step_append_lies _ (by rfl) (.tmp 36) (.tmp 38) 26 (by rfl) 0 60 i0 _ 5 40 Tryd.underlying26 hi0 hz0 hz1 hz2 rfl (by omega) (.slice (some ⟨E, 0, none⟩) 0 0) 0 [] (by rfl) (ownsRow_empty hE) ⟨g, 0, none⟩ L.length cap (cells L) (by rfl) (cells_length L) (HR3.out.keep (hB.block g hg2)).news (cells_oneCell L) hpos (by simp [maxLen]; omega) (by omega) (Nat.zero_le _) _ rfl ?_
                    intro g1 cap1 X5 hown1 hgr1 hat1 hlt1
                    have hB' : Below w2.heap.size w2 X5 := hB.grown hgr1 hB.size (fun k hk => by simp [Value.ownBlock] at hk; omega)
                    have hg1 : w2.heap.size ≤ g1 := by
                      have h0 := hB.size
                      rcases hat1 with h | h
                      · simp [Value.ownBlock] at h; omega
                      · rw [h]; exact h0
                    have hown1 : X5.ownsRow 0 60 5 (.slice (some ⟨g1, 0, none⟩) L.length cap1) L.length (cells L) := by simpa using hown1
                    simp only [Nat.zero_add]
                    have hN' : X5.heap[Nb]? = some (.cells #[.int .i64 k, .int .u64 n, .int .i64 a, .int .i64 b, .int .i64 c] 60) := by rw [hgr1.block Nb hNlt (by simp [Value.ownBlock]; exact hne)]; exact hN
                    have hne1 : Nb ≠ g1 := by
                      rcases hat1 with h | h
                      · simp [Value.ownBlock] at h; omega
                      · omega
                    clear hN hNlt hne
                    have hN := hN'
                    clear hN'
                    clear hgr1 hat1 hE hElt hE0 hB
                    refine hK.out _ _ (grow_of hB') (fun hHeld => ?_)
                    clear hK K hHeld
                    try simp only [List.getElem_toArray, List.getElem_cons_succ, List.getElem_cons_zero, Act.put, List.setIfInBounds_toArray, List.set_cons_zero, List.set_cons_succ]
                    have hB := hB'
                    clear hB'
                    refine wpAnyH_ready (rs := [6]) (by kernel_rfl) (by simp) ?_
                    refine AllReadyH.cons rfl (fun K hK => ?_) AllReadyH.nil
                    refine step_append_lies _ (by rfl) (.tmp 39) (.tmp 41) 26 (by rfl) 0 60 i0 _ 5 40 Tryd.underlying26 hi0 hz0 hz1 hz2 rfl (by omega) (.slice (some ⟨g1, 0, none⟩) L.length cap1) L.length (cells L) (by rfl) hown1 ⟨Nb, 0, none⟩ 1 1 (vals ⟨k, n, a, b, c⟩) (by rfl) (by rfl) (World.news_of_block (cs := #[.int .i64 k, .int .u64 n, .int .i64 a, .int .i64 b, .int .i64 c]) (t := 60) (fr := (0, 0)) hN) (by simp [vals, Value.oneCell']) (by omega) (by simp [maxLen]; omega) (by omega) (Nat.zero_le _) _ rfl ?_
                    intro g2 cap2 w4 hown2 hgr2 hat2 hlt2
                    have hb4 : Below w2.heap.size w2 w4 := hB.grown hgr2 hB.size (fun k hk => by simp [Value.ownBlock] at hk; omega)
                    have hg2' : w2.heap.size ≤ g2 := by
                      have h0 := hB.size
                      rcases hat2 with h | h
                      · simp [Value.ownBlock] at h; omega
                      · rw [h]; exact h0
                    have hrow2 : rowAt w4 g2 (L ++ [⟨k, n, a, b, c⟩]) := ownsRow_row (by rw [cells_append, cells_one]; exact hown2)
                    refine hK.out _ _ (grow_of hb4) (fun hHeld => ?_)
                    clear hK K hHeld
                    try simp only [List.getElem_toArray, List.getElem_cons_succ, List.getElem_cons_zero, Act.put, List.setIfInBounds_toArray, List.set_cons_zero, List.set_cons_succ]
                    refine wpAnyH_take (i := 7) (v := ?_) rfl (by kernel_rfl) (by kernel_rfl) (by kernel_rfl) (fun _ _ _ h => h) (Or.inl ⟨by rfl, ?_⟩) (grow_of hb4) ?_
                    rotate_left
                    · (intro W hSw; go_simp; try with_reducible rfl)
                    try simp only [List.getElem_toArray, List.getElem_cons_succ, List.getElem_cons_zero, Act.put, List.setIfInBounds_toArray, List.set_cons_zero, List.set_cons_succ]
                    refine wpAnyH_ready (rs := [8]) (by kernel_rfl) (by simp) ?_
                    refine AllReadyH.cons rfl (fun K hK => ?_) AllReadyH.nil
                    have e1 := (bcell hb4 w.heap.size 1 l0).trans c1
                    have e2 := (bfroz hb4 w.heap.size 1 l0).trans f2
                    go_simp
                    refine hK.out _ _ (grow_set hb4 l0 _) (fun hHeld => ?_)
                    clear hK K hHeld e1 e2
                    try simp only [List.getElem_toArray, List.getElem_cons_succ, List.getElem_cons_zero, Act.put, List.setIfInBounds_toArray, List.set_cons_zero, List.set_cons_succ]
                    refine wpAnyH_done (by kernel_rfl) ?_ _
                    refine NoPanic.normal ?_
                    go_wp2_with fail
                    go_meet
                    case rel => exact tail_rel (c := 1) hrow2 hlt2 hg2' hb4 HB3.out l0 l2 c0 c1
              · go_simp
                refine hK.out _ _ (grow_of (hB.alloc hB.size _)) (fun hHeld => ?_)
                clear hK K hHeld
                try simp only [List.getElem_toArray, List.getElem_cons_succ, List.getElem_cons_zero, Act.put, List.setIfInBounds_toArray, List.set_cons_zero, List.set_cons_succ]
                have hB' := hB.alloc hB.size (.cells #[.int .i64 k, .int .u64 n, .int .i64 a, .int .i64 b, .int .i64 c] 60)
                have hN := heap_alloc_new X1 (.cells #[.int .i64 k, .int .u64 n, .int .i64 a, .int .i64 b, .int .i64 c] 60)
                have hE' := (Below.heap_alloc X1 (.cells #[.int .i64 k, .int .u64 n, .int .i64 a, .int .i64 b, .int .i64 c] 60) E hElt).trans hE
                have hElt' : E < (X1.alloc (.cells #[.int .i64 k, .int .u64 n, .int .i64 a, .int .i64 b, .int .i64 c] 60)).heap.size := by simp; omega
                obtain ⟨Nb, hNbe⟩ : ∃ v, v = X1.heap.size := ⟨_, rfl⟩
                rw [← hNbe] at hN ⊢
                have hNb0 : w2.heap.size ≤ Nb := by rw [hNbe]; exact hB.size
                have hNlt : Nb < (X1.alloc (.cells #[.int .i64 k, .int .u64 n, .int .i64 a, .int .i64 b, .int .i64 c] 60)).heap.size := by rw [hNbe]; simp
                have hne : Nb ≠ E := by omega
                clear hNbe hB
                clear hE hElt
                generalize X1.alloc (.cells #[.int .i64 k, .int .u64 n, .int .i64 a, .int .i64 b, .int .i64 c] 60) = X6 at *
                have hB := hB'
                clear hB'
                have hE := hE'
                clear hE'
                have hElt := hElt'
                clear hElt'
                refine wpAnyH_ready (rs := [2]) (by kernel_rfl) (by simp) ?_
                refine (AllReadyH.cons rfl (fun K hK => ?_) AllReadyH.nil)
                · have e1 := (bcell hB w.heap.size 1 l0).trans c1
                  go_simp
                  refine hK.out _ _ (grow_of hB) (fun hHeld => ?_)
                  clear hK K hHeld e1
                  try simp only [List.getElem_toArray, List.getElem_cons_succ, List.getElem_cons_zero, Act.put, List.setIfInBounds_toArray, List.set_cons_zero, List.set_cons_succ]
                  refine wpAnyH_ready (rs := [3]) (by kernel_rfl) (by simp) ?_
                  refine (AllReadyH.cons rfl (fun K hK => ?_) AllReadyH.nil)
                  · refine step_append_lies _ (by rfl) (.tmp 36) (.tmp 38) 26 (by rfl) 0 60 i0 _ 5 40 Tryd.underlying26 hi0 hz0 hz1 hz2 rfl (by omega) (.slice (some ⟨E, 0, none⟩) 0 0) 0 [] (by rfl) (ownsRow_empty hE) ⟨g, 0, none⟩ L.length cap (cells L) (by rfl) (cells_length L) (HR3.out.keep (hB.block g hg2)).news (cells_oneCell L) hpos (by simp [maxLen]; omega) (by omega) (Nat.zero_le _) _ rfl ?_
                    intro g1 cap1 X7 hown1 hgr1 hat1 hlt1
                    have hB' : Below w2.heap.size w2 X7 := hB.grown hgr1 hB.size (fun k hk => by simp [Value.ownBlock] at hk; omega)
                    have hg1 : w2.heap.size ≤ g1 := by
                      have h0 := hB.size
                      rcases hat1 with h | h
                      · simp [Value.ownBlock] at h; omega
                      · rw [h]; exact h0
                    have hown1 : X7.ownsRow 0 60 5 (.slice (some ⟨g1, 0, none⟩) L.length cap1) L.length (cells L) := by simpa using hown1
                    simp only [Nat.zero_add]
                    have hN' : X7.heap[Nb]? = some (.cells #[.int .i64 k, .int .u64 n, .int .i64 a, .int .i64 b, .int .i64 c] 60) := by rw [hgr1.block Nb hNlt (by simp [Value.ownBlock]; exact hne)]; exact hN
                    have hne1 : Nb ≠ g1 := by
                      rcases hat1 with h | h
                      · simp [Value.ownBlock] at h; omega
                      · omega
                    clear hN hNlt hne
                    have hN := hN'
                    clear hN'
                    clear hgr1 hat1 hE hElt hE0 hB
                    refine hK.out _ _ (grow_of hB') (fun hHeld => ?_)
                    clear hK K hHeld
                    try simp only [List.getElem_toArray, List.getElem_cons_succ, List.getElem_cons_zero, Act.put, List.setIfInBounds_toArray, List.set_cons_zero, List.set_cons_succ]
                    have hB := hB'
                    clear hB'
                    refine wpAnyH_ready (rs := [6]) (by kernel_rfl) (by simp) ?_
                    refine AllReadyH.cons rfl (fun K hK => ?_) AllReadyH.nil
                    refine step_append_lies _ (by rfl) (.tmp 39) (.tmp 41) 26 (by rfl) 0 60 i0 _ 5 40 Tryd.underlying26 hi0 hz0 hz1 hz2 rfl (by omega) (.slice (some ⟨g1, 0, none⟩) L.length cap1) L.length (cells L) (by rfl) hown1 ⟨Nb, 0, none⟩ 1 1 (vals ⟨k, n, a, b, c⟩) (by rfl) (by rfl) (World.news_of_block (cs := #[.int .i64 k, .int .u64 n, .int .i64 a, .int .i64 b, .int .i64 c]) (t := 60) (fr := (0, 0)) hN) (by simp [vals, Value.oneCell']) (by omega) (by simp [maxLen]; omega) (by omega) (Nat.zero_le _) _ rfl ?_
                    intro g2 cap2 w4 hown2 hgr2 hat2 hlt2
                    have hb4 : Below w2.heap.size w2 w4 := hB.grown hgr2 hB.size (fun k hk => by simp [Value.ownBlock] at hk; omega)
                    have hg2' : w2.heap.size ≤ g2 := by
                      have h0 := hB.size
                      rcases hat2 with h | h
                      · simp [Value.ownBlock] at h; omega
                      · rw [h]; exact h0
                    have hrow2 : rowAt w4 g2 (L ++ [⟨k, n, a, b, c⟩]) := ownsRow_row (by rw [cells_append, cells_one]; exact hown2)
                    refine hK.out _ _ (grow_of hb4) (fun hHeld => ?_)
                    clear hK K hHeld
                    try simp only [List.getElem_toArray, List.getElem_cons_succ, List.getElem_cons_zero, Act.put, List.setIfInBounds_toArray, List.set_cons_zero, List.set_cons_succ]
                    refine wpAnyH_take (i := 7) (v := ?_) rfl (by kernel_rfl) (by kernel_rfl) (by kernel_rfl) (fun _ _ _ h => h) (Or.inl ⟨by rfl, ?_⟩) (grow_of hb4) ?_
                    rotate_left
                    · (intro W hSw; go_simp; try with_reducible rfl)
                    try simp only [List.getElem_toArray, List.getElem_cons_succ, List.getElem_cons_zero, Act.put, List.setIfInBounds_toArray, List.set_cons_zero, List.set_cons_succ]
                    refine wpAnyH_ready (rs := [8]) (by kernel_rfl) (by simp) ?_
                    refine AllReadyH.cons rfl (fun K hK => ?_) AllReadyH.nil
                    have e1 := (bcell hb4 w.heap.size 1 l0).trans c1
                    have e2 := (bfroz hb4 w.heap.size 1 l0).trans f2
                    go_simp
                    refine hK.out _ _ (grow_set hb4 l0 _) (fun hHeld => ?_)
                    clear hK K hHeld e1 e2
                    try simp only [List.getElem_toArray, List.getElem_cons_succ, List.getElem_cons_zero, Act.put, List.setIfInBounds_toArray, List.set_cons_zero, List.set_cons_succ]
                    refine wpAnyH_done (by kernel_rfl) ?_ _
                    refine NoPanic.normal ?_
                    go_wp2_with fail
                    go_meet
                    case rel => exact tail_rel (c := 1) hrow2 hlt2 hg2' hb4 HB3.out l0 l2 c0 c1
            · have e1 := (bcell hB w.heap.size 1 l0).trans c1
              go_simp
              refine hK.out _ _ (grow_of hB) (fun hHeld => ?_)
              clear hK K hHeld e1
              try simp only [List.getElem_toArray, List.getElem_cons_succ, List.getElem_cons_zero, Act.put, List.setIfInBounds_toArray, List.set_cons_zero, List.set_cons_succ]
              refine wpAnyH_ready (rs := [0, 5]) (by kernel_rfl) (by simp) ?_
              refine (AllReadyH.cons rfl (fun K hK => ?_) (AllReadyH.cons rfl (fun K hK => ?_) AllReadyH.nil))
              · go_simp
                refine hK.out _ _ (grow_of (hB.alloc hB.size _)) (fun hHeld => ?_)
                clear hK K hHeld
                try simp only [List.getElem_toArray, List.getElem_cons_succ, List.getElem_cons_zero, Act.put, List.setIfInBounds_toArray, List.set_cons_zero, List.set_cons_succ]
                have hB' := hB.alloc hB.size (.cells #[] 60)
                have hE := heap_alloc_new X0 (.cells #[] 60)
                obtain ⟨E, hEe⟩ : ∃ v, v = X0.heap.size := ⟨_, rfl⟩
                rw [← hEe] at hE ⊢
                have hE0 : w2.heap.size ≤ E := by rw [hEe]; exact hB.size
                have hElt : E < (X0.alloc (.cells #[] 60)).heap.size := by rw [hEe]; simp
                clear hEe hB
                generalize X0.alloc (.cells #[] 60) = X8 at *
                have hB := hB'
                clear hB'
                refine wpAnyH_ready (rs := [3, 5]) (by kernel_rfl) (by simp) ?_
                refine (AllReadyH.cons rfl (fun K hK => ?_) (AllReadyH.cons rfl (fun K hK => ?_) AllReadyH.nil))
                · refine step_append_lies _ (by rfl) (.tmp 36) (.tmp 38) 26 (by rfl) 0 60 i0 _ 5 40 Tryd.underlying26 hi0 hz0 hz1 hz2 rfl (by omega) (.slice (some ⟨E, 0, none⟩) 0 0) 0 [] (by rfl) (ownsRow_empty hE) ⟨g, 0, none⟩ L.length cap (cells L) (by rfl) (cells_length L) (HR3.out.keep (hB.block g hg2)).news (cells_oneCell L) hpos (by simp [maxLen]; omega) (by omega) (Nat.zero_le _) _ rfl ?_
                  intro g1 cap1 X9 hown1 hgr1 hat1 hlt1
                  have hB' : Below w2.heap.size w2 X9 := hB.grown hgr1 hB.size (fun k hk => by simp [Value.ownBlock] at hk; omega)
                  have hg1 : w2.heap.size ≤ g1 := by
                    have h0 := hB.size
                    rcases hat1 with h | h
                    · simp [Value.ownBlock] at h; omega
                    · rw [h]; exact h0
                  have hown1 : X9.ownsRow 0 60 5 (.slice (some ⟨g1, 0, none⟩) L.length cap1) L.length (cells L) := by simpa using hown1
                  simp only [Nat.zero_add]
                  clear hgr1 hat1 hE hElt hE0 hB
                  refine hK.out _ _ (grow_of hB') (fun hHeld => ?_)
                  clear hK K hHeld
                  try simp only [List.getElem_toArray, List.getElem_cons_succ, List.getElem_cons_zero, Act.put, List.setIfInBounds_toArray, List.set_cons_zero, List.set_cons_succ]
                  have hB := hB'
                  clear hB'
                  refine wpAnyH_ready (rs := [5]) (by kernel_rfl) (by simp) ?_
                  refine (AllReadyH.cons rfl (fun K hK => ?_) AllReadyH.nil)
                  · go_simp
                    refine hK.out _ _ (grow_of (hB.alloc hB.size _)) (fun hHeld => ?_)
                    clear hK K hHeld
                    try simp only [List.getElem_toArray, List.getElem_cons_succ, List.getElem_cons_zero, Act.put, List.setIfInBounds_toArray, List.set_cons_zero, List.set_cons_succ]
                    have hB' := hB.alloc hB.size (.cells #[.int .i64 k, .int .u64 n, .int .i64 a, .int .i64 b, .int .i64 c] 60)
                    have hN := heap_alloc_new X9 (.cells #[.int .i64 k, .int .u64 n, .int .i64 a, .int .i64 b, .int .i64 c] 60)
                    have hown1' := hown1.alloc (.cells #[.int .i64 k, .int .u64 n, .int .i64 a, .int .i64 b, .int .i64 c] 60)
                    have hlt1' : g1 < (X9.alloc (.cells #[.int .i64 k, .int .u64 n, .int .i64 a, .int .i64 b, .int .i64 c] 60)).heap.size := by simp; omega
                    obtain ⟨Nb, hNbe⟩ : ∃ v, v = X9.heap.size := ⟨_, rfl⟩
                    rw [← hNbe] at hN ⊢
                    have hNb0 : w2.heap.size ≤ Nb := by rw [hNbe]; exact hB.size
                    have hNlt : Nb < (X9.alloc (.cells #[.int .i64 k, .int .u64 n, .int .i64 a, .int .i64 b, .int .i64 c] 60)).heap.size := by rw [hNbe]; simp
                    have hne1 : Nb ≠ g1 := by omega
                    clear hNbe hB
                    clear hown1 hlt1
                    generalize X9.alloc (.cells #[.int .i64 k, .int .u64 n, .int .i64 a, .int .i64 b, .int .i64 c] 60) = X10 at *
                    have hB := hB'
                    clear hB'
                    have hown1 := hown1'
                    clear hown1'
                    have hlt1 := hlt1'
                    clear hlt1'
                    refine wpAnyH_ready (rs := [6]) (by kernel_rfl) (by simp) ?_
                    refine AllReadyH.cons rfl (fun K hK => ?_) AllReadyH.nil
                    refine step_append_lies _ (by rfl) (.tmp 39) (.tmp 41) 26 (by rfl) 0 60 i0 _ 5 40 Tryd.underlying26 hi0 hz0 hz1 hz2 rfl (by omega) (.slice (some ⟨g1, 0, none⟩) L.length cap1) L.length (cells L) (by rfl) hown1 ⟨Nb, 0, none⟩ 1 1 (vals ⟨k, n, a, b, c⟩) (by rfl) (by rfl) (World.news_of_block (cs := #[.int .i64 k, .int .u64 n, .int .i64 a, .int .i64 b, .int .i64 c]) (t := 60) (fr := (0, 0)) hN) (by simp [vals, Value.oneCell']) (by omega) (by simp [maxLen]; omega) (by omega) (Nat.zero_le _) _ rfl ?_
                    intro g2 cap2 w4 hown2 hgr2 hat2 hlt2
                    have hb4 : Below w2.heap.size w2 w4 := hB.grown hgr2 hB.size (fun k hk => by simp [Value.ownBlock] at hk; omega)
                    have hg2' : w2.heap.size ≤ g2 := by
                      have h0 := hB.size
                      rcases hat2 with h | h
                      · simp [Value.ownBlock] at h; omega
                      · rw [h]; exact h0
                    have hrow2 : rowAt w4 g2 (L ++ [⟨k, n, a, b, c⟩]) := ownsRow_row (by rw [cells_append, cells_one]; exact hown2)
                    refine hK.out _ _ (grow_of hb4) (fun hHeld => ?_)
                    clear hK K hHeld
                    try simp only [List.getElem_toArray, List.getElem_cons_succ, List.getElem_cons_zero, Act.put, List.setIfInBounds_toArray, List.set_cons_zero, List.set_cons_succ]
                    refine wpAnyH_take (i := 7) (v := ?_) rfl (by kernel_rfl) (by kernel_rfl) (by kernel_rfl) (fun _ _ _ h => h) (Or.inl ⟨by rfl, ?_⟩) (grow_of hb4) ?_
                    rotate_left
                    · (intro W hSw; go_simp; try with_reducible rfl)
                    try simp only [List.getElem_toArray, List.getElem_cons_succ, List.getElem_cons_zero, Act.put, List.setIfInBounds_toArray, List.set_cons_zero, List.set_cons_succ]
                    refine wpAnyH_ready (rs := [8]) (by kernel_rfl) (by simp) ?_
                    refine AllReadyH.cons rfl (fun K hK => ?_) AllReadyH.nil
                    have e1 := (bcell hb4 w.heap.size 1 l0).trans c1
                    have e2 := (bfroz hb4 w.heap.size 1 l0).trans f2
                    go_simp
                    refine hK.out _ _ (grow_set hb4 l0 _) (fun hHeld => ?_)
                    clear hK K hHeld e1 e2
                    try simp only [List.getElem_toArray, List.getElem_cons_succ, List.getElem_cons_zero, Act.put, List.setIfInBounds_toArray, List.set_cons_zero, List.set_cons_succ]
                    refine wpAnyH_done (by kernel_rfl) ?_ _
                    refine NoPanic.normal ?_
                    go_wp2_with fail
                    go_meet
                    case rel => exact tail_rel (c := 1) hrow2 hlt2 hg2' hb4 HB3.out l0 l2 c0 c1
                · go_simp
                  refine hK.out _ _ (grow_of (hB.alloc hB.size _)) (fun hHeld => ?_)
                  clear hK K hHeld
                  try simp only [List.getElem_toArray, List.getElem_cons_succ, List.getElem_cons_zero, Act.put, List.setIfInBounds_toArray, List.set_cons_zero, List.set_cons_succ]
                  have hB' := hB.alloc hB.size (.cells #[.int .i64 k, .int .u64 n, .int .i64 a, .int .i64 b, .int .i64 c] 60)
                  have hN := heap_alloc_new X8 (.cells #[.int .i64 k, .int .u64 n, .int .i64 a, .int .i64 b, .int .i64 c] 60)
                  have hE' := (Below.heap_alloc X8 (.cells #[.int .i64 k, .int .u64 n, .int .i64 a, .int .i64 b, .int .i64 c] 60) E hElt).trans hE
                  have hElt' : E < (X8.alloc (.cells #[.int .i64 k, .int .u64 n, .int .i64 a, .int .i64 b, .int .i64 c] 60)).heap.size := by simp; omega
                  obtain ⟨Nb, hNbe⟩ : ∃ v, v = X8.heap.size := ⟨_, rfl⟩
                  rw [← hNbe] at hN ⊢
                  have hNb0 : w2.heap.size ≤ Nb := by rw [hNbe]; exact hB.size
                  have hNlt : Nb < (X8.alloc (.cells #[.int .i64 k, .int .u64 n, .int .i64 a, .int .i64 b, .int .i64 c] 60)).heap.size := by rw [hNbe]; simp
                  have hne : Nb ≠ E := by omega
                  clear hNbe hB
                  clear hE hElt
                  generalize X8.alloc (.cells #[.int .i64 k, .int .u64 n, .int .i64 a, .int .i64 b, .int .i64 c] 60) = X11 at *
                  have hB := hB'
                  clear hB'
                  have hE := hE'
                  clear hE'
                  have hElt := hElt'
                  clear hElt'
                  refine wpAnyH_ready (rs := [3]) (by kernel_rfl) (by simp) ?_
                  refine (AllReadyH.cons rfl (fun K hK => ?_) AllReadyH.nil)
                  · refine step_append_lies _ (by rfl) (.tmp 36) (.tmp 38) 26 (by rfl) 0 60 i0 _ 5 40 Tryd.underlying26 hi0 hz0 hz1 hz2 rfl (by omega) (.slice (some ⟨E, 0, none⟩) 0 0) 0 [] (by rfl) (ownsRow_empty hE) ⟨g, 0, none⟩ L.length cap (cells L) (by rfl) (cells_length L) (HR3.out.keep (hB.block g hg2)).news (cells_oneCell L) hpos (by simp [maxLen]; omega) (by omega) (Nat.zero_le _) _ rfl ?_
                    intro g1 cap1 X12 hown1 hgr1 hat1 hlt1
                    have hB' : Below w2.heap.size w2 X12 := hB.grown hgr1 hB.size (fun k hk => by simp [Value.ownBlock] at hk; omega)
                    have hg1 : w2.heap.size ≤ g1 := by
                      have h0 := hB.size
                      rcases hat1 with h | h
                      · simp [Value.ownBlock] at h; omega
                      · rw [h]; exact h0
                    have hown1 : X12.ownsRow 0 60 5 (.slice (some ⟨g1, 0, none⟩) L.length cap1) L.length (cells L) := by simpa using hown1
                    simp only [Nat.zero_add]
                    have hN' : X12.heap[Nb]? = some (.cells #[.int .i64 k, .int .u64 n, .int .i64 a, .int .i64 b, .int .i64 c] 60) := by rw [hgr1.block Nb hNlt (by simp [Value.ownBlock]; exact hne)]; exact hN
                    have hne1 : Nb ≠ g1 := by
                      rcases hat1 with h | h
                      · simp [Value.ownBlock] at h; omega
                      · omega
                    clear hN hNlt hne
                    have hN := hN'
                    clear hN'
                    clear hgr1 hat1 hE hElt hE0 hB
                    refine hK.out _ _ (grow_of hB') (fun hHeld => ?_)
                    clear hK K hHeld
                    try simp only [List.getElem_toArray, List.getElem_cons_succ, List.getElem_cons_zero, Act.put, List.setIfInBounds_toArray, List.set_cons_zero, List.set_cons_succ]
                    have hB := hB'
                    clear hB'
                    refine wpAnyH_ready (rs := [6]) (by kernel_rfl) (by simp) ?_
                    refine AllReadyH.cons rfl (fun K hK => ?_) AllReadyH.nil
                    refine step_append_lies _ (by rfl) (.tmp 39) (.tmp 41) 26 (by rfl) 0 60 i0 _ 5 40 Tryd.underlying26 hi0 hz0 hz1 hz2 rfl (by omega) (.slice (some ⟨g1, 0, none⟩) L.length cap1) L.length (cells L) (by rfl) hown1 ⟨Nb, 0, none⟩ 1 1 (vals ⟨k, n, a, b, c⟩) (by rfl) (by rfl) (World.news_of_block (cs := #[.int .i64 k, .int .u64 n, .int .i64 a, .int .i64 b, .int .i64 c]) (t := 60) (fr := (0, 0)) hN) (by simp [vals, Value.oneCell']) (by omega) (by simp [maxLen]; omega) (by omega) (Nat.zero_le _) _ rfl ?_
                    intro g2 cap2 w4 hown2 hgr2 hat2 hlt2
                    have hb4 : Below w2.heap.size w2 w4 := hB.grown hgr2 hB.size (fun k hk => by simp [Value.ownBlock] at hk; omega)
                    have hg2' : w2.heap.size ≤ g2 := by
                      have h0 := hB.size
                      rcases hat2 with h | h
                      · simp [Value.ownBlock] at h; omega
                      · rw [h]; exact h0
                    have hrow2 : rowAt w4 g2 (L ++ [⟨k, n, a, b, c⟩]) := ownsRow_row (by rw [cells_append, cells_one]; exact hown2)
                    refine hK.out _ _ (grow_of hb4) (fun hHeld => ?_)
                    clear hK K hHeld
                    try simp only [List.getElem_toArray, List.getElem_cons_succ, List.getElem_cons_zero, Act.put, List.setIfInBounds_toArray, List.set_cons_zero, List.set_cons_succ]
                    refine wpAnyH_take (i := 7) (v := ?_) rfl (by kernel_rfl) (by kernel_rfl) (by kernel_rfl) (fun _ _ _ h => h) (Or.inl ⟨by rfl, ?_⟩) (grow_of hb4) ?_
                    rotate_left
                    · (intro W hSw; go_simp; try with_reducible rfl)
                    try simp only [List.getElem_toArray, List.getElem_cons_succ, List.getElem_cons_zero, Act.put, List.setIfInBounds_toArray, List.set_cons_zero, List.set_cons_succ]
                    refine wpAnyH_ready (rs := [8]) (by kernel_rfl) (by simp) ?_
                    refine AllReadyH.cons rfl (fun K hK => ?_) AllReadyH.nil
                    have e1 := (bcell hb4 w.heap.size 1 l0).trans c1
                    have e2 := (bfroz hb4 w.heap.size 1 l0).trans f2
                    go_simp
                    refine hK.out _ _ (grow_set hb4 l0 _) (fun hHeld => ?_)
                    clear hK K hHeld e1 e2
                    try simp only [List.getElem_toArray, List.getElem_cons_succ, List.getElem_cons_zero, Act.put, List.setIfInBounds_toArray, List.set_cons_zero, List.set_cons_succ]
                    refine wpAnyH_done (by kernel_rfl) ?_ _
                    refine NoPanic.normal ?_
                    go_wp2_with fail
                    go_meet
                    case rel => exact tail_rel (c := 1) hrow2 hlt2 hg2' hb4 HB3.out l0 l2 c0 c1
              · go_simp
                refine hK.out _ _ (grow_of (hB.alloc hB.size _)) (fun hHeld => ?_)
                clear hK K hHeld
                try simp only [List.getElem_toArray, List.getElem_cons_succ, List.getElem_cons_zero, Act.put, List.setIfInBounds_toArray, List.set_cons_zero, List.set_cons_succ]
                have hB' := hB.alloc hB.size (.cells #[.int .i64 k, .int .u64 n, .int .i64 a, .int .i64 b, .int .i64 c] 60)
                have hN := heap_alloc_new X0 (.cells #[.int .i64 k, .int .u64 n, .int .i64 a, .int .i64 b, .int .i64 c] 60)
                obtain ⟨Nb, hNbe⟩ : ∃ v, v = X0.heap.size := ⟨_, rfl⟩
                rw [← hNbe] at hN ⊢
                have hNb0 : w2.heap.size ≤ Nb := by rw [hNbe]; exact hB.size
                have hNlt : Nb < (X0.alloc (.cells #[.int .i64 k, .int .u64 n, .int .i64 a, .int .i64 b, .int .i64 c] 60)).heap.size := by rw [hNbe]; simp
                clear hNbe hB
                generalize X0.alloc (.cells #[.int .i64 k, .int .u64 n, .int .i64 a, .int .i64 b, .int .i64 c] 60) = X13 at *
                have hB := hB'
                clear hB'
                refine wpAnyH_ready (rs := [0]) (by kernel_rfl) (by simp) ?_
                refine (AllReadyH.cons rfl (fun K hK => ?_) AllReadyH.nil)
                · go_simp
                  refine hK.out _ _ (grow_of (hB.alloc hB.size _)) (fun hHeld => ?_)
                  clear hK K hHeld
                  try simp only [List.getElem_toArray, List.getElem_cons_succ, List.getElem_cons_zero, Act.put, List.setIfInBounds_toArray, List.set_cons_zero, List.set_cons_succ]
                  have hB' := hB.alloc hB.size (.cells #[] 60)
                  have hE := heap_alloc_new X13 (.cells #[] 60)
                  have hN' := (Below.heap_alloc X13 (.cells #[] 60) Nb hNlt).trans hN
                  have hNlt' : Nb < (X13.alloc (.cells #[] 60)).heap.size := by simp; omega
                  obtain ⟨E, hEe⟩ : ∃ v, v = X13.heap.size := ⟨_, rfl⟩
                  rw [← hEe] at hE ⊢
                  have hE0 : w2.heap.size ≤ E := by rw [hEe]; exact hB.size
                  have hElt : E < (X13.alloc (.cells #[] 60)).heap.size := by rw [hEe]; simp
                  have hne : Nb ≠ E := by omega
                  clear hEe hB
                  clear hN hNlt
                  generalize X13.alloc (.cells #[] 60) = X14 at *
                  have hB := hB'
                  clear hB'
                  have hN := hN'
                  clear hN'
                  have hNlt := hNlt'
                  clear hNlt'
                  refine wpAnyH_ready (rs := [3]) (by kernel_rfl) (by simp) ?_
                  refine (AllReadyH.cons rfl (fun K hK => ?_) AllReadyH.nil)
                  · refine step_append_lies _ (by rfl) (.tmp 36) (.tmp 38) 26 (by rfl) 0 60 i0 _ 5 40 Tryd.underlying26 hi0 hz0 hz1 hz2 rfl (by omega) (.slice (some ⟨E, 0, none⟩) 0 0) 0 [] (by rfl) (ownsRow_empty hE) ⟨g, 0, none⟩ L.length cap (cells L) (by rfl) (cells_length L) (HR3.out.keep (hB.block g hg2)).news (cells_oneCell L) hpos (by simp [maxLen]; omega) (by omega) (Nat.zero_le _) _ rfl ?_
                    intro g1 cap1 X15 hown1 hgr1 hat1 hlt1
                    have hB' : Below w2.heap.size w2 X15 := hB.grown hgr1 hB.size (fun k hk => by simp [Value.ownBlock] at hk; omega)
                    have hg1 : w2.heap.size ≤ g1 := by
                      have h0 := hB.size
                      rcases hat1 with h | h
                      · simp [Value.ownBlock] at h; omega
                      · rw [h]; exact h0
                    have hown1 : X15.ownsRow 0 60 5 (.slice (some ⟨g1, 0, none⟩) L.length cap1) L.length (cells L) := by simpa using hown1
                    simp only [Nat.zero_add]
                    have hN' : X15.heap[Nb]? = some (.cells #[.int .i64 k, .int .u64 n, .int .i64 a, .int .i64 b, .int .i64 c] 60) := by rw [hgr1.block Nb hNlt (by simp [Value.ownBlock]; exact hne)]; exact hN
                    have hne1 : Nb ≠ g1 := by
                      rcases hat1 with h | h
                      · simp [Value.ownBlock] at h; omega
                      · omega
                    clear hN hNlt hne
                    have hN := hN'
                    clear hN'
                    clear hgr1 hat1 hE hElt hE0 hB
                    refine hK.out _ _ (grow_of hB') (fun hHeld => ?_)
                    clear hK K hHeld
                    try simp only [List.getElem_toArray, List.getElem_cons_succ, List.getElem_cons_zero, Act.put, List.setIfInBounds_toArray, List.set_cons_zero, List.set_cons_succ]
                    have hB := hB'
                    clear hB'
                    refine wpAnyH_ready (rs := [6]) (by kernel_rfl) (by simp) ?_
                    refine AllReadyH.cons rfl (fun K hK => ?_) AllReadyH.nil
                    refine step_append_lies _ (by rfl) (.tmp 39) (.tmp 41) 26 (by rfl) 0 60 i0 _ 5 40 Tryd.underlying26 hi0 hz0 hz1 hz2 rfl (by omega) (.slice (some ⟨g1, 0, none⟩) L.length cap1) L.length (cells L) (by rfl) hown1 ⟨Nb, 0, none⟩ 1 1 (vals ⟨k, n, a, b, c⟩) (by rfl) (by rfl) (World.news_of_block (cs := #[.int .i64 k, .int .u64 n, .int .i64 a, .int .i64 b, .int .i64 c]) (t := 60) (fr := (0, 0)) hN) (by simp [vals, Value.oneCell']) (by omega) (by simp [maxLen]; omega) (by omega) (Nat.zero_le _) _ rfl ?_
                    intro g2 cap2 w4 hown2 hgr2 hat2 hlt2
                    have hb4 : Below w2.heap.size w2 w4 := hB.grown hgr2 hB.size (fun k hk => by simp [Value.ownBlock] at hk; omega)
                    have hg2' : w2.heap.size ≤ g2 := by
                      have h0 := hB.size
                      rcases hat2 with h | h
                      · simp [Value.ownBlock] at h; omega
                      · rw [h]; exact h0
                    have hrow2 : rowAt w4 g2 (L ++ [⟨k, n, a, b, c⟩]) := ownsRow_row (by rw [cells_append, cells_one]; exact hown2)
                    refine hK.out _ _ (grow_of hb4) (fun hHeld => ?_)
                    clear hK K hHeld
                    try simp only [List.getElem_toArray, List.getElem_cons_succ, List.getElem_cons_zero, Act.put, List.setIfInBounds_toArray, List.set_cons_zero, List.set_cons_succ]
                    refine wpAnyH_take (i := 7) (v := ?_) rfl (by kernel_rfl) (by kernel_rfl) (by kernel_rfl) (fun _ _ _ h => h) (Or.inl ⟨by rfl, ?_⟩) (grow_of hb4) ?_
                    rotate_left
                    · (intro W hSw; go_simp; try with_reducible rfl)
                    try simp only [List.getElem_toArray, List.getElem_cons_succ, List.getElem_cons_zero, Act.put, List.setIfInBounds_toArray, List.set_cons_zero, List.set_cons_succ]
                    refine wpAnyH_ready (rs := [8]) (by kernel_rfl) (by simp) ?_
                    refine AllReadyH.cons rfl (fun K hK => ?_) AllReadyH.nil
                    have e1 := (bcell hb4 w.heap.size 1 l0).trans c1
                    have e2 := (bfroz hb4 w.heap.size 1 l0).trans f2
                    go_simp
                    refine hK.out _ _ (grow_set hb4 l0 _) (fun hHeld => ?_)
                    clear hK K hHeld e1 e2
                    try simp only [List.getElem_toArray, List.getElem_cons_succ, List.getElem_cons_zero, Act.put, List.setIfInBounds_toArray, List.set_cons_zero, List.set_cons_succ]
                    refine wpAnyH_done (by kernel_rfl) ?_ _
                    refine NoPanic.normal ?_
                    go_wp2_with fail
                    go_meet
                    case rel => exact tail_rel (c := 1) hrow2 hlt2 hg2' hb4 HB3.out l0 l2 c0 c1
            · go_simp
              refine hK.out _ _ (grow_of (hB.alloc hB.size _)) (fun hHeld => ?_)
              clear hK K hHeld
              try simp only [List.getElem_toArray, List.getElem_cons_succ, List.getElem_cons_zero, Act.put, List.setIfInBounds_toArray, List.set_cons_zero, List.set_cons_succ]
              have hB' := hB.alloc hB.size (.cells #[.int .i64 k, .int .u64 n, .int .i64 a, .int .i64 b, .int .i64 c] 60)
              have hN := heap_alloc_new X0 (.cells #[.int .i64 k, .int .u64 n, .int .i64 a, .int .i64 b, .int .i64 c] 60)
              obtain ⟨Nb, hNbe⟩ : ∃ v, v = X0.heap.size := ⟨_, rfl⟩
              rw [← hNbe] at hN ⊢
              have hNb0 : w2.heap.size ≤ Nb := by rw [hNbe]; exact hB.size
              have hNlt : Nb < (X0.alloc (.cells #[.int .i64 k, .int .u64 n, .int .i64 a, .int .i64 b, .int .i64 c] 60)).heap.size := by rw [hNbe]; simp
              clear hNbe hB
              generalize X0.alloc (.cells #[.int .i64 k, .int .u64 n, .int .i64 a, .int .i64 b, .int .i64 c] 60) = X16 at *
              have hB := hB'
              clear hB'
              refine wpAnyH_ready (rs := [0, 2]) (by kernel_rfl) (by simp) ?_
              refine (AllReadyH.cons rfl (fun K hK => ?_) (AllReadyH.cons rfl (fun K hK => ?_) AllReadyH.nil))
              · go_simp
                refine hK.out _ _ (grow_of (hB.alloc hB.size _)) (fun hHeld => ?_)
                clear hK K hHeld
                try simp only [List.getElem_toArray, List.getElem_cons_succ, List.getElem_cons_zero, Act.put, List.setIfInBounds_toArray, List.set_cons_zero, List.set_cons_succ]
                have hB' := hB.alloc hB.size (.cells #[] 60)
                have hE := heap_alloc_new X16 (.cells #[] 60)
                have hN' := (Below.heap_alloc X16 (.cells #[] 60) Nb hNlt).trans hN
                have hNlt' : Nb < (X16.alloc (.cells #[] 60)).heap.size := by simp; omega
                obtain ⟨E, hEe⟩ : ∃ v, v = X16.heap.size := ⟨_, rfl⟩
                rw [← hEe] at hE ⊢
                have hE0 : w2.heap.size ≤ E := by rw [hEe]; exact hB.size
                have hElt : E < (X16.alloc (.cells #[] 60)).heap.size := by rw [hEe]; simp
                have hne : Nb ≠ E := by omega
                clear hEe hB
                clear hN hNlt
                generalize X16.alloc (.cells #[] 60) = X17 at *
                have hB := hB'
                clear hB'
                have hN := hN'
                clear hN'
                have hNlt := hNlt'
                clear hNlt'
                refine wpAnyH_ready (rs := [2]) (by kernel_rfl) (by simp) ?_
                refine (AllReadyH.cons rfl (fun K hK => ?_) AllReadyH.nil)
                · have e1 := (bcell hB w.heap.size 1 l0).trans c1
                  go_simp
                  refine hK.out _ _ (grow_of hB) (fun hHeld => ?_)
                  clear hK K hHeld e1
                  try simp only [List.getElem_toArray, List.getElem_cons_succ, List.getElem_cons_zero, Act.put, List.setIfInBounds_toArray, List.set_cons_zero, List.set_cons_succ]
                  refine wpAnyH_ready (rs := [3]) (by kernel_rfl) (by simp) ?_
                  refine (AllReadyH.cons rfl (fun K hK => ?_) AllReadyH.nil)
                  · refine step_append_lies _ (by rfl) (.tmp 36) (.tmp 38) 26 (by rfl) 0 60 i0 _ 5 40 Tryd.underlying26 hi0 hz0 hz1 hz2 rfl (by omega) (.slice (some ⟨E, 0, none⟩) 0 0) 0 [] (by rfl) (ownsRow_empty hE) ⟨g, 0, none⟩ L.length cap (cells L) (by rfl) (cells_length L) (HR3.out.keep (hB.block g hg2)).news (cells_oneCell L) hpos (by simp [maxLen]; omega) (by omega) (Nat.zero_le _) _ rfl ?_
                    intro g1 cap1 X18 hown1 hgr1 hat1 hlt1
                    have hB' : Below w2.heap.size w2 X18 := hB.grown hgr1 hB.size (fun k hk => by simp [Value.ownBlock] at hk; omega)
                    have hg1 : w2.heap.size ≤ g1 := by
                      have h0 := hB.size
                      rcases hat1 with h | h
                      · simp [Value.ownBlock] at h; omega
                      · rw [h]; exact h0
                    have hown1 : X18.ownsRow 0 60 5 (.slice (some ⟨g1, 0, none⟩) L.length cap1) L.length (cells L) := by simpa using hown1
                    simp only [Nat.zero_add]
                    have hN' : X18.heap[Nb]? = some (.cells #[.int .i64 k, .int .u64 n, .int .i64 a, .int .i64 b, .int .i64 c] 60) := by rw [hgr1.block Nb hNlt (by simp [Value.ownBlock]; exact hne)]; exact hN
                    have hne1 : Nb ≠ g1 := by
                      rcases hat1 with h | h
                      · simp [Value.ownBlock] at h; omega
                      · omega
                    clear hN hNlt hne
                    have hN := hN'
                    clear hN'
                    clear hgr1 hat1 hE hElt hE0 hB
                    refine hK.out _ _ (grow_of hB') (fun hHeld => ?_)
                    clear hK K hHeld
                    try simp only [List.getElem_toArray, List.getElem_cons_succ, List.getElem_cons_zero, Act.put, List.setIfInBounds_toArray, List.set_cons_zero, List.set_cons_succ]
                    have hB := hB'
                    clear hB'
                    refine wpAnyH_ready (rs := [6]) (by kernel_rfl) (by simp) ?_
                    refine AllReadyH.cons rfl (fun K hK => ?_) AllReadyH.nil
                    refine step_append_lies _ (by rfl) (.tmp 39) (.tmp 41) 26 (by rfl) 0 60 i0 _ 5 40 Tryd.underlying26 hi0 hz0 hz1 hz2 rfl (by omega) (.slice (some ⟨g1, 0, none⟩) L.length cap1) L.length (cells L) (by rfl) hown1 ⟨Nb, 0, none⟩ 1 1 (vals ⟨k, n, a, b, c⟩) (by rfl) (by rfl) (World.news_of_block (cs := #[.int .i64 k, .int .u64 n, .int .i64 a, .int .i64 b, .int .i64 c]) (t := 60) (fr := (0, 0)) hN) (by simp [vals, Value.oneCell']) (by omega) (by simp [maxLen]; omega) (by omega) (Nat.zero_le _) _ rfl ?_
                    intro g2 cap2 w4 hown2 hgr2 hat2 hlt2
                    have hb4 : Below w2.heap.size w2 w4 := hB.grown hgr2 hB.size (fun k hk => by simp [Value.ownBlock] at hk; omega)
                    have hg2' : w2.heap.size ≤ g2 := by
                      have h0 := hB.size
                      rcases hat2 with h | h
                      · simp [Value.ownBlock] at h; omega
                      · rw [h]; exact h0
                    have hrow2 : rowAt w4 g2 (L ++ [⟨k, n, a, b, c⟩]) := ownsRow_row (by rw [cells_append, cells_one]; exact hown2)
                    refine hK.out _ _ (grow_of hb4) (fun hHeld => ?_)
                    clear hK K hHeld
                    try simp only [List.getElem_toArray, List.getElem_cons_succ, List.getElem_cons_zero, Act.put, List.setIfInBounds_toArray, List.set_cons_zero, List.set_cons_succ]
                    refine wpAnyH_take (i := 7) (v := ?_) rfl (by kernel_rfl) (by kernel_rfl) (by kernel_rfl) (fun _ _ _ h => h) (Or.inl ⟨by rfl, ?_⟩) (grow_of hb4) ?_
                    rotate_left
                    · (intro W hSw; go_simp; try with_reducible rfl)
                    try simp only [List.getElem_toArray, List.getElem_cons_succ, List.getElem_cons_zero, Act.put, List.setIfInBounds_toArray, List.set_cons_zero, List.set_cons_succ]
                    refine wpAnyH_ready (rs := [8]) (by kernel_rfl) (by simp) ?_
                    refine AllReadyH.cons rfl (fun K hK => ?_) AllReadyH.nil
                    have e1 := (bcell hb4 w.heap.size 1 l0).trans c1
                    have e2 := (bfroz hb4 w.heap.size 1 l0).trans f2
                    go_simp
                    refine hK.out _ _ (grow_set hb4 l0 _) (fun hHeld => ?_)
                    clear hK K hHeld e1 e2
                    try simp only [List.getElem_toArray, List.getElem_cons_succ, List.getElem_cons_zero, Act.put, List.setIfInBounds_toArray, List.set_cons_zero, List.set_cons_succ]
                    refine wpAnyH_done (by kernel_rfl) ?_ _
                    refine NoPanic.normal ?_
                    go_wp2_with fail
                    go_meet
                    case rel => exact tail_rel (c := 1) hrow2 hlt2 hg2' hb4 HB3.out l0 l2 c0 c1
              · have e1 := (bcell hB w.heap.size 1 l0).trans c1
                go_simp
                refine hK.out _ _ (grow_of hB) (fun hHeld => ?_)
                clear hK K hHeld e1
                try simp only [List.getElem_toArray, List.getElem_cons_succ, List.getElem_cons_zero, Act.put, List.setIfInBounds_toArray, List.set_cons_zero, List.set_cons_succ]
                refine wpAnyH_ready (rs := [0]) (by kernel_rfl) (by simp) ?_
                refine (AllReadyH.cons rfl (fun K hK => ?_) AllReadyH.nil)
                · go_simp
                  refine hK.out _ _ (grow_of (hB.alloc hB.size _)) (fun hHeld => ?_)
                  clear hK K hHeld
                  try simp only [List.getElem_toArray, List.getElem_cons_succ, List.getElem_cons_zero, Act.put, List.setIfInBounds_toArray, List.set_cons_zero, List.set_cons_succ]
                  have hB' := hB.alloc hB.size (.cells #[] 60)
                  have hE := heap_alloc_new X16 (.cells #[] 60)
                  have hN' := (Below.heap_alloc X16 (.cells #[] 60) Nb hNlt).trans hN
                  have hNlt' : Nb < (X16.alloc (.cells #[] 60)).heap.size := by simp; omega
                  obtain ⟨E, hEe⟩ : ∃ v, v = X16.heap.size := ⟨_, rfl⟩
                  rw [← hEe] at hE ⊢
                  have hE0 : w2.heap.size ≤ E := by rw [hEe]; exact hB.size
                  have hElt : E < (X16.alloc (.cells #[] 60)).heap.size := by rw [hEe]; simp
                  have hne : Nb ≠ E := by omega
                  clear hEe hB
                  clear hN hNlt
                  generalize X16.alloc (.cells #[] 60) = X19 at *
                  have hB := hB'
                  clear hB'
                  have hN := hN'
                  clear hN'
                  have hNlt := hNlt'
                  clear hNlt'
                  refine wpAnyH_ready (rs := [3]) (by kernel_rfl) (by simp) ?_
                  refine (AllReadyH.cons rfl (fun K hK => ?_) AllReadyH.nil)
                  · refine step_append_lies _ (by rfl) (.tmp 36) (.tmp 38) 26 (by rfl) 0 60 i0 _ 5 40 Tryd.underlying26 hi0 hz0 hz1 hz2 rfl (by omega) (.slice (some ⟨E, 0, none⟩) 0 0) 0 [] (by rfl) (ownsRow_empty hE) ⟨g, 0, none⟩ L.length cap (cells L) (by rfl) (cells_length L) (HR3.out.keep (hB.block g hg2)).news (cells_oneCell L) hpos (by simp [maxLen]; omega) (by omega) (Nat.zero_le _) _ rfl ?_
                    intro g1 cap1 X20 hown1 hgr1 hat1 hlt1
                    have hB' : Below w2.heap.size w2 X20 := hB.grown hgr1 hB.size (fun k hk => by simp [Value.ownBlock] at hk; omega)
                    have hg1 : w2.heap.size ≤ g1 := by
                      have h0 := hB.size
                      rcases hat1 with h | h
                      · simp [Value.ownBlock] at h; omega
                      · rw [h]; exact h0
                    have hown1 : X20.ownsRow 0 60 5 (.slice (some ⟨g1, 0, none⟩) L.length cap1) L.length (cells L) := by simpa using hown1
                    simp only [Nat.zero_add]
                    have hN' : X20.heap[Nb]? = some (.cells #[.int .i64 k, .int .u64 n, .int .i64 a, .int .i64 b, .int .i64 c] 60) := by rw [hgr1.block Nb hNlt (by simp [Value.ownBlock]; exact hne)]; exact hN
                    have hne1 : Nb ≠ g1 := by
                      rcases hat1 with h | h
                      · simp [Value.ownBlock] at h; omega
                      · omega
                    clear hN hNlt hne
                    have hN := hN'
                    clear hN'
                    clear hgr1 hat1 hE hElt hE0 hB
                    refine hK.out _ _ (grow_of hB') (fun hHeld => ?_)
                    clear hK K hHeld
                    try simp only [List.getElem_toArray, List.getElem_cons_succ, List.getElem_cons_zero, Act.put, List.setIfInBounds_toArray, List.set_cons_zero, List.set_cons_succ]
                    have hB := hB'
                    clear hB'
                    refine wpAnyH_ready (rs := [6]) (by kernel_rfl) (by simp) ?_
                    refine AllReadyH.cons rfl (fun K hK => ?_) AllReadyH.nil
                    refine step_append_lies _ (by rfl) (.tmp 39) (.tmp 41) 26 (by rfl) 0 60 i0 _ 5 40 Tryd.underlying26 hi0 hz0 hz1 hz2 rfl (by omega) (.slice (some ⟨g1, 0, none⟩) L.length cap1) L.length (cells L) (by rfl) hown1 ⟨Nb, 0, none⟩ 1 1 (vals ⟨k, n, a, b, c⟩) (by rfl) (by rfl) (World.news_of_block (cs := #[.int .i64 k, .int .u64 n, .int .i64 a, .int .i64 b, .int .i64 c]) (t := 60) (fr := (0, 0)) hN) (by simp [vals, Value.oneCell']) (by omega) (by simp [maxLen]; omega) (by omega) (Nat.zero_le _) _ rfl ?_
                    intro g2 cap2 w4 hown2 hgr2 hat2 hlt2
                    have hb4 : Below w2.heap.size w2 w4 := hB.grown hgr2 hB.size (fun k hk => by simp [Value.ownBlock] at hk; omega)
                    have hg2' : w2.heap.size ≤ g2 := by
                      have h0 := hB.size
                      rcases hat2 with h | h
                      · simp [Value.ownBlock] at h; omega
                      · rw [h]; exact h0
                    have hrow2 : rowAt w4 g2 (L ++ [⟨k, n, a, b, c⟩]) := ownsRow_row (by rw [cells_append, cells_one]; exact hown2)
                    refine hK.out _ _ (grow_of hb4) (fun hHeld => ?_)
                    clear hK K hHeld
                    try simp only [List.getElem_toArray, List.getElem_cons_succ, List.getElem_cons_zero, Act.put, List.setIfInBounds_toArray, List.set_cons_zero, List.set_cons_succ]
                    refine wpAnyH_take (i := 7) (v := ?_) rfl (by kernel_rfl) (by kernel_rfl) (by kernel_rfl) (fun _ _ _ h => h) (Or.inl ⟨by rfl, ?_⟩) (grow_of hb4) ?_
                    rotate_left
                    · (intro W hSw; go_simp; try with_reducible rfl)
                    try simp only [List.getElem_toArray, List.getElem_cons_succ, List.getElem_cons_zero, Act.put, List.setIfInBounds_toArray, List.set_cons_zero, List.set_cons_succ]
                    refine wpAnyH_ready (rs := [8]) (by kernel_rfl) (by simp) ?_
                    refine AllReadyH.cons rfl (fun K hK => ?_) AllReadyH.nil
                    have e1 := (bcell hb4 w.heap.size 1 l0).trans c1
                    have e2 := (bfroz hb4 w.heap.size 1 l0).trans f2
                    go_simp
                    refine hK.out _ _ (grow_set hb4 l0 _) (fun hHeld => ?_)
                    clear hK K hHeld e1 e2
                    try simp only [List.getElem_toArray, List.getElem_cons_succ, List.getElem_cons_zero, Act.put, List.setIfInBounds_toArray, List.set_cons_zero, List.set_cons_succ]
                    refine wpAnyH_done (by kernel_rfl) ?_ _
                    refine NoPanic.normal ?_
                    go_wp2_with fail
                    go_meet
                    case rel => exact tail_rel (c := 1) hrow2 hlt2 hg2' hb4 HB3.out l0 l2 c0 c1
          case rest =>
            obtain ⟨g2, cap2, hrow2, hglt, hgge, z0, z1, hbw, hk2⟩ := hcut
            have y0 : wc.cell? ⟨w.heap.size + 1 + 1, 0, none⟩ = some (.int .i64 0) := (World.cell?_of_block (a := ⟨w.heap.size + 1 + 1, 0, none⟩) hk2).trans r0
            have y1 : wc.cell? ⟨w.heap.size + 1 + 1, 1, none⟩ = some (.slice none 0 0) := (World.cell?_of_block (a := ⟨w.heap.size + 1 + 1, 1, none⟩) hk2).trans r1
            have x0 : wc.frozen? ⟨w.heap.size + 1 + 1, 0, none⟩ = false := (World.frozen?_of_block (a := ⟨w.heap.size + 1 + 1, 0, none⟩) hk2).trans f0
            have x1 : wc.frozen? ⟨w.heap.size + 1 + 1, 1, none⟩ = false := (World.frozen?_of_block (a := ⟨w.heap.size + 1 + 1, 1, none⟩) hk2).trans f1
            clear hk2
            have HRow := Lib.hid hrow2; clear hrow2
            have HBW := Lib.hid hbw; clear hbw
            clear c0 c1 n0 n1 n2 n3 n4 r0 r1 f0 f1 f2 hi0 hz0 hz1 hz2
            go_wp2_with fail
            go_region
            go_wp2_with fail
            refine bodyPost_ret (v := .tuple #[.agg #[.int .i64 lim, .slice (some ⟨g2, 0, none⟩) (L.length + 1) cap2], .int .i64 L.length, .int .i64 0]) (by simp [results, Tryd.results21, go_sem, y0, y1]) rfl ?_
            exact refMj_new HV.out HRow.out hglt hgge l2 HBW.out (by omega) _ _
end Go.Proofs.YtgjhhipkfglpgaaDoor
