/- Layer 10: the walks of Open and Rekey. -/
import Derived.Test.YtgjhhipkfglpgaaDoorJc
namespace Go.Proofs.YtgjhhipkfglpgaaDoor
open Go.RowKit

theorem opB_iff {d : Nd} {c : Cf} {ad : Int} : opB d c ad = true ↔ d = slN c ad d.c := by
  unfold opB slN
  rw [decide_eq_true_iff]
  constructor
  · rintro ⟨h1, h2, h3, h4⟩; exact Nd.ext5 h1 h2 h3 h4 rfl
  · intro h; rw [h]; exact ⟨rfl, rfl, rfl, rfl⟩
/-- Whatever ref that there is: Get. -/
theorem get_ref (b g bm cap lim : Nat) (L : List Nd) (x : Int) (hx : hasB L.length x = true) (w : World) (hA : Ar w b g bm cap lim L) :
    Calls Tryd.prog 35 #[.pointer (some ⟨b, 0, none⟩), .int .i64 x] w fun e w' => e = .returned (.tuple #[agg (nd L x), .bool true]) ∧ Below w.heap.size w w' := by
  have h := hasB_iff.1 hx
  obtain ⟨i, rfl⟩ := Int.eq_ofNat_of_zero_le h.1
  have := get_yes b g bm cap lim L i (by omega) w hA
  unfold nd
  rw [Int.toNat_natCast]
  exact this

def OpenPost (L : List Nd) (c : Cf) (ad x : Int) (w : World) (e : Ending) (w' : World) : Prop :=
  e = .returned (.tuple #[cfV (opC L c ad x), .int .i64 (opR L c ad x), .int .i64 (opE L c ad x)]) ∧ Below w.heap.size w w'

/-- The box of the node that was got. -/
def Nb (W : World) (p : Nat) (d : Nd) : Prop := W.heap[p]? = some (.cells #[.int .i64 d.k, .int .u64 d.n, .int .i64 d.a, .int .i64 d.b, .int .i64 d.c] 53 (0, 0))
theorem Nb.keep {W W' : World} {p : Nat} {d : Nd} (h : Nb W p d) (hb : Below W.heap.size W W') : Nb W' p d := (hb.block _ (lt_of_heap h)).trans h
theorem nb_cells {W : World} {p : Nat} {k n a b c : Int} (h : W.heap[p]? = some (.cells #[.int .i64 k, .int .u64 n, .int .i64 a, .int .i64 b, .int .i64 c] 53 (0, 0))) : W.cell? ⟨p, 0, none⟩ = some (.int .i64 k) ∧ W.cell? ⟨p, 1, none⟩ = some (.int .u64 n) ∧ W.cell? ⟨p, 2, none⟩ = some (.int .i64 a) ∧ W.cell? ⟨p, 3, none⟩ = some (.int .i64 b) ∧ W.cell? ⟨p, 4, none⟩ = some (.int .i64 c) :=
  ⟨(cell_of_row W p 0 _ _ _ h).trans rfl, (cell_of_row W p 1 _ _ _ h).trans rfl, (cell_of_row W p 2 _ _ _ h).trans rfl, (cell_of_row W p 3 _ _ _ h).trans rfl, (cell_of_row W p 4 _ _ _ h).trans rfl⟩
theorem openPost_of {L : List Nd} {c : Cf} {ad x : Int} {r er : Int} {c' : Cf} {w w' : World} (h2 : opR L c ad x = r) (h3 : opE L c ad x = er) (h4 : opC L c ad x = c') (hb : Below w.heap.size w w') :
    OpenPost L c ad x w (.returned (.tuple #[cfV c', .int .i64 r, .int .i64 er])) w' :=
  ⟨by rw [h2, h3, h4], hb⟩

set_option maxRecDepth 100000 in
set_option maxHeartbeats 2000000 in
theorem open_any (b g bm cap lim : Nat) (L : List Nd) (c : Cf) (ad x : Int) (w : World) (hA : Ar w b g bm cap lim L) (hc : u64ok c.n) :
    Calls Tryd.prog 28 #[cfV c, .pointer (some ⟨b, 0, none⟩), .int .i64 ad, .int .i64 x] w (OpenPost L c ad x w) := by
  have hbl : b < w.heap.size := hA.blt
  obtain ⟨W0, hW0⟩ : ∃ W, W = (w.alloc (.cells #[.int .i64 c.k, .bool c.h, .int .u64 c.n] 33)).alloc (.cells #[.int .i64 0, .bool false, .int .u64 0] 33) := ⟨_, rfl⟩
  have HB0 : Hid (Below w.heap.size w W0) := Lib.hid (by rw [hW0]; exact ((Below.refl _ _).alloc (Nat.le_refl _) _).alloc (by simp) _)
  have HC0 : Hid (Cb w W0 c) := Lib.hid (by rw [hW0]; exact Cb.new w c)
  have HCK := Lib.hid (check_any b (some ⟨g, 0, none⟩) L.length cap c ad x W0 (hA.below HB0.out).c0 (Nat.lt_of_lt_of_le hbl HB0.out.size))
  have HA := Lib.hid hA; clear hA
  have HN := Lib.hid hc; clear hc
  rw [hW0] at HCK
  unfold cfV at HCK ⊢
  go_enter Tryd.func28, Tryd.ntmps28
  go_wp2_with fail
  go_at_call 32
  refine HCK.out.mono ?_
  rintro e w1 ⟨rfl, hb1⟩
  rw [← hW0] at hb1
  have HB1 := Lib.hid (HB0.out.trans (hb1.mono HB0.out.size))
  have HC1 := Lib.hid (HC0.out.keep hb1)
  clear hW0 hb1 HB0 HC0 HCK
  obtain ⟨c0, c1, c2⟩ := cf_cells HC1.out.bx
  obtain ⟨z0, z1, z2⟩ := cf_cells HC1.out.rs
  have l1 := lt_of_heap HC1.out.rs
  have l0 : w.heap.size < w1.heap.size := by omega
  have zf : ∀ j, w1.frozen? ⟨w.heap.size + 1, j, none⟩ = false := fun j => frozen_of_row _ _ _ _ _ HC1.out.rs
  rcases chk_cases L.length c ad x with hk | hk
  · have hk0 : chk L.length c ad x ≠ 0 := by rcases hk with h | h <;> rw [h] <;> decide
    obtain ⟨e2, e3, e4⟩ := op_err hk0
    have hk1 : (chk L.length c ad x != 0) = true := by simpa using hk0
    have HP := Lib.hid (fun w' hb => openPost_of (w := w) (w' := w') e3 e2 e4 hb)
    clear hk hk0 e2 e3 e4
    generalize chk L.length c ad x = q at *
    go_wp2_with fail
    refine bodyPost_ret (v := .tuple #[.agg #[.int .i64 0, .bool false, .int .u64 0], .int .i64 0, .int .i64 q]) (by simp [results, Tryd.results28, go_sem, z0, z1, z2]) rfl ?_
    exact HP.out _ (((HB1.out.setCell (Nat.le_succ _) _).setCell (Nat.le_succ _) _).setCell (Nat.le_succ _) _)
  · rw [hk]
    cases hh : c.h
    · obtain ⟨e2, e3, e4⟩ := op_none hk hh
      have HP := Lib.hid (fun w' hb => openPost_of (w := w) (w' := w') e3 e2 e4 hb)
      clear hk e2 e3 e4
      rw [hh] at c1
      obtain ⟨ck, ch, cn⟩ := c
      simp only at c0 c1 c2 hh
      subst hh
      go_wp2_with fail
      refine bodyPost_ret (v := .tuple #[.agg #[.int .i64 ck, .bool false, .int .u64 cn], .int .i64 x, .int .i64 0]) (by simp [results, Tryd.results28, go_sem, z0, z1, z2]) rfl ?_
      exact HP.out _ (((HB1.out.setCell (Nat.le_succ _) _).setCell (Nat.le_succ _) _).setCell (Nat.le_succ _) _)
    · obtain ⟨⟨q1, q2⟩, q3⟩ := chk_zero hk
      obtain ⟨q4, q5⟩ := q3 hh
      have HG := Lib.hid (get_ref b g bm cap lim L x q2 w1 (HA.out.below HB1.out))
      have HNO := Lib.hid (fun hb => op_no (L := L) (x := x) hk hh hb)
      have HYES := Lib.hid (fun hb => op_yes (L := L) (x := x) hk hh hb)
      have HNX := Lib.hid (fun w' => next_any c HN.out q5 hh w')
      clear hk q1 q2 q3 q4 q5
      obtain ⟨ck, ch, cn⟩ := c
      simp only at c0 c1 c2 hh
      subst hh
      unfold cfV at HNX
      generalize nd L x = d at *
      obtain ⟨dk, dn, da, db, dc⟩ := d
      have HSE := Lib.hid (fun w' => sealed_any ⟨ck, true, cn⟩ ad dc w')
      unfold agg at HG HSE
      unfold cfV at HSE
      simp only [slN] at HSE
      go_wp2_with fail
      go_at_call 35
      refine HG.out.mono ?_
      rintro e w2 ⟨rfl, hb2⟩
      have HB2 := Lib.hid (HB1.out.trans (hb2.mono HB1.out.size))
      have HC2 := Lib.hid (HC1.out.keep hb2)
      clear hb2 HG c0 c1 c2 z0 z1 z2 zf l1 l0
      have HW3 : Hid (Below w2.heap.size w2 (w2.alloc (.cells #[.int .i64 dk, .int .u64 dn, .int .i64 da, .int .i64 db, .int .i64 dc] 53))) := Lib.hid ((Below.refl _ _).alloc (Nat.le_refl _) _)
      have HN3 : Hid (Nb (w2.alloc (.cells #[.int .i64 dk, .int .u64 dn, .int .i64 da, .int .i64 db, .int .i64 dc] 53)) w2.heap.size ⟨dk, dn, da, db, dc⟩) := Lib.hid (heap_alloc_new w2 _)
      go_wp2_with fail
      have hnl : w.heap.size + 1 < w2.heap.size := lt_of_heap HC2.out.rs
      have HC3 := Lib.hid (HC2.out.keep HW3.out)
      have HB3 := Lib.hid (HB2.out.trans (HW3.out.mono HB2.out.size))
      clear HW3 HC2 HB2
      generalize w2.alloc (.cells #[.int .i64 dk, .int .u64 dn, .int .i64 da, .int .i64 db, .int .i64 dc] 53) = w3 at *
      generalize w2.heap.size = pn at *
      have HCE : Hid (∀ W, Below w3.heap.size w3 W → (W.cell? ⟨pn, 0, none⟩ = some (.int .i64 dk) ∧ W.cell? ⟨pn, 1, none⟩ = some (.int .u64 dn) ∧ W.cell? ⟨pn, 2, none⟩ = some (.int .i64 da) ∧ W.cell? ⟨pn, 3, none⟩ = some (.int .i64 db) ∧ W.cell? ⟨pn, 4, none⟩ = some (.int .i64 dc)) ∧ (W.cell? ⟨w.heap.size, 0, none⟩ = some (.int .i64 ck) ∧ W.cell? ⟨w.heap.size, 1, none⟩ = some (.bool true) ∧ W.cell? ⟨w.heap.size, 2, none⟩ = some (.int .u64 cn))) := Lib.hid (fun W hW => ⟨nb_cells (HN3.out.keep hW), cf_cells (HC3.out.keep hW).bx⟩)
      obtain ⟨⟨d0, d1, d2, d3, d4⟩, ⟨c0, c1, c2⟩⟩ := HCE.out w3 (Below.refl _ _)
      have l0 : w.heap.size < w3.heap.size := lt_of_heap HC3.out.bx
      have ln : pn < w3.heap.size := lt_of_heap HN3.out
      by_cases hdk : dk = 7
      rotate_left
      · have hbdk : (dk == 7) = false := by simpa using hdk
        have HX := Lib.hid hdk; clear hdk
        go_region_held3 (fun W => (W.cell? ⟨pn, 0, none⟩ = some (.int .i64 dk) ∧ W.cell? ⟨pn, 1, none⟩ = some (.int .u64 dn) ∧ W.cell? ⟨pn, 2, none⟩ = some (.int .i64 da) ∧ W.cell? ⟨pn, 3, none⟩ = some (.int .i64 db) ∧ W.cell? ⟨pn, 4, none⟩ = some (.int .i64 dc)) ∧ (W.cell? ⟨w.heap.size, 0, none⟩ = some (.int .i64 ck) ∧ W.cell? ⟨w.heap.size, 1, none⟩ = some (.bool true) ∧ W.cell? ⟨w.heap.size, 2, none⟩ = some (.int .u64 cn))) (go_keep)
          (first
            | (go_at_call 33; refine (HSE.out _).mono ?_; rintro e w4 ⟨rfl, hb4⟩; have hb4' := (Below.refl _ w3).drew.trans (hb4.mono (Nat.le_refl _)); obtain ⟨⟨e0, e1, e2, e3, e4⟩, ⟨f0, f1, f2⟩⟩ := HCE.out w4 hb4'))
        have HC4 := Lib.hid (HC3.out.keep hb4')
        have HB4 := Lib.hid (HB3.out.trans (hb4'.mono HB3.out.size))
        have HN4 := Lib.hid (HN3.out.keep hb4')
        have l1 := lt_of_heap HC4.out.rs
        have l2 := lt_of_heap HN4.out
        clear hb4 hb4' HSE
        obtain ⟨z0, z1, z2⟩ := cf_cells HC4.out.rs
        have zf : ∀ j, w4.frozen? ⟨w.heap.size + 1, j, none⟩ = false := fun j => frozen_of_row _ _ _ _ _ HC4.out.rs
        obtain ⟨o2, o3, o4⟩ := HNO.out (by unfold opB; simp [HX.out])
        have HP := Lib.hid (fun w' hb => openPost_of (w := w) (w' := w') o3 o2 o4 hb)
        clear o2 o3 o4
        go_wp2_with fail
        refine bodyPost_ret (v := .tuple #[.agg #[.int .i64 0, .bool false, .int .u64 0], .int .i64 0, .int .i64 7]) (by simp [results, Tryd.results28, go_sem, z0, z1, z2]) rfl ?_
        exact HP.out _ (((HB4.out.setCell (Nat.le_succ _) _).setCell (Nat.le_succ _) _).setCell (Nat.le_succ _) _)
      subst hdk
      by_cases hdn : dn = cn
      rotate_left
      · have hbdn : (dn == cn) = false := by simpa using hdn
        have HX := Lib.hid hdn; clear hdn
        go_region_held3 (fun W => (W.cell? ⟨pn, 0, none⟩ = some (.int .i64 7) ∧ W.cell? ⟨pn, 1, none⟩ = some (.int .u64 dn) ∧ W.cell? ⟨pn, 2, none⟩ = some (.int .i64 da) ∧ W.cell? ⟨pn, 3, none⟩ = some (.int .i64 db) ∧ W.cell? ⟨pn, 4, none⟩ = some (.int .i64 dc)) ∧ (W.cell? ⟨w.heap.size, 0, none⟩ = some (.int .i64 ck) ∧ W.cell? ⟨w.heap.size, 1, none⟩ = some (.bool true) ∧ W.cell? ⟨w.heap.size, 2, none⟩ = some (.int .u64 cn))) (go_keep)
          (first
            | (go_at_call 33; refine (HSE.out _).mono ?_; rintro e w4 ⟨rfl, hb4⟩; have hb4' := (Below.refl _ w3).drew.trans (hb4.mono (Nat.le_refl _)); obtain ⟨⟨e0, e1, e2, e3, e4⟩, ⟨f0, f1, f2⟩⟩ := HCE.out w4 hb4'))
        have HC4 := Lib.hid (HC3.out.keep hb4')
        have HB4 := Lib.hid (HB3.out.trans (hb4'.mono HB3.out.size))
        have HN4 := Lib.hid (HN3.out.keep hb4')
        have l1 := lt_of_heap HC4.out.rs
        have l2 := lt_of_heap HN4.out
        clear hb4 hb4' HSE
        obtain ⟨z0, z1, z2⟩ := cf_cells HC4.out.rs
        have zf : ∀ j, w4.frozen? ⟨w.heap.size + 1, j, none⟩ = false := fun j => frozen_of_row _ _ _ _ _ HC4.out.rs
        obtain ⟨o2, o3, o4⟩ := HNO.out (by unfold opB; simp [HX.out])
        have HP := Lib.hid (fun w' hb => openPost_of (w := w) (w' := w') o3 o2 o4 hb)
        clear o2 o3 o4
        go_wp2_with fail
        refine bodyPost_ret (v := .tuple #[.agg #[.int .i64 0, .bool false, .int .u64 0], .int .i64 0, .int .i64 7]) (by simp [results, Tryd.results28, go_sem, z0, z1, z2]) rfl ?_
        exact HP.out _ (((HB4.out.setCell (Nat.le_succ _) _).setCell (Nat.le_succ _) _).setCell (Nat.le_succ _) _)
      subst hdn
      by_cases hda : da = ck
      rotate_left
      · have hbda : (da == ck) = false := by simpa using hda
        have HX := Lib.hid hda; clear hda
        go_region_held3 (fun W => (W.cell? ⟨pn, 0, none⟩ = some (.int .i64 7) ∧ W.cell? ⟨pn, 1, none⟩ = some (.int .u64 dn) ∧ W.cell? ⟨pn, 2, none⟩ = some (.int .i64 da) ∧ W.cell? ⟨pn, 3, none⟩ = some (.int .i64 db) ∧ W.cell? ⟨pn, 4, none⟩ = some (.int .i64 dc)) ∧ (W.cell? ⟨w.heap.size, 0, none⟩ = some (.int .i64 ck) ∧ W.cell? ⟨w.heap.size, 1, none⟩ = some (.bool true) ∧ W.cell? ⟨w.heap.size, 2, none⟩ = some (.int .u64 dn))) (go_keep)
          (first
            | (go_at_call 33; refine (HSE.out _).mono ?_; rintro e w4 ⟨rfl, hb4⟩; have hb4' := (Below.refl _ w3).drew.trans (hb4.mono (Nat.le_refl _)); obtain ⟨⟨e0, e1, e2, e3, e4⟩, ⟨f0, f1, f2⟩⟩ := HCE.out w4 hb4'))
        have HC4 := Lib.hid (HC3.out.keep hb4')
        have HB4 := Lib.hid (HB3.out.trans (hb4'.mono HB3.out.size))
        have HN4 := Lib.hid (HN3.out.keep hb4')
        have l1 := lt_of_heap HC4.out.rs
        have l2 := lt_of_heap HN4.out
        clear hb4 hb4' HSE
        obtain ⟨z0, z1, z2⟩ := cf_cells HC4.out.rs
        have zf : ∀ j, w4.frozen? ⟨w.heap.size + 1, j, none⟩ = false := fun j => frozen_of_row _ _ _ _ _ HC4.out.rs
        obtain ⟨o2, o3, o4⟩ := HNO.out (by unfold opB; simp [HX.out])
        have HP := Lib.hid (fun w' hb => openPost_of (w := w) (w' := w') o3 o2 o4 hb)
        clear o2 o3 o4
        go_wp2_with fail
        refine bodyPost_ret (v := .tuple #[.agg #[.int .i64 0, .bool false, .int .u64 0], .int .i64 0, .int .i64 7]) (by simp [results, Tryd.results28, go_sem, z0, z1, z2]) rfl ?_
        exact HP.out _ (((HB4.out.setCell (Nat.le_succ _) _).setCell (Nat.le_succ _) _).setCell (Nat.le_succ _) _)
      subst hda
      by_cases hdb : db = ad
      rotate_left
      · have hbdb : (db == ad) = false := by simpa using hdb
        have HX := Lib.hid hdb; clear hdb
        go_region_held3 (fun W => (W.cell? ⟨pn, 0, none⟩ = some (.int .i64 7) ∧ W.cell? ⟨pn, 1, none⟩ = some (.int .u64 dn) ∧ W.cell? ⟨pn, 2, none⟩ = some (.int .i64 da) ∧ W.cell? ⟨pn, 3, none⟩ = some (.int .i64 db) ∧ W.cell? ⟨pn, 4, none⟩ = some (.int .i64 dc)) ∧ (W.cell? ⟨w.heap.size, 0, none⟩ = some (.int .i64 da) ∧ W.cell? ⟨w.heap.size, 1, none⟩ = some (.bool true) ∧ W.cell? ⟨w.heap.size, 2, none⟩ = some (.int .u64 dn))) (go_keep)
          (first
            | (go_at_call 33; refine (HSE.out _).mono ?_; rintro e w4 ⟨rfl, hb4⟩; have hb4' := (Below.refl _ w3).drew.trans (hb4.mono (Nat.le_refl _)); obtain ⟨⟨e0, e1, e2, e3, e4⟩, ⟨f0, f1, f2⟩⟩ := HCE.out w4 hb4'))
        have HC4 := Lib.hid (HC3.out.keep hb4')
        have HB4 := Lib.hid (HB3.out.trans (hb4'.mono HB3.out.size))
        have HN4 := Lib.hid (HN3.out.keep hb4')
        have l1 := lt_of_heap HC4.out.rs
        have l2 := lt_of_heap HN4.out
        clear hb4 hb4' HSE
        obtain ⟨z0, z1, z2⟩ := cf_cells HC4.out.rs
        have zf : ∀ j, w4.frozen? ⟨w.heap.size + 1, j, none⟩ = false := fun j => frozen_of_row _ _ _ _ _ HC4.out.rs
        obtain ⟨o2, o3, o4⟩ := HNO.out (by unfold opB; simp [HX.out])
        have HP := Lib.hid (fun w' hb => openPost_of (w := w) (w' := w') o3 o2 o4 hb)
        clear o2 o3 o4
        go_wp2_with fail
        refine bodyPost_ret (v := .tuple #[.agg #[.int .i64 0, .bool false, .int .u64 0], .int .i64 0, .int .i64 7]) (by simp [results, Tryd.results28, go_sem, z0, z1, z2]) rfl ?_
        exact HP.out _ (((HB4.out.setCell (Nat.le_succ _) _).setCell (Nat.le_succ _) _).setCell (Nat.le_succ _) _)
      subst hdb
      go_region_held3 (fun W => (W.cell? ⟨pn, 0, none⟩ = some (.int .i64 7) ∧ W.cell? ⟨pn, 1, none⟩ = some (.int .u64 dn) ∧ W.cell? ⟨pn, 2, none⟩ = some (.int .i64 da) ∧ W.cell? ⟨pn, 3, none⟩ = some (.int .i64 db) ∧ W.cell? ⟨pn, 4, none⟩ = some (.int .i64 dc)) ∧ (W.cell? ⟨w.heap.size, 0, none⟩ = some (.int .i64 da) ∧ W.cell? ⟨w.heap.size, 1, none⟩ = some (.bool true) ∧ W.cell? ⟨w.heap.size, 2, none⟩ = some (.int .u64 dn))) (go_keep)
        (first
          | (go_at_call 33; refine (HSE.out _).mono ?_; rintro e w4 ⟨rfl, hb4⟩; have hb4' := (Below.refl _ w3).drew.trans (hb4.mono (Nat.le_refl _)); obtain ⟨⟨e0, e1, e2, e3, e4⟩, ⟨f0, f1, f2⟩⟩ := HCE.out w4 hb4'))
      have HC4 := Lib.hid (HC3.out.keep hb4')
      have HB4 := Lib.hid (HB3.out.trans (hb4'.mono HB3.out.size))
      have HN4 := Lib.hid (HN3.out.keep hb4')
      have l1 := lt_of_heap HC4.out.rs
      have l2 := lt_of_heap HN4.out
      clear hb4 hb4' HSE
      obtain ⟨z0, z1, z2⟩ := cf_cells HC4.out.rs
      have zf : ∀ j, w4.frozen? ⟨w.heap.size + 1, j, none⟩ = false := fun j => frozen_of_row _ _ _ _ _ HC4.out.rs
      obtain ⟨o2, o3, o4⟩ := HYES.out (by unfold opB; simp)
      have HP := Lib.hid (fun w' hb => openPost_of (w := w) (w' := w') o3 o2 o4 hb)
      clear o2 o3 o4
      have hne : pn ≠ w.heap.size + 1 := by omega
      have hne2 : w.heap.size + 1 ≠ pn := by omega
      generalize hnx : nxt ⟨da, true, dn⟩ = c' at *
      obtain ⟨ck', ch', cn'⟩ := c'
      go_wp2_with fail
      refine wp_region_noPanic ?_
      refine wp_region_held_drew (S := (fun W => W.cell? ⟨pn, 4, none⟩ = some (.int .i64 dc) ∧ W.cell? ⟨w.heap.size, 0, none⟩ = some (.int .i64 da) ∧ W.cell? ⟨w.heap.size, 1, none⟩ = some (.bool true) ∧ W.cell? ⟨w.heap.size, 2, none⟩ = some (.int .u64 dn))) (by kernel_rfl) ?_ (fun hHeld => ?_)
      · ((try dsimp only); first | (go_simp; done) | (simp [*]; done))
      refine wpAnyH_take (i := 0) (v := ?_) rfl (by kernel_rfl) (by kernel_rfl) (by kernel_rfl) (fun _ _ _ h => h) (Or.inl ⟨by rfl, ?_⟩) (by assumption) ?_
      rotate_left
      · (intro w hSw; (try dsimp only at hSw); go_simp; try with_reducible rfl)
      try simp only [List.getElem_toArray, List.getElem_cons_zero, Act.put, List.setIfInBounds_toArray, List.set_cons_zero, List.set_cons_succ]
      refine wpAnyH_take (i := 2) (v := ?_) rfl (by kernel_rfl) (by kernel_rfl) (by kernel_rfl) (fun _ _ _ h => h) (Or.inl ⟨by rfl, ?_⟩) (by assumption) ?_
      rotate_left
      · (intro w hSw; (try dsimp only at hSw); go_simp; try with_reducible rfl)
      try simp only [List.getElem_toArray, List.getElem_cons_succ, List.getElem_cons_zero, Act.put, List.setIfInBounds_toArray, List.set_cons_zero, List.set_cons_succ]
      refine wpAnyH_take (i := 3) (v := ?_) rfl (by kernel_rfl) (by kernel_rfl) (by kernel_rfl) (fun _ _ _ h => h) (Or.inl ⟨by rfl, ?_⟩) (by assumption) ?_
      rotate_left
      · (intro w hSw; (try dsimp only at hSw); go_simp; try with_reducible rfl)
      try simp only [List.getElem_toArray, List.getElem_cons_succ, List.getElem_cons_zero, Act.put, List.setIfInBounds_toArray, List.set_cons_zero, List.set_cons_succ]
      refine wpAnyH_ready (rs := [1]) (by kernel_rfl) (by simp) ?_
      refine AllReadyH.cons rfl (fun K hK => ?_) AllReadyH.nil
      go_simp
      (go_at_call 34; refine (HNX.out _).mono ?_; rintro e w5 ⟨rfl, hb5⟩; have hb5' := (Below.refl _ w4).drew.trans (hb5.mono (Nat.le_refl _)); have HB5 := Lib.hid (HB4.out.trans (hb5'.mono HB4.out.size)); have HC5 := Lib.hid (HC4.out.keep hb5'); have HN5 := Lib.hid (HN4.out.keep hb5'); clear hb5 hb5'; obtain ⟨y0, y1, y2⟩ := cf_cells HC5.out.rs; obtain ⟨x0, x1, x2⟩ := cf_cells HC5.out.bx; obtain ⟨g0, g1, g2, g3, g4⟩ := nb_cells HN5.out; have l3 := lt_of_heap HC5.out.rs; have l4 := lt_of_heap HN5.out; have zg : ∀ j, w5.frozen? ⟨w.heap.size + 1, j, none⟩ = false := fun j => frozen_of_row _ _ _ _ _ HC5.out.rs; have zh := zg 0)
      go_wp2_with fail
      refine hK.out _ _ ?_ (fun hHeld => ?_)
      · ((try dsimp only); first | (go_simp; done) | (simp [*]; done))
      clear hK K
      try simp only [List.getElem_toArray, List.getElem_cons_succ, List.getElem_cons_zero, Act.put, List.setIfInBounds_toArray, List.set_cons_zero, List.set_cons_succ]
      refine wpAnyH_ready (rs := [4]) (by kernel_rfl) (by simp) ?_
      refine AllReadyH.cons rfl (fun K hK => ?_) AllReadyH.nil
      go_simp
      refine hK.out _ _ ?_ (fun hHeld => ?_)
      · ((try dsimp only); first | (go_simp; done) | (simp [*]; done))
      clear hK K
      try simp only [List.getElem_toArray, List.getElem_cons_succ, List.getElem_cons_zero, Act.put, List.setIfInBounds_toArray, List.set_cons_zero, List.set_cons_succ]
      refine wpAnyH_take (i := 5) (v := ?_) rfl (by kernel_rfl) (by kernel_rfl) (by kernel_rfl) (fun _ _ _ h => h) (Or.inl ⟨by rfl, ?_⟩) (by assumption) ?_
      rotate_left
      · (intro w hSw; (try dsimp only at hSw); go_simp; try with_reducible rfl)
      try simp only [List.getElem_toArray, List.getElem_cons_succ, List.getElem_cons_zero, Act.put, List.setIfInBounds_toArray, List.set_cons_zero, List.set_cons_succ]
      refine wpAnyH_take (i := 6) (v := ?_) rfl (by kernel_rfl) (by kernel_rfl) (by kernel_rfl) (fun _ _ _ h => h) (Or.inl ⟨by rfl, ?_⟩) (by assumption) ?_
      rotate_left
      · (intro w hSw; (try dsimp only at hSw); go_simp; try with_reducible rfl)
      try simp only [List.getElem_toArray, List.getElem_cons_succ, List.getElem_cons_zero, Act.put, List.setIfInBounds_toArray, List.set_cons_zero, List.set_cons_succ]
      refine wpAnyH_done (by kernel_rfl) ?_ _
      refine NoPanic.normal ?_
      go_wp2_with fail
      refine bodyPost_ret (v := .tuple #[.agg #[.int .i64 ck', .bool ch', .int .u64 cn'], .int .i64 dc, .int .i64 0]) (by simp [results, Tryd.results28, go_sem, y0, y1, y2]) rfl ?_
      exact HP.out _ (((HB5.out.setCell (Nat.le_succ _) _).setCell (Nat.le_succ _) _).setCell (Nat.le_succ _) _)
end Go.Proofs.YtgjhhipkfglpgaaDoor
