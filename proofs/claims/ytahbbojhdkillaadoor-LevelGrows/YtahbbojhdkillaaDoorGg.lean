/- Layer 9: the walk of Table. -/
import Derived.Test.YtahbbojhdkillaaDoorGf
import Derived.Test.YtahbbojhdkillaaDoorCm
import Derived.OwnWalk
import Derived.Deep.MidRow
namespace Go.Proofs.YtahbbojhdkillaaDoor
open Go.RowKit Go.Shelf

/-- What is read of package variables. -/
structure Ew (w : World) : Prop where
  ev : Ev w
  pf : Pf w
theorem Ew.keep {w w' : World} (h : Ew w) (hb : Below w.heap.size w w') : Ew w' := ⟨h.ev.keep hb, h.pf.keep hb⟩
theorem Tryd.infoLv : (Tryd.prog.info? 37).map (fun i => (i.zero, i.size, i.bytes)) = some (some (.agg #[.int .i64 0, .int .i64 0]), 2, 16) := by kernel_rfl
/-- A table's cells. -/
def lvC (p : Pt) (k : Nat) : List Value := [.int .i64 (lvl p k).1, .int .i64 (lvl p k).2]
def lvL (p : Pt) (n : Nat) : List Value := (List.range n).flatMap (lvC p)
theorem lvL_succ (p : Pt) (n : Nat) : lvL p (n + 1) = lvL p n ++ lvC p n := by
  unfold lvL; rw [List.range_succ, List.flatMap_append]; simp
theorem lvL_len (p : Pt) : ∀ n, (lvL p n).length = n * 2
  | 0 => rfl
  | n + 1 => by rw [lvL_succ, List.length_append, lvL_len p n]; simp [lvC]; omega
theorem lvL_at (p : Pt) : ∀ n k, k < n → (lvL p n)[2 * k]? = some (.int .i64 (lvl p k).1) ∧ (lvL p n)[2 * k + 1]? = some (.int .i64 (lvl p k).2)
  | 0, k, h => absurd h (by omega)
  | n + 1, k, h => by
    rw [lvL_succ]
    have hl := lvL_len p n
    by_cases e : k = n
    · subst e
      rw [List.getElem?_append_right (by omega), List.getElem?_append_right (by omega)]
      rw [show 2 * k - (lvL p k).length = 0 by omega, show 2 * k + 1 - (lvL p k).length = 1 by omega]
      exact ⟨rfl, rfl⟩
    · rw [List.getElem?_append_left (by omega), List.getElem?_append_left (by omega)]
      exact lvL_at p n k (by omega)
/-- A table in memory. -/
def LvR (w : World) (s : Option Addr) (n : Nat) (p : Pt) : Prop := 0 < n → ∃ g, s = some ⟨g, 0, none⟩ ∧ ∀ k, k < n → w.cell? ⟨g, k * 2, none⟩ = some (.int .i64 (lvl p k).1) ∧ w.cell? ⟨g, k * 2 + 1, none⟩ = some (.int .i64 (lvl p k).2)
theorem LvR.keep {w w' : World} {s : Option Addr} {n : Nat} {p : Pt} (h : LvR w s n p) (hb : Below w.heap.size w w') : LvR w' s n p := fun h0 => by
  obtain ⟨g, e, h1⟩ := h h0
  refine ⟨g, e, fun k hk => ?_⟩
  obtain ⟨a, b⟩ := h1 k hk
  exact ⟨by rw [hb.cell (p := ⟨g, k * 2, none⟩) (World.block_lt_of_cell? _ _ a)]; exact a, by rw [hb.cell (p := ⟨g, k * 2 + 1, none⟩) (World.block_lt_of_cell? _ _ b)]; exact b⟩

theorem tro_store {w : World} {b : Nat} {t : Tr} (h : w.heap[b]? = some (TrO t)) (t' : Tr) : (((((((((((w.setCell ⟨b, 0, none⟩ (.bool (t'.f 0))).setCell ⟨b, 1, none⟩ (.bool (t'.f 1))).setCell ⟨b, 2, none⟩ (.bool (t'.f 2))).setCell ⟨b, 3, none⟩ (.bool (t'.f 3))).setCell ⟨b, 4, none⟩ (.bool (t'.f 4))).setCell ⟨b, 5, none⟩ (.bool (t'.f 5))).setCell ⟨b, 6, none⟩ (.bool (t'.f 6))).setCell ⟨b, 7, none⟩ (.bool (t'.f 7))).setCell ⟨b, 8, none⟩ (.int .i64 t'.a)).setCell ⟨b, 9, none⟩ (.int .i64 t'.b))).heap[b]? = some (TrO t') := by
  have k : ∀ (w : World) (cs : Array Value) (i : Nat) (v : Value), w.heap[b]? = some (.cells cs 54 (0, 0)) → (w.setCell ⟨b, i, none⟩ v).heap[b]? = some (.cells (cs.set! i v) 54 (0, 0)) := by
    intro w cs i v h
    simp only [World.setCell, Array.getElem?_modify, if_true, h]
    rfl
  unfold TrO at h
  have h0 := k _ _ 0 (.bool (t'.f 0)) h
  have h1 := k _ _ 1 (.bool (t'.f 1)) h0
  have h2 := k _ _ 2 (.bool (t'.f 2)) h1
  have h3 := k _ _ 3 (.bool (t'.f 3)) h2
  have h4 := k _ _ 4 (.bool (t'.f 4)) h3
  have h5 := k _ _ 5 (.bool (t'.f 5)) h4
  have h6 := k _ _ 6 (.bool (t'.f 6)) h5
  have h7 := k _ _ 7 (.bool (t'.f 7)) h6
  have h8 := k _ _ 8 (.int .i64 t'.a) h7
  have h9 := k _ _ 9 (.int .i64 t'.b) h8
  have e : ((((((((((trA t).set! 0 (.bool (t'.f 0))).set! 1 (.bool (t'.f 1))).set! 2 (.bool (t'.f 2))).set! 3 (.bool (t'.f 3))).set! 4 (.bool (t'.f 4))).set! 5 (.bool (t'.f 5))).set! 6 (.bool (t'.f 6))).set! 7 (.bool (t'.f 7))).set! 8 (.int .i64 t'.a)).set! 9 (.int .i64 t'.b) = trA t' := by kernel_rfl
  rw [e] at h9
  exact h9
theorem set10_below {B b : Nat} {w0 w : World} (h : Below B w0 w) (hb : B ≤ b) (t' : Tr) : Below B w0 (((((((((((w.setCell ⟨b, 0, none⟩ (.bool (t'.f 0))).setCell ⟨b, 1, none⟩ (.bool (t'.f 1))).setCell ⟨b, 2, none⟩ (.bool (t'.f 2))).setCell ⟨b, 3, none⟩ (.bool (t'.f 3))).setCell ⟨b, 4, none⟩ (.bool (t'.f 4))).setCell ⟨b, 5, none⟩ (.bool (t'.f 5))).setCell ⟨b, 6, none⟩ (.bool (t'.f 6))).setCell ⟨b, 7, none⟩ (.bool (t'.f 7))).setCell ⟨b, 8, none⟩ (.int .i64 t'.a)).setCell ⟨b, 9, none⟩ (.int .i64 t'.b))) :=
  (((((((((h.setCell hb _).setCell hb _).setCell hb _).setCell hb _).setCell hb _).setCell hb _).setCell hb _).setCell hb _).setCell hb _).setCell hb _
theorem set10_own {w : World} {B b : Nat} {T : TypeId} {z n : Nat} {v : Value} {xs : List Value} (h : w.ownsRow B T z v n xs) (hb : b < B) (t' : Tr) : (((((((((((w.setCell ⟨b, 0, none⟩ (.bool (t'.f 0))).setCell ⟨b, 1, none⟩ (.bool (t'.f 1))).setCell ⟨b, 2, none⟩ (.bool (t'.f 2))).setCell ⟨b, 3, none⟩ (.bool (t'.f 3))).setCell ⟨b, 4, none⟩ (.bool (t'.f 4))).setCell ⟨b, 5, none⟩ (.bool (t'.f 5))).setCell ⟨b, 6, none⟩ (.bool (t'.f 6))).setCell ⟨b, 7, none⟩ (.bool (t'.f 7))).setCell ⟨b, 8, none⟩ (.int .i64 t'.a)).setCell ⟨b, 9, none⟩ (.int .i64 t'.b))).ownsRow B T z v n xs :=
  own_set (own_set (own_set (own_set (own_set (own_set (own_set (own_set (own_set (own_set h hb _) hb _) hb _) hb _) hb _) hb _) hb _) hb _) hb _) hb _
theorem set10_block {w : World} {b k : Nat} {o : Obj} (h : w.heap[k]? = some o) (hk : k ≠ b) (t' : Tr) : (((((((((((w.setCell ⟨b, 0, none⟩ (.bool (t'.f 0))).setCell ⟨b, 1, none⟩ (.bool (t'.f 1))).setCell ⟨b, 2, none⟩ (.bool (t'.f 2))).setCell ⟨b, 3, none⟩ (.bool (t'.f 3))).setCell ⟨b, 4, none⟩ (.bool (t'.f 4))).setCell ⟨b, 5, none⟩ (.bool (t'.f 5))).setCell ⟨b, 6, none⟩ (.bool (t'.f 6))).setCell ⟨b, 7, none⟩ (.bool (t'.f 7))).setCell ⟨b, 8, none⟩ (.int .i64 t'.a)).setCell ⟨b, 9, none⟩ (.int .i64 t'.b))).heap[k]? = some o := by
  have e : ∀ (w : World) (i : Nat) (v : Value), (w.setCell ⟨b, i, none⟩ v).heap[k]? = w.heap[k]? := fun w i v => Below.heap_setCell _ _ _ _ hk
  rw [e, e, e, e, e, e, e, e, e, e]; exact h
theorem row2_cell {w : World} {B : Nat} {t : TypeId} {g n c z : Nat} {xs : List Value} (h : w.ownsRow B t z (.slice (some ⟨g, 0, none⟩) n c) n xs) {j : Nat} {v : Value} (hj : xs[j]? = some v) : w.cell? ⟨g, j, none⟩ = some v := by
  obtain ⟨hl, ⟨e, h0⟩ | ⟨g', cap, cur, e, _, hg, _, _, _, ht⟩⟩ := h
  · rw [h0, Nat.zero_mul] at hl
    rw [List.length_eq_zero_iff.1 hl] at hj
    simp at hj
  · have es : g = g' := by
      have := (Value.slice.inj e).1
      simpa using this
    subst es
    rw [cell_of_row w g j _ _ _ hg]
    rw [← ht] at hj
    rw [List.getElem?_take] at hj
    split at hj
    · rwa [Array.getElem?_toList] at hj
    · cases hj
/-- While a table is made. -/
structure Tq (w : World) (x : Sl) (p : Pt) (m T i : Nat) (t : Tr) (wr : World) : Prop where
  bx : Bx w w.heap.size x p wr
  tb : wr.heap[T]? = some (TrO t)
  own : wr.ownsRow (T + 1) 37 2 (.slice (some ⟨T + 1, 0, none⟩) i m) i (lvL p i)
theorem Tq.keep {w : World} {x : Sl} {p : Pt} {m T i : Nat} {t : Tr} {wr wx : World} (h : Tq w x p m T i t wr) (hb : Below wr.heap.size wr wx) : Tq w x p m T i t wx :=
  ⟨h.bx.keep hb, (hb.block _ (lt_of_heap h.tb)).trans h.tb, row_below h.own hb⟩
theorem Tq.store {w : World} {x : Sl} {p : Pt} {m T i : Nat} {t : Tr} {w' : World} (h : Tq w x p m T i t w') (hT : w.heap.size < T) (t' : Tr) : Tq w x p m T i t' (w'.setCells T 0 (trA t').toList) :=
  ⟨⟨set10_block h.bx.bx (by omega) t', set10_below h.bx.bel (by omega) t'⟩, tro_store h.tb t', set10_own h.own (by omega) t'⟩
theorem Tq.there {w : World} {x : Sl} {p : Pt} {m T i : Nat} {t : Tr} {w' : World} (h : Tq w x p m T i t w') : w'.there T 0 10 := fun j hj => by
  rw [Nat.zero_add]
  refine ⟨?_, frozen_of_row _ _ _ _ _ h.tb⟩
  rw [cell_of_row w' T j _ _ _ h.tb, Array.getElem?_eq_getElem (show j < (trA t).size from hj)]
  rfl
theorem infoTr (t : Tr) : (Tryd.prog.info? 54).map (·.size) = some (trA t).size := by
  show _ = some 10
  kernel_rfl
theorem oneTr (t : Tr) : (trA t).all (·.oneCell') = true := by simp [trA, Value.oneCell']

set_option maxRecDepth 100000 in
set_option maxHeartbeats 1000000 in
theorem table_no (x : Sl) (p : Pt) (many : Int) (h : many < 0 ∨ 100 < many) (w : World) : Calls Tryd.prog 13 #[patV x p, .int .i64 many] w fun e w' => e = .returned (.tuple #[.slice none 0 0, .int .i64 1]) ∧ Below w.heap.size w w' := by
  unfold patV
  by_cases h0 : many < 0
  · clear h
    go_enter Tryd.func13, Tryd.ntmps13
    go_wp2_with fail
    go_ret2
    exact ⟨rfl, (Below.refl _ _).alloc (Nat.le_refl _) _⟩
  · have h1 : 100 < many := by omega
    clear h
    go_enter Tryd.func13, Tryd.ntmps13
    go_wp2_with fail
    go_ret2
    exact ⟨rfl, (Below.refl _ _).alloc (Nat.le_refl _) _⟩

set_option maxRecDepth 100000 in
set_option maxHeartbeats 1000000 in
theorem table_bad (x : Sl) (p : Pt) (many : Int) (h0 : ¬ many < 0) (h1 : ¬ 100 < many) (he : ¬ ckE p = 0) (w : World) (hp : PatA w x p) (hE : Ew w) : Calls Tryd.prog 13 #[patV x p, .int .i64 many] w fun e w' => e = .returned (.tuple #[.slice none 0 0, .int .i64 (ckE p)]) ∧ Below w.heap.size w w' := by
  have HX := Lib.hid (bx_new w x p)
  have HC := Lib.hid (fun wx (hb : Below w.heap.size w wx) => check_any x p wx (hp.keep hb) (hE.ev.ky.keep hb))
  have heb : (ckE p != 0) = true := by simpa using he
  generalize ckR p = r0 at HC
  generalize ckI p = r1 at HC
  generalize ckE p = r2 at HC heb ⊢
  clear hp hE he
  unfold patV at HC ⊢
  go_enter Tryd.func13, Tryd.ntmps13
  go_wp2_with (go_at_call 25; refine (HC.out _ HX.out.bel).mono ?_; rintro e w1 ⟨rfl, hb1⟩; have HX1 := Lib.hid (HX.out.keep hb1); clear hb1)
  go_ret2
  exact ⟨rfl, HX1.out.bel⟩

set_option maxRecDepth 100000 in
set_option maxHeartbeats 4000000 in
theorem table_ok (x : Sl) (p : Pt) (m : Nat) (hm : m ≤ 100) (he : ckE p = 0) (w : World) (hp : PatA w x p) (hE : Ew w) : Calls Tryd.prog 13 #[patV x p, .int .i64 m] w fun e w' => ∃ s c, e = .returned (.tuple #[.slice s m c, .int .i64 0]) ∧ LvR w' s m p ∧ Below w.heap.size w w' := by
  obtain ⟨i0, hi0, hz0, hz1, hz2⟩ := info_parts Tryd.infoLv
  have HX := Lib.hid (bx_new w x p)
  have HC := Lib.hid (fun wx (hb : Below w.heap.size w wx) => check_any x p wx (hp.keep hb) (hE.ev.ky.keep hb))
  have HSD := Lib.hid (fun i wx (hb : Below w.heap.size w wx) => sender_any x p i he wx (hp.keep hb))
  have HMX := Lib.hid (fun t s c l hl wx (hi : IntsV wx s l) => mix_any t s c l hl wx hi)
  have HOF := Lib.hid (fun t r wx (hb : Below w.heap.size w wx) => of9_any t r wx (hE.pf.keep hb))
  have HSN := Lib.hid (fun t r wx (hb : Below w.heap.size w wx) => sent_any t r wx (hE.pf.keep hb))
  rw [he] at HC
  generalize ckR p = r0 at HC
  generalize ckI p = r1 at HC
  have HBD := Lib.hid (right_bd (ck_ok he).1)
  have HP := Lib.hid hp
  have hm0 : ¬ (m : Int) < 0 := by omega
  have hm1 : ¬ 100 < (m : Int) := by omega
  clear hp hE he
  obtain ⟨s0, c0, s1, c1, s2, c2⟩ := x
  unfold patV at HC HSD ⊢
  simp only at HC HSD ⊢
  go_enter Tryd.func13, Tryd.ntmps13
  go_wp2_with (first
    | (go_at_call 25; refine (HC.out _ HX.out.bel).mono ?_; rintro e w1 ⟨rfl, hb1⟩; have HX1 := Lib.hid (HX.out.keep hb1); clear hb1; have hs1 := HX1.out.bel.size)
    | (at_make; refine wpList_make_own _ rfl _ _ 33 rfl (w1.heap.size + 1) 37 i0 _ 2 Tryd.underlying33 hi0 hz0 hz1 .i64 .i64 m m rfl rfl rfl (by rw [hz2]; omega) (by simp [maxLen]; omega) (by simp) ?_; intro w2 hown2 hgr2; have HO2 := Lib.hid hown2; have HG2 := Lib.hid hgr2; clear hown2 hgr2))
  have HT : Hid (w.heap.size < w1.heap.size) := Lib.hid (lt_of_heap HX1.out.bx)
  have HQ2 : Hid (Tq w ⟨s0, c0, s1, c1, s2, c2⟩ p m w1.heap.size 0 (trk p 0) w2) := Lib.hid (by
    have hn := heap_alloc_new w1 (TrO (trk p 0))
    have hb1 : Below w1.heap.size w1 (w1.alloc (.cells (trA (trk p 0)) 54)) := (Below.refl _ _).alloc (Nat.le_refl _) _
    have hb2 := (Below.refl _ _).grown HG2.out (Nat.le_refl _) (fun k e => by cases e)
    refine ⟨(HX1.out.keep hb1).keep hb2, ?_, ?_⟩
    · exact (hb2.block _ (by simp)).trans (heap_alloc_new w1 _)
    · have h := HO2.out
      simp only [World.size_alloc] at h
      exact h)
  clear HO2 HG2 hs1
  generalize w1.heap.size = T at *
  go_loopg [10, 11, 12, 31] m (fun q u10 _ _ u31 wr => ∃ i : Nat, i + q = m ∧ u10 = .slice (some ⟨T + 1, 0, none⟩) i m ∧ u31 = .int .i64 i ∧ Aside (Tq w ⟨s0, c0, s1, c1, s2, c2⟩ p m T i (trk p i) wr))
  case atStart => exact ⟨0, by omega, by go_simp, rfl, HQ2.out⟩
  case round =>
    obtain ⟨i, hiq, rfl, rfl, hq⟩ := hrel
    have HR := Lib.hid hq.out; clear hq
    by_cases hlt : i < m
    · have hi2 : (i : Int) < m := by omega
      have HLV := Lib.hid (HOF.out ((trk p i).mix (toks p i)) (sdr p i))
      have HSN := Lib.hid (HSN.out ((trk p i).mix (toks p i)) (sdr p i))
      obtain ⟨va, hva⟩ : ∃ v, v = (lvl p i).1 := ⟨_, rfl⟩
      obtain ⟨vc, hvc⟩ : ∃ v, v = (lvl p i).2 := ⟨_, rfl⟩
      have HLC : Hid (lvC p i = [.int .i64 va, .int .i64 vc]) := Lib.hid (by rw [hva, hvc]; rfl)
      have hlv : lvV (((trk p i).mix (toks p i)).lv (sdr p i)) = .agg #[.int .i64 va, .int .i64 vc] := by rw [hva, hvc]; rfl
      rw [hlv] at HLV
      obtain ⟨t2, ht2⟩ : ∃ t, t = ((trk p i).mix (toks p i)).sent (sdr p i) := ⟨_, rfl⟩
      have HNX : Hid (trk p (i + 1) = t2) := Lib.hid (by rw [ht2]; rfl)
      rw [← ht2] at HSN
      obtain ⟨t1, ht1⟩ : ∃ t, t = (trk p i).mix (toks p i) := ⟨_, rfl⟩
      rw [← ht1] at HLV HSN
      have HT1 := Lib.hid ht1
      clear hva hvc hlv ht2 ht1
      obtain ⟨t0, ht0⟩ : ∃ t, t = trk p i := ⟨_, rfl⟩
      rw [← ht0] at HR HT1
      have HS := Lib.hid (fun wx hb => HSD.out i wx hb)
      clear ht0
      generalize sdr p i = r at HLV HSN HS
      unfold trV trA at HLV HSN
      by_cases hlm : i < p.ms.length
      · have hi3 : (i : Int) < p.ms.length := by omega
        obtain ⟨g, o, es, hms⟩ := (HP.out.keep HR.out.bx.bel).im (by omega)
        simp only at es
        subst es
        obtain ⟨-, sx, cx, m1, mi⟩ := hms i hlm
        have htk : toks p i = (p.ms.getD i default).t := by unfold toks; rw [if_pos hlm]
        rw [htk] at HT1
        have HM := Lib.hid (HMX.out t0 sx cx _ ((HBD.out).2.2.2.1 i hlm) _ (mi.keep (Below.refl _ _).drew))
        rw [← HT1.out] at HM
        obtain ⟨n, hn⟩ : ∃ n, n = (p.ms.getD i default).t.length := ⟨_, rfl⟩
        rw [← hn] at HM m1
        have HM1 := Lib.hid m1
        clear hms mi htk hn hlm
        unfold trV trA at HM
        obtain ⟨b0, b1, b2, b3⟩ := HR.out.bx.cells; have bl := lt_of_heap HR.out.bx.bx
        obtain ⟨d0, d1, d2, d3, d4, d5, d6, d7, d8, d9⟩ := TrC.of HR.out.tb; have dl := lt_of_heap HR.out.tb
        have lg := World.block_lt_of_cell? _ _ m1
        simp only at lg
        have z : ∀ j, wr.frozen? ⟨T, j, none⟩ = false := fun j => frozen_of_row _ _ _ _ _ HR.out.tb
        go_wp2_with fail
        go_still_tail 7, (by kernel_rfl)
        change wpList _ _ _ _ _ wr.drew
        clear b0 b1 b2 b3 bl
        clear d0 d1 d2 d3 d4 d5 d6 d7 d8 d9 dl
        clear z m1 lg
        have HR3 := Lib.hid (HR.out.keep (Below.refl _ _).drew)
        generalize wr.drew = w3 at *
        go_wp2_with fail
        go_at_call 21
        refine HM.out.mono ?_
        rintro e w4 ⟨rfl, hb4⟩
        have HR4 := Lib.hid (HR3.out.keep hb4)
        clear hb4
        go_wp2_with (refine wpList_store_mid rfl 54 _ _ rfl T 0 (trA t1) rfl rfl HR4.out.there (infoTr t1) (oneTr t1) ?_; have HRS := Lib.hid (HR4.out.store HT.out t1); generalize World.setCells _ _ _ _ = W5 at *; obtain ⟨b0, b1, b2, b3⟩ := HRS.out.bx.cells; have bl := lt_of_heap HRS.out.bx.bx; obtain ⟨d0, d1, d2, d3, d4, d5, d6, d7, d8, d9⟩ := TrC.of HRS.out.tb; have dl := lt_of_heap HRS.out.tb)
        go_at_call 26
        refine (HS.out _ HRS.out.bx.bel).mono ?_
        rintro e w5 ⟨rfl, hb5⟩
        have HR5 := Lib.hid (HRS.out.keep hb5)
        clear hb5
        clear b0 b1 b2 b3 bl
        clear d0 d1 d2 d3 d4 d5 d6 d7 d8 d9 dl
        obtain ⟨d0, d1, d2, d3, d4, d5, d6, d7, d8, d9⟩ := TrC.of HR5.out.tb; have dl := lt_of_heap HR5.out.tb
        go_wp2_with fail
        go_at_call 20
        refine (HLV.out _ HR5.out.bx.bel).mono ?_
        rintro e w6 ⟨rfl, hb6⟩
        have HR6 := Lib.hid (HR5.out.keep hb6)
        clear hb6
        clear d0 d1 d2 d3 d4 d5 d6 d7 d8 d9 dl
        have HA := Lib.hid (HR6.out.keep ((Below.refl _ _).alloc (Nat.le_refl _) (.cells #[.int .i64 va, .int .i64 vc] 37)))
        go_wp2_with (at_builtin; refine wpList_append_fits _ rfl _ _ 33 rfl (T + 1) 37 i0 2 Tryd.underlying33 hi0 hz1 (T + 1) i m (lvL p i) rfl HA.out.own ⟨w6.heap.size, 0, none⟩ 1 1 [.int .i64 va, .int .i64 vc] rfl rfl ?c1 ?c2 (by omega) ?_)
        case c1 =>
          intro j u hj
          match j, hj with
          | 0, hj => simp at hj; subst hj; simp [Addr.add]
          | 1, hj => simp at hj; subst hj; simp [Addr.add]
        case c2 => intro u hu; simp at hu; rcases hu with rfl | rfl <;> rfl
        intro w7 hown7 hgr7
        have HR7 : Hid (Tq w ⟨s0, c0, s1, c1, some ⟨g, o, none⟩, c2⟩ p m T (i + 1) t1 w7) := Lib.hid (by
          refine ⟨⟨gw_block hgr7 HA.out.bx.bx (by have := HT.out; omega), below_gw HA.out.bx.bel hgr7 (by have := HT.out; omega)⟩, gw_block hgr7 HA.out.tb (by omega), ?_⟩
          have h := hown7
          rw [← HLC.out, ← lvL_succ] at h
          exact h)
        clear hown7 hgr7
        obtain ⟨d0, d1, d2, d3, d4, d5, d6, d7, d8, d9⟩ := TrC.of HR7.out.tb; have dl := lt_of_heap HR7.out.tb
        go_wp2_with fail
        go_at_call 22
        refine (HSN.out _ HR7.out.bx.bel).mono ?_
        rintro e w8 ⟨rfl, hb8⟩
        have HR8 := Lib.hid (HR7.out.keep hb8)
        clear hb8
        clear d0 d1 d2 d3 d4 d5 d6 d7 d8 d9 dl
        go_wp2_with (refine wpList_store_mid rfl 54 _ _ rfl T 0 (trA t2) rfl rfl HR8.out.there (infoTr t2) (oneTr t2) ?_; have HR9 := Lib.hid (HR8.out.store HT.out t2); generalize World.setCells _ _ _ _ = W9 at *)
        go_roundg (m - (i + 1))
        case measure => omega
        case rel => exact ⟨i + 1, by omega, by go_num, by go_num, (show Aside _ from by rw [HNX.out]; exact HR9.out)⟩
      · have hi3 : ¬ (i : Int) < p.ms.length := by omega
        have HRS : Hid (Tq w ⟨s0, c0, s1, c1, s2, c2⟩ p m T i t1 wr) := Lib.hid (by
          have e : t1 = t0 := by
            rw [HT1.out]
            have htk : toks p i = [] := by unfold toks; rw [if_neg hlm]
            rw [htk]; unfold Tr.mix; rw [mix_nil]
          rw [e]; exact HR.out)
        clear hlm
        obtain ⟨b0, b1, b2, b3⟩ := HRS.out.bx.cells; have bl := lt_of_heap HRS.out.bx.bx
        obtain ⟨d0, d1, d2, d3, d4, d5, d6, d7, d8, d9⟩ := TrC.of HRS.out.tb; have dl := lt_of_heap HRS.out.tb
        go_wp2_with fail
        go_at_call 26
        refine (HS.out _ HRS.out.bx.bel).mono ?_
        rintro e w5 ⟨rfl, hb5⟩
        have HR5 := Lib.hid (HRS.out.keep hb5)
        clear hb5
        clear b0 b1 b2 b3 bl
        clear d0 d1 d2 d3 d4 d5 d6 d7 d8 d9 dl
        obtain ⟨d0, d1, d2, d3, d4, d5, d6, d7, d8, d9⟩ := TrC.of HR5.out.tb; have dl := lt_of_heap HR5.out.tb
        go_wp2_with fail
        go_at_call 20
        refine (HLV.out _ HR5.out.bx.bel).mono ?_
        rintro e w6 ⟨rfl, hb6⟩
        have HR6 := Lib.hid (HR5.out.keep hb6)
        clear hb6
        clear d0 d1 d2 d3 d4 d5 d6 d7 d8 d9 dl
        have HA := Lib.hid (HR6.out.keep ((Below.refl _ _).alloc (Nat.le_refl _) (.cells #[.int .i64 va, .int .i64 vc] 37)))
        go_wp2_with (at_builtin; refine wpList_append_fits _ rfl _ _ 33 rfl (T + 1) 37 i0 2 Tryd.underlying33 hi0 hz1 (T + 1) i m (lvL p i) rfl HA.out.own ⟨w6.heap.size, 0, none⟩ 1 1 [.int .i64 va, .int .i64 vc] rfl rfl ?c1 ?c2 (by omega) ?_)
        case c1 =>
          intro j u hj
          match j, hj with
          | 0, hj => simp at hj; subst hj; simp [Addr.add]
          | 1, hj => simp at hj; subst hj; simp [Addr.add]
        case c2 => intro u hu; simp at hu; rcases hu with rfl | rfl <;> rfl
        intro w7 hown7 hgr7
        have HR7 : Hid (Tq w ⟨s0, c0, s1, c1, s2, c2⟩ p m T (i + 1) t1 w7) := Lib.hid (by
          refine ⟨⟨gw_block hgr7 HA.out.bx.bx (by have := HT.out; omega), below_gw HA.out.bx.bel hgr7 (by have := HT.out; omega)⟩, gw_block hgr7 HA.out.tb (by omega), ?_⟩
          have h := hown7
          rw [← HLC.out, ← lvL_succ] at h
          exact h)
        clear hown7 hgr7
        obtain ⟨d0, d1, d2, d3, d4, d5, d6, d7, d8, d9⟩ := TrC.of HR7.out.tb; have dl := lt_of_heap HR7.out.tb
        go_wp2_with fail
        go_at_call 22
        refine (HSN.out _ HR7.out.bx.bel).mono ?_
        rintro e w8 ⟨rfl, hb8⟩
        have HR8 := Lib.hid (HR7.out.keep hb8)
        clear hb8
        clear d0 d1 d2 d3 d4 d5 d6 d7 d8 d9 dl
        go_wp2_with (refine wpList_store_mid rfl 54 _ _ rfl T 0 (trA t2) rfl rfl HR8.out.there (infoTr t2) (oneTr t2) ?_; have HR9 := Lib.hid (HR8.out.store HT.out t2); generalize World.setCells _ _ _ _ = W9 at *)
        go_roundg (m - (i + 1))
        case measure => omega
        case rel => exact ⟨i + 1, by omega, by go_num, by go_num, (show Aside _ from by rw [HNX.out]; exact HR9.out)⟩
    · have hi2 : ¬ (i : Int) < m := by omega
      obtain rfl : i = m := by omega
      have HRR := Lib.hid HR.out.own
      go_wp2_with fail
      go_ret2
      refine ⟨_, ⟨_, rfl⟩, ?_, HR.out.bx.bel⟩
      intro h0
      refine ⟨T + 1, rfl, fun k hk => ?_⟩
      obtain ⟨a, b⟩ := lvL_at p i k hk
      exact ⟨row2_cell HRR.out (by rw [Nat.mul_comm]; exact a), row2_cell HRR.out (by rw [Nat.mul_comm]; exact b)⟩
end Go.Proofs.YtahbbojhdkillaaDoor
