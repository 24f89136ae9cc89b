/- The walk of CodeBack: what is written of any ref is read in another arena as a term whose text it is; in its own it is the ref. -/
import Derived.Test.YtcgdkiahcnhoeaaDoorSe
import Derived.Test.YtcgdkiahcnhoeaaDoorLApart
namespace Go.Proofs.YtcgdkiahcnhoeaaDoor
open Go.RowKit Go.Maps Go.Shelf

set_option maxRecDepth 100000 in
set_option maxHeartbeats 1000000 in
theorem back_l (s : Option Addr) (n c : Nat) (hn : 40 < n) (_hm : n ≤ maxLen) (s1 : Option Addr) (n1 c1 : Nat) (_hm1 : n1 ≤ maxLen) (x : Int) (w : World) (hE : Env w) :
    Calls Tryd.prog 4 #[.slice s n c, .slice s1 n1 c1, .int .i64 x] w fun e w' => e = .returned (.bool true) ∧ Below w.heap.size w w' := by
  have HA := Lib.hid (awake_any w hE)
  have hn1 : (40 : Int) < (n : Int) := by omega
  clear hE
  go_enter Tryd.func4, Tryd.ntmps4
  go_wp2_with (go_at_call 9; refine HA.out.mono ?_; rintro e w2 ⟨rfl, hb2⟩)
  go_ret
  exact ⟨rfl, hb2⟩
theorem back_long_long (s : Option Addr) (n c : Nat) (hn : 40 < n) (hm : n ≤ maxLen) (s1 : Option Addr) (n1 c1 : Nat) (_ : 40 < n1) (hm1 : n1 ≤ maxLen) (x : Int) (_ : i64ok x) (w : World) (hE : Env w) :
    Calls Tryd.prog 4 #[.slice s n c, .slice s1 n1 c1, .int .i64 x] w fun e w' => e = .returned (.bool true) ∧ Below w.heap.size w w' := back_l s n c hn hm s1 n1 c1 hm1 x w hE
theorem back_long_good (s : Option Addr) (n c : Nat) (hn : 40 < n) (hm : n ≤ maxLen) (s1 : Option Addr) (c1 : Nat) (ns1 : List Nd) (h1 : ns1.length ≤ 40) (x : Int) (_ : i64ok x) (w : World) (hE : Env w) (_ : BuiltAt w (.slice s1 ns1.length c1) ns1) :
    Calls Tryd.prog 4 #[.slice s n c, .slice s1 ns1.length c1, .int .i64 x] w fun e w' => e = .returned (.bool true) ∧ Below w.heap.size w w' := back_l s n c hn hm s1 ns1.length c1 (by unfold maxLen; omega) x w hE

set_option maxRecDepth 100000 in
set_option maxHeartbeats 1000000 in
theorem back_good_long (s : Option Addr) (c : Nat) (ns : List Nd) (hn : ns.length ≤ 40) (s1 : Option Addr) (n1 c1 : Nat) (h1 : 40 < n1) (_hm1 : n1 ≤ maxLen) (x : Int) (_ : i64ok x) (w : World) (hE : Env w) (_ : BuiltAt w (.slice s ns.length c) ns) :
    Calls Tryd.prog 4 #[.slice s ns.length c, .slice s1 n1 c1, .int .i64 x] w fun e w' => e = .returned (.bool true) ∧ Below w.heap.size w w' := by
  have HA := Lib.hid (awake_any w hE)
  have hn1 : (40 : Int) < (n1 : Int) := by omega
  have hn2 : ¬ (40 : Int) < (ns.length : Int) := by omega
  have hn3 : decide ((40 : Int) < (ns.length : Int)) = false := by simpa using hn2
  clear hE
  go_enter Tryd.func4, Tryd.ntmps4
  go_wp2_with (go_at_call 9; refine HA.out.mono ?_; rintro e w2 ⟨rfl, hb2⟩)
  go_ret
  exact ⟨rfl, hb2⟩

/-- Where all lies behind both readings. -/
structure Bk (w w1 W w5 : World) (b g bm cap b2 g2 bm2 cap2 gr capr n : Nat) (L M : List Nd) : Prop where
  own : St w w5 b g bm cap 100 L
  oth : St w w5 b2 g2 bm2 cap2 1000 M
  box : w5.heap[w1.heap.size]? = some (.cells #[.int .i64 100, .slice (some ⟨gr, 0, none⟩) n capr] 27 (0, 0))

set_option maxRecDepth 100000 in
set_option maxHeartbeats 2000000 in
theorem back_good (s : Option Addr) (c : Nat) (ns : List Nd) (hn : ns.length ≤ 40) (s1 : Option Addr) (c1 : Nat) (ns1 : List Nd) (hn1 : ns1.length ≤ 40) (x : Int) (hx : i64ok x) (w : World) (hE : Env w) (hB : BuiltAt w (.slice s ns.length c) ns) (hB1 : BuiltAt w (.slice s1 ns1.length c1) ns1) :
    Calls Tryd.prog 4 #[.slice s ns.length c, .slice s1 ns1.length c1, .int .i64 x] w fun e w' => e = .returned (.bool true) ∧ Below w.heap.size w w' := by
  have HB := Lib.hid (built_at hB (lim := 100) (by decide) (Below.refl _ _))
  have HB1 : Hid (∀ W, Below w.heap.size w W → Calls Tryd.prog 10 #[.int .i64 1000, .slice s1 ns1.length c1] W (BuiltPost 1000 ns1 W)) := Lib.hid (fun W h => built_at hB1 (lim := 1000) (by decide) h)
  have HAW : Hid (∀ w1, Below w.heap.size w w1 → Calls Tryd.prog 9 #[] w1 fun e w' => e = .returned (.bool true) ∧ Below w1.heap.size w1 w') := Lib.hid (fun w1 h => awake_any w1 (hE.below h))
  have q1 : decide ((40 : Int) < (ns.length : Int)) = false := by simp; omega
  have q2 : ¬ (40 : Int) < (ns.length : Int) := by omega
  have q3 : decide ((40 : Int) < (ns1.length : Int)) = false := by simp; omega
  have q4 : ¬ (40 : Int) < (ns1.length : Int) := by omega
  have hsm := bld_small 100 (by omega) ns hn
  have hsm1 := bld_small 1000 (by omega) ns1 hn1
  unfold BuiltPost at HB HB1
  obtain ⟨L, hL⟩ : ∃ L, L = bld 100 ns := ⟨_, rfl⟩
  obtain ⟨M, hM⟩ : ∃ M, M = bld 1000 ns1 := ⟨_, rfl⟩
  rw [← hL] at HB hsm
  rw [← hM] at HB1 hsm1
  have HWR : Hid (∀ w1 b g bm cap p lim K, St w w1 b g bm cap lim K → i64ok p → Calls Tryd.prog 14 #[.pointer (some ⟨b, 0, none⟩), .int .i64 p] w1 fun e w' => e = .returned (.string ⟨(txt K p).toArray⟩) ∧ Below w1.heap.size w1 w') := Lib.hid (fun w1 b g bm cap p lim K h hp => write_any p hp w1 (hE.below h.bel) h.ar)
  have HHA : Hid (∀ w1 gr capr p, Calls Tryd.prog 12 #[.agg #[.int .i64 100, .slice (some ⟨gr, 0, none⟩) L.length capr], .int .i64 p] w1 fun e w' => e = .returned (.bool (hasB L.length p)) ∧ Below w1.heap.size w1 w') := Lib.hid (fun w1 gr capr p => (refHas_any _ _ _ _ p w1).mono fun e w' h => ⟨h.1, by rw [← h.2]; exact (Below.refl _ _).alloc (Nat.le_refl _) _⟩)
  obtain ⟨tx, htx⟩ : ∃ t : ByteArray, t = ⟨(txt L x).toArray⟩ := ⟨_, rfl⟩
  have htd : tx.data.toList = txt L x := by rw [htx]
  -- the two readings
  obtain ⟨M', hM'⟩ : ∃ K, K = rdL 1000 M (txt L x) := ⟨_, rfl⟩
  obtain ⟨L', hL'⟩ : ∃ K, K = rdL 100 L (txt L x) := ⟨_, rfl⟩
  obtain ⟨y, hy⟩ : ∃ r, r = rdR 1000 M (txt L x) := ⟨_, rfl⟩
  obtain ⟨z, hz⟩ : ∃ r, r = rdR 100 L (txt L x) := ⟨_, rfl⟩
  obtain ⟨e1, he1⟩ : ∃ r, r = rdE 1000 M (txt L x) := ⟨_, rfl⟩
  obtain ⟨e2, he2⟩ : ∃ r, r = rdE 100 L (txt L x) := ⟨_, rfl⟩
  have HR1 : Hid (∀ w1 b g bm cap gr capr w2 b2 g2 bm2 cap2 gr2 capr2 w3, Pair w w1 b g bm cap gr capr 100 L → Pair (w1.alloc (.cells #[.int .i64 100, .slice (some ⟨gr, 0, none⟩) L.length capr] 27)) w2 b2 g2 bm2 cap2 gr2 capr2 1000 M → Below w2.heap.size w2 w3 → (txt L x).length ≤ maxLen →
      Calls Tryd.prog 17 #[.pointer (some ⟨b2, 0, none⟩), .string tx] w3 fun e w4 => ∃ g4 cap4, e = .returned (.tuple #[.int .i64 y, .int .i64 e1]) ∧ Bk w w1 (w1.alloc (.cells #[.int .i64 100, .slice (some ⟨gr, 0, none⟩) L.length capr] 27)) w4 b g bm cap b2 g4 bm2 cap4 gr capr L.length L M' ∧ w1.heap.size < b2 ∧ w1.heap.size < g4 ∧ w1.heap.size < bm2) := Lib.hid (fun w1 b g bm cap gr capr w2 b2 g2 bm2 cap2 gr2 capr2 w3 hP hP2 hb3 hlen => by
    have hA0 : Below w1.heap.size w1 (w1.alloc (.cells #[.int .i64 100, .slice (some ⟨gr, 0, none⟩) L.length capr] 27)) := (Below.refl _ _).alloc (Nat.le_refl _) _
    have hS1 := hP.st.keep hA0
    have hS3 := hP2.st.keep hb3
    refine (read_any tx (by rw [Lib.size_eq, htd]; exact hlen) w3 (hE.below hS1.bel) hS3).mono ?_
    rintro e w4 ⟨g4, cap4, rfl, hA4, hg4, hk4⟩
    rw [htd] at *
    rw [← hy, ← he1]
    rw [← hM'] at hA4
    have hS4 := hS3.step hA4 hg4 hk4
    have hsz := hS1.bel.size
    refine ⟨g4, cap4, rfl, ⟨hS1.keep hS4.bel, ⟨hS4.ar, hS1.bel.trans (hS4.bel.mono hsz), by have := hS4.hb; omega, by have := hS4.hg; omega, by have := hS4.hm; omega⟩, ?_⟩, by have := hS4.hb; simp at this; omega, by have := hS4.hg; simp at this; omega, by have := hS4.hm; simp at this; omega⟩
    exact (hS4.bel.block _ (by simp)).trans (heap_alloc_new w1 _))
  have HR2 : Hid (∀ w1 W w4 b g bm cap b2 g4 bm2 cap4 gr capr, Bk w w1 W w4 b g bm cap b2 g4 bm2 cap4 gr capr L.length L M' → b < w1.heap.size → g < w1.heap.size → bm < w1.heap.size → w1.heap.size < b2 → w1.heap.size < g4 → w1.heap.size < bm2 → (txt L x).length ≤ maxLen →
      Calls Tryd.prog 17 #[.pointer (some ⟨b, 0, none⟩), .string tx] w4 fun e w5 => ∃ g5 cap5, e = .returned (.tuple #[.int .i64 z, .int .i64 e2]) ∧ Bk w w1 W w5 b g5 bm cap5 b2 g4 bm2 cap4 gr capr L.length L' M') := Lib.hid (fun w1 W w4 b g bm cap b2 g4 bm2 cap4 gr capr hK l1 l2 l3 l4 l5 l6 hlen => by
    refine (read_any tx (by rw [Lib.size_eq, htd]; exact hlen) w4 hE hK.own).mono ?_
    rintro e w5 ⟨g5, cap5, rfl, hA5, hg5, hk5⟩
    rw [htd] at *
    rw [← hz, ← he2]
    rw [← hL'] at hA5
    have hS5 := hK.own.step hA5 hg5 hk5
    refine ⟨g5, cap5, rfl, ⟨hS5, ⟨hK.oth.ar.keep (hk5.block _ hK.oth.ar.blt (by omega) (by omega) (by omega)) (hk5.block _ hK.oth.ar.glt (by omega) (by omega) (by omega)) (hk5.block _ hK.oth.ar.mlt (by omega) (by omega) (by omega)), hS5.bel, hK.oth.hb, hK.oth.hg, hK.oth.hm⟩, ?_⟩⟩
    exact (hk5.block _ (lt_of_heap hK.box) (by omega) (by omega) (by omega)).trans hK.box)
  have HW1 : Hid (∀ w1 b g bm cap, St w w1 b g bm cap 100 L → Calls Tryd.prog 14 #[.pointer (some ⟨b, 0, none⟩), .int .i64 x] w1 fun e w' => e = .returned (.string tx) ∧ Below w1.heap.size w1 w') := Lib.hid (fun w1 b g bm cap h => by rw [htx]; exact HWR.out w1 b g bm cap x 100 L h hx)
  have HW2 : Hid (∀ w1 b g bm cap, St w w1 b g bm cap 1000 M' → txt M' y = txt L x → i64ok y → Calls Tryd.prog 14 #[.pointer (some ⟨b, 0, none⟩), .int .i64 y] w1 fun e w' => e = .returned (.string tx) ∧ Below w1.heap.size w1 w') := Lib.hid (fun w1 b g bm cap h ht hy' => by
    have := HWR.out w1 b g bm cap y 1000 M' h hy'
    rw [ht, ← htx] at this; exact this)
  have HLE : Hid (WF L → (txt L x).length ≤ maxLen) := Lib.hid (fun h => by have := txt_small h hsm x; unfold maxLen; omega)
  by_cases hh : hasB L.length x = true
  · have HT : Hid (WF L → WF M → e1 = 0 ∧ e2 = 0 ∧ x = z ∧ txt M' y = txt L x ∧ i64ok y) := Lib.hid (fun h1 h2 => by
      have ht := txt_small h1 hsm x
      obtain ⟨k1, k2, k3, k4, k5, _⟩ := rd_back h1 h2 hsm hsm1 (lim := 1000) (by omega) (by omega) hh ht
      obtain ⟨j1, j2⟩ := rd_own h1 hsm hh ht
      rw [← hM', ← hy] at k2 k3
      rw [← hM'] at k5
      have := hasB_iff.1 k3
      exact ⟨he1.trans k1, he2.trans j1, (hz.trans j2).symm, k2, by unfold i64ok; omega⟩)
    have HH := Lib.hid hh
    clear hh hE hB hB1 hL hM htx htd hM' hL' hy hz he1 he2
    go_enter Tryd.func4, Tryd.ntmps4
    go_wp2_with (first
      | (go_at_call 10; have _hq := hP; clear _hq; refine (HB1.out _ (hP.st.keep ((Below.refl _ _).alloc (Nat.le_refl _) _)).bel).mono ?_; rintro e w2 ⟨b2, g2, bm2, cap2, gr2, capr2, rfl, hP2⟩; obtain ⟨t1, t2, t3, t4, t5⟩ := HT.out hP.st.ar.wf hP2.st.ar.wf; subst t1; subst t2; subst t3; clear HT)
      | (go_at_call 10; refine HB.out.mono ?_; rintro e w1 ⟨b, g, bm, cap, gr, capr, rfl, hP⟩)
      | (go_at_call 14; have _hq := hK5; clear _hq; refine (HW2.out w6 b2 g4 bm2 cap4 (hK5.oth.keep hb6) t4 t5).mono ?_; rintro e w7 ⟨rfl, hb7⟩)
      | (go_at_call 14; refine (HW1.out _ b g bm cap ((hP.st.keep ((Below.refl _ _).alloc (Nat.le_refl _) _)).keep (hP2.st.bel.trans (((Below.refl _ _).alloc (Nat.le_refl _) _).mono hP2.st.bel.size)))).mono ?_; rintro e w3 ⟨rfl, hb3⟩; have hlen := HLE.out hP.st.ar.wf)
      | (go_at_call 17; have _hq := hK4; clear _hq; refine (HR2.out w1 _ w4 b g bm cap b2 g4 bm2 cap4 gr capr hK4 hP.st.ar.blt hP.st.ar.glt hP.st.ar.mlt l4 l5 l6 hlen).mono ?_; rintro e w5 ⟨g5, cap5, rfl, hK5⟩; have cA := (cell_of_row w5 _ 0 _ _ _ hK5.box).trans rfl; have cB := (cell_of_row w5 _ 1 _ _ _ hK5.box).trans rfl)
      | (go_at_call 17; refine (HR1.out w1 b g bm cap gr capr w2 b2 g2 bm2 cap2 gr2 capr2 w3 hP hP2 (((Below.refl _ _).alloc (Nat.le_refl _) _).trans (hb3.mono (by simp))) hlen).mono ?_; rintro e w4 ⟨g4, cap4, rfl, hK4, l4, l5, l6⟩)
      | (go_at_call 12; refine (HHA.out w5 gr capr x).mono ?_; rintro e w6 ⟨rfl, hb6⟩; rw [HH.out])
      | (go_at_call 9; refine (HAW.out _ (((hK5.oth.keep hb6).keep hb7).bel)).mono ?_; rintro e w8 ⟨rfl, hb8⟩))
    go_ret
    exact ⟨rfl, (((hK5.oth.keep hb6).keep hb7).keep hb8).bel⟩
  · have hh' : hasB L.length x = false := by simpa using hh
    have HT : Hid (e1 = 2 ∧ e2 = 2) := Lib.hid (by
      rw [txt_no hh'] at he1 he2
      exact ⟨he1.trans (rd_nil 1000 M).1, he2.trans (rd_nil 100 L).1⟩)
    have HH := Lib.hid hh'
    clear hh hh' hE hB hB1 hL hM htx htd hM' hL' hy hz he1 he2 HW2
    obtain ⟨t1, t2⟩ := HT.out
    subst t1; subst t2
    clear HT
    go_enter Tryd.func4, Tryd.ntmps4
    go_wp2_with (first
      | (go_at_call 10; have _hq := hP; clear _hq; refine (HB1.out _ (hP.st.keep ((Below.refl _ _).alloc (Nat.le_refl _) _)).bel).mono ?_; rintro e w2 ⟨b2, g2, bm2, cap2, gr2, capr2, rfl, hP2⟩; skip)
      | (go_at_call 10; refine HB.out.mono ?_; rintro e w1 ⟨b, g, bm, cap, gr, capr, rfl, hP⟩)
      | (go_at_call 14; refine (HW1.out _ b g bm cap ((hP.st.keep ((Below.refl _ _).alloc (Nat.le_refl _) _)).keep (hP2.st.bel.trans (((Below.refl _ _).alloc (Nat.le_refl _) _).mono hP2.st.bel.size)))).mono ?_; rintro e w3 ⟨rfl, hb3⟩; have hlen := HLE.out hP.st.ar.wf)
      | (go_at_call 17; have _hq := hK4; clear _hq; refine (HR2.out w1 _ w4 b g bm cap b2 g4 bm2 cap4 gr capr hK4 hP.st.ar.blt hP.st.ar.glt hP.st.ar.mlt l4 l5 l6 hlen).mono ?_; rintro e w5 ⟨g5, cap5, rfl, hK5⟩; have cA := (cell_of_row w5 _ 0 _ _ _ hK5.box).trans rfl; have cB := (cell_of_row w5 _ 1 _ _ _ hK5.box).trans rfl)
      | (go_at_call 17; refine (HR1.out w1 b g bm cap gr capr w2 b2 g2 bm2 cap2 gr2 capr2 w3 hP hP2 (((Below.refl _ _).alloc (Nat.le_refl _) _).trans (hb3.mono (by simp))) hlen).mono ?_; rintro e w4 ⟨g4, cap4, rfl, hK4, l4, l5, l6⟩)
      | (go_at_call 12; refine (HHA.out w5 gr capr x).mono ?_; rintro e w6 ⟨rfl, hb6⟩; rw [HH.out])
      | (go_at_call 9; refine (HAW.out _ ((hK5.oth.keep hb6).bel)).mono ?_; rintro e w8 ⟨rfl, hb8⟩))
    go_ret
    exact ⟨rfl, ((hK5.oth.keep hb6).keep hb8).bel⟩
end Go.Proofs.YtcgdkiahcnhoeaaDoor
