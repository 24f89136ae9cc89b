/- The walk of CodeApart: two refs of one arena have one text just if they are the same. -/
import Derived.Test.YtcgdkiahcnhoeaaDoorSd
namespace Go.Proofs.YtcgdkiahcnhoeaaDoor
open Go.RowKit Go.Maps Go.Shelf

/-- What a law of layer 2 has of its list of nodes. -/
theorem built_at {w : World} {v : Value} {ns : List Nd} (h : BuiltAt w v ns) {lim : Nat} (hl : limZ lim = lim) {W : World} (hW : Below w.heap.size w W) : Calls Tryd.prog 10 #[.int .i64 lim, v] W (BuiltPost lim ns W) := h lim lim hl W hW
theorem bld_len (lim : Nat) (hl : 1 ≤ lim) (ns : List Nd) : (bld lim ns).length ≤ ns.length + 1 ∧ (bld lim ns).length ≤ lim := by
  have key : ∀ k, k ≤ ns.length → (bld lim (ns.take k)).length ≤ k + 1 ∧ (bld lim (ns.take k)).length ≤ lim := by
    intro k
    induction k with
    | zero => intro _; simp [bld]; omega
    | succ k ih =>
      intro hk
      have := ih (by omega)
      have h2 := mk_len (d := ns.getD k zN) this.2
      rw [bld_succ (by omega)]
      omega
  have := key ns.length (Nat.le_refl _)
  rw [List.take_length] at this
  exact this
theorem bld_small (lim : Nat) (hl : 1 ≤ lim) (ns : List Nd) (hn : ns.length ≤ 40) : (bld lim ns).length ≤ 41 := by
  have := (bld_len lim hl ns).1
  omega
theorem txt_small {L : List Nd} (hL : WF L) (hs : L.length ≤ 41) (x : Int) : (txt L x).length ≤ 16384 := by
  have h1 := prn_len (nums L x) (nums_ok hL (by omega) x)
  have h2 : (nums L x).length = (rows L x).length := by simp [nums]
  have h3 := (rows_acc hL x).len
  unfold txt
  omega

theorem new_cell (w : World) (i : Nat) (u : Array Value) (t : TypeId) (v : Value) (h : u[i]? = some v) : (w.alloc (.cells u t)).cell? ⟨w.heap.size, i, none⟩ = some v := by
  rw [cell_of_row _ _ i _ _ _ (heap_alloc_new w (.cells u t))]; exact h

set_option maxRecDepth 100000 in
set_option maxHeartbeats 1000000 in
theorem apart_long (s : Option Addr) (n c : Nat) (hn : 40 < n) (_hm : n ≤ maxLen) (x : Int) (_hx : i64ok x) (y : Int) (_hy : i64ok y) (w : World) (hE : Env w) :
    Calls Tryd.prog 5 #[.slice s n c, .int .i64 x, .int .i64 y] w fun e w' => e = .returned (.bool true) ∧ Below w.heap.size w w' := by
  have HA := Lib.hid (awake_any w hE)
  have hn1 : (40 : Int) < (n : Int) := by omega
  clear hE
  go_enter Tryd.func5, Tryd.ntmps5
  go_wp2_with (go_at_call 9; refine HA.out.mono ?_; rintro e w2 ⟨rfl, hb2⟩)
  go_ret
  exact ⟨rfl, hb2⟩

set_option maxRecDepth 100000 in
set_option maxHeartbeats 2000000 in
theorem apart_good (s : Option Addr) (c : Nat) (ns : List Nd) (hn : ns.length ≤ 40) (x : Int) (hx : i64ok x) (y : Int) (hy : i64ok y) (w : World) (hE : Env w) (hB : BuiltAt w (.slice s ns.length c) ns) :
    Calls Tryd.prog 5 #[.slice s ns.length c, .int .i64 x, .int .i64 y] w fun e w' => e = .returned (.bool true) ∧ Below w.heap.size w w' := by
  have HB := Lib.hid (built_at hB (lim := 100) (by decide) (Below.refl _ _))
  have HAW : Hid (∀ w1, Below w.heap.size w w1 → Calls Tryd.prog 9 #[] w1 fun e w' => e = .returned (.bool true) ∧ Below w1.heap.size w1 w') := Lib.hid (fun w1 h => awake_any w1 (hE.below h))
  have hn1 : decide ((40 : Int) < (ns.length : Int)) = false := by simp; omega
  have hn2 : ¬ (40 : Int) < (ns.length : Int) := by omega
  have hsm := bld_small 100 (by omega) ns hn
  unfold BuiltPost at HB
  obtain ⟨L, hL⟩ : ∃ L, L = bld 100 ns := ⟨_, rfl⟩
  rw [← hL] at HB hsm
  have HWR : Hid (∀ w1 b g bm cap p, St w w1 b g bm cap 100 L → i64ok p → Calls Tryd.prog 14 #[.pointer (some ⟨b, 0, none⟩), .int .i64 p] w1 fun e w' => e = .returned (.string ⟨(txt L p).toArray⟩) ∧ Below w1.heap.size w1 w') := Lib.hid (fun w1 b g bm cap p h hp => write_any p hp w1 (hE.below h.bel) h.ar)
  have HHA : Hid (∀ w1 gr capr p, Calls Tryd.prog 12 #[.agg #[.int .i64 100, .slice (some ⟨gr, 0, none⟩) L.length capr], .int .i64 p] w1 fun e w' => e = .returned (.bool (hasB L.length p)) ∧ Below w1.heap.size w1 w') := Lib.hid (fun w1 gr capr p => (refHas_any _ _ _ _ p w1).mono fun e w' h => ⟨h.1, by rw [← h.2]; exact (Below.refl _ _).alloc (Nat.le_refl _) _⟩)
  have HIN : Hid (∀ w1 b g bm cap, St w w1 b g bm cap 100 L → hasB L.length x = true → hasB L.length y = true → (txt L x == txt L y) = (x == y)) := Lib.hid (fun w1 b g bm cap h h1 h2 => by
    have hw := h.ar.wf
    by_cases e : x = y
    · subst e; simp
    · have h3 : ¬ txt L x = txt L y := fun e3 => e (txt_inj hw (by omega) h1 h2 (txt_small hw hsm x) e3)
      rw [beq_eq_false_iff_ne.2 h3, beq_eq_false_iff_ne.2 e])
  clear hE hB hL
  have HS : Hid (∀ w1 b g bm cap gr capr o w', Pair w w1 b g bm cap gr capr 100 L → Below (w1.alloc o).heap.size (w1.alloc o) w' → St w w' b g bm cap 100 L) := Lib.hid (fun w1 b g bm cap gr capr o w' h hb => (h.st.keep ((Below.refl _ _).alloc (Nat.le_refl _) o)).keep hb)
  by_cases h1 : hasB L.length x = true
  · by_cases h2 : hasB L.length y = true
    · have HH1 := Lib.hid h1
      have HH2 := Lib.hid h2
      clear h1 h2
      go_enter Tryd.func5, Tryd.ntmps5
      go_wp2_with (first
        | (go_at_call 10; refine HB.out.mono ?_; rintro e w1 ⟨b, g, bm, cap, gr, capr, rfl, hP⟩)
        | (go_at_call 12; have _hq := hb2; clear _hq; refine (HHA.out w2 gr capr y).mono ?_; rintro e w3 ⟨rfl, hb3⟩; rw [HH2.out]; have hS3 := HS.out w1 b g bm cap gr capr _ w3 hP (hb2.trans (hb3.mono hb2.size)))
        | (go_at_call 12; refine (HHA.out _ gr capr x).mono ?_; rintro e w2 ⟨rfl, hb2⟩; rw [HH1.out]; have cA := (hb2.cell (p := ⟨w1.heap.size, 0, none⟩) (by simp)).trans (new_cell w1 0 _ _ _ rfl); have cB := (hb2.cell (p := ⟨w1.heap.size, 1, none⟩) (by simp)).trans (new_cell w1 1 _ _ _ rfl))
        | (go_at_call 14; have _hq := hb4; clear _hq; refine (HWR.out w4 b g bm cap y (hS3.keep hb4) hy).mono ?_; rintro e w5 ⟨rfl, hb5⟩; have hin := HIN.out w3 b g bm cap hS3 HH1.out HH2.out)
        | (go_at_call 14; refine (HWR.out w3 b g bm cap x hS3 hx).mono ?_; rintro e w4 ⟨rfl, hb4⟩)
        | (go_at_call 9; refine (HAW.out w5 ((hS3.keep hb4).keep hb5).bel).mono ?_; rintro e w6 ⟨rfl, hb6⟩))
      all_goals first
        | (go_ret; exact ⟨rfl, (((hS3.keep hb4).keep hb5).keep hb6).bel⟩)
        | exact absurd hin (by assumption)
    · have h2' : hasB L.length y = false := by simpa using h2
      have HH1 := Lib.hid h1
      have HH2 := Lib.hid h2'
      clear h1 h2 h2'
      go_enter Tryd.func5, Tryd.ntmps5
      go_wp2_with (first
        | (go_at_call 10; refine HB.out.mono ?_; rintro e w1 ⟨b, g, bm, cap, gr, capr, rfl, hP⟩)
        | (go_at_call 12; have _hq := hb2; clear _hq; refine (HHA.out w2 gr capr y).mono ?_; rintro e w3 ⟨rfl, hb3⟩; rw [HH2.out]; have hS3 := HS.out w1 b g bm cap gr capr _ w3 hP (hb2.trans (hb3.mono hb2.size)))
        | (go_at_call 12; refine (HHA.out _ gr capr x).mono ?_; rintro e w2 ⟨rfl, hb2⟩; rw [HH1.out]; have cA := (hb2.cell (p := ⟨w1.heap.size, 0, none⟩) (by simp)).trans (new_cell w1 0 _ _ _ rfl); have cB := (hb2.cell (p := ⟨w1.heap.size, 1, none⟩) (by simp)).trans (new_cell w1 1 _ _ _ rfl))
        | (go_at_call 9; refine (HAW.out w3 hS3.bel).mono ?_; rintro e w6 ⟨rfl, hb6⟩))
      go_ret
      exact ⟨rfl, (hS3.keep hb6).bel⟩
  · have h1' : hasB L.length x = false := by simpa using h1
    have HH1 := Lib.hid h1'
    clear h1 h1'
    go_enter Tryd.func5, Tryd.ntmps5
    go_wp2_with (first
      | (go_at_call 10; refine HB.out.mono ?_; rintro e w1 ⟨b, g, bm, cap, gr, capr, rfl, hP⟩)
      | (go_at_call 12; refine (HHA.out _ gr capr x).mono ?_; rintro e w2 ⟨rfl, hb2⟩; rw [HH1.out]; have hS2 := HS.out w1 b g bm cap gr capr _ w2 hP hb2)
      | (go_at_call 9; refine (HAW.out w2 hS2.bel).mono ?_; rintro e w6 ⟨rfl, hb6⟩))
    go_ret
    exact ⟨rfl, (hS2.keep hb6).bel⟩
end Go.Proofs.YtcgdkiahcnhoeaaDoor
