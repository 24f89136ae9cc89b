/- Layer 6: slices.Insert of one number; the walk of Psk. -/
import Derived.Test.YtjnijppghgemeaaDoorBi
import Derived.Test.YtjnijppghgemeaaDoorSh
namespace Go.Proofs.YtjnijppghgemeaaDoor
open Go.RowKit Go.Shelf

/-- Where slices.Insert of one number leads. -/
theorem Tryd.ren21 : Tryd.lays2_21_ren.f 21 = 36 ∧ Tryd.lays2_21_ren.t 3 = 3 := ⟨rfl, rfl⟩
theorem row_cells {w : World} {B : Nat} {t : TypeId} {g n c : Nat} {xs : List Value} (h : w.ownsRow B t 1 (.slice (some ⟨g, 0, none⟩) n c) n xs) : ∀ j v, xs[j]? = some v → w.cell? ⟨g, 0 + j, none⟩ = some v := fun j v hj => by
  obtain ⟨hl, ⟨e, _⟩ | ⟨g', cap, cur, e, _, hg, hn, _, hs, ht⟩⟩ := h
  · cases e
  · cases e
    have hj' : j < n * 1 := by
      rw [← hl]; exact (List.getElem?_eq_some_iff.1 hj).1
    rw [Nat.zero_add, cell_of_row w g j cur _ _ hg, ← Array.getElem?_toList]
    rw [← ht, List.getElem?_take, if_pos hj'] at hj
    exact hj
theorem row_there {w : World} {B : Nat} {t : TypeId} {g n c : Nat} {xs : List Value} (h : w.ownsRow B t 1 (.slice (some ⟨g, 0, none⟩) n c) n xs) : ∃ cur, w.heap[g]? = some (.cells cur t (0, 0)) ∧ cur.size = c ∧ n ≤ c ∧ c ≤ maxLen := by
  obtain ⟨hl, ⟨e, _⟩ | ⟨g', cap, cur, e, _, hg, hn, hm, hs, ht⟩⟩ := h
  · cases e
  · cases e
    exact ⟨cur, hg, by omega, hn, hm⟩
theorem grown_setCell (w : World) (g o : Nat) (v : Value) : w.grownBy (w.setCell ⟨g, o, none⟩ v) (some g) :=
  ⟨rfl, rfl, rfl, by simp, fun k _ hk => Below.heap_setCell _ _ _ _ (fun e => hk (by rw [e]))⟩
theorem grown_trans {a b c : World} {r : Option Nat} (h1 : a.grownBy b r) (h2 : b.grownBy c r) : a.grownBy c r :=
  ⟨h2.os.trans h1.os, h2.tape.trans h1.tape, h2.output.trans h1.output, Nat.le_trans h1.size h2.size, fun k hk hr => (h2.block k (Nat.lt_of_lt_of_le hk h1.size) hr).trans (h1.block k hk hr)⟩
theorem grown_setCells (g : Nat) : ∀ (vs : List Value) (o : Nat) (w : World), w.grownBy (w.setCells g o vs) (some g)
  | [], _, w => ⟨rfl, rfl, rfl, Nat.le_refl _, fun _ _ _ => rfl⟩
  | v :: r, o, w => by rw [World.setCells]; exact grown_trans (grown_setCell w g o v) (grown_setCells g r (o + 1) _)
theorem ints_list {w : World} {g : Nat} {l : List Int} (h : ∀ j x, l[j]? = some x → w.cell? ⟨g, j, none⟩ = some (.int .i64 x)) : IntsV w (some ⟨g, 0, none⟩) l := fun _ => ⟨g, 0, rfl, fun i hi => by
  rw [Nat.zero_add, List.getD_eq_getElem?_getD, List.getElem?_eq_getElem hi]
  exact h i _ (List.getElem?_eq_getElem hi)⟩

set_option maxHeartbeats 1000000 in
theorem insert_end (t : List Int) (g c vb B : Nat) (w : World) (ho : w.ownsRow B 3 1 (.slice (some ⟨g, 0, none⟩) t.length c) t.length (t.map (Value.int .i64))) (h12 : t.length ≤ 12)
    (hv : w.heap[vb]? = some (.cells #[.int .i64 7] 3 (0, 0))) :
    Calls Tryd.prog 36 #[.slice (some ⟨g, 0, none⟩) t.length c, .int .i64 t.length, .slice (some ⟨vb, 0, none⟩) 1 1] w fun e w' => ∃ g' c', e = .returned (.slice (some ⟨g', 0, none⟩) (t.length + 1) c') ∧ (g' = g ∨ w.heap.size ≤ g') ∧ IntsV w' (some ⟨g', 0, none⟩) (t ++ [7]) ∧ w.grownBy w' (some g) := by
  obtain ⟨cur, hg, hcs, hn, hm⟩ := row_there ho
  have hcell := row_cells ho
  have hvs : ∀ (j : Nat) (v : Value), [Value.int .i64 7][j]? = some v → w.cell? ⟨vb, 0 + j, none⟩ = some v := fun j v hj => by
    match j, hj with
    | 0, hj => rw [cell_of_row w vb _ _ _ _ hv]; exact hj
  have hget : ∀ j, j < c → (w.cell? ⟨g, j, none⟩).isSome = true := fun j hj => by
    rw [cell_of_row w g j _ _ _ hg, Array.getElem?_eq_getElem (by omega)]; rfl
  have hfz : ∀ j, w.frozen? ⟨g, j, none⟩ = false := fun j => frozen_of_row _ _ _ _ _ hg
  by_cases hroom : t.length + 1 ≤ c
  · refine (Any2.slices_Insert_int_end_room Tryd.lays2_21 g 0 t.length c vb 0 1 1 [.int .i64 7] w (by omega) hroom (by unfold maxLen at hm; omega) rfl (fun j hj => by rw [Nat.zero_add]; exact hget _ (by omega)) (fun j hj => hfz _) hvs (by simp [Value.oneCell'])).mono ?_
    rintro e w' ⟨rfl, rfl⟩
    refine ⟨_, _, rfl, .inl rfl, ints_list fun j x hj => ?_, grown_setCells g _ _ w⟩
    rw [Nat.zero_add]
    by_cases hlt : j < t.length
    · rw [World.cell?_setCells_out g _ _ w _ (fun _ _ => .inl hlt)]
      rw [List.getElem?_append_left hlt] at hj
      have := hcell j (.int .i64 x) (by rw [List.getElem?_map, hj]; rfl)
      rwa [Nat.zero_add] at this
    · have hjl : j = t.length := by
        have := (List.getElem?_eq_some_iff.1 hj).1
        simp at this; omega
      subst hjl
      simp at hj
      subst hj
      have := World.cell?_setCells_in g [.int .i64 7] t.length w (fun i hi => hget _ (by simp at hi; omega)) 0 (by simp)
      simpa using this
  · refine (Any2.slices_Insert_int_end_grow Tryd.lays2_21 (some ⟨g, 0, none⟩) t.length c vb 0 1 1 (t.map (Value.int .i64)) [.int .i64 7] w (by omega) hn (by omega) (by omega) (by simp) rfl (fun h => by cases h) (fun a ha j v hj => by cases ha; rw [Addr.add_lit]; exact hcell j v hj) hvs (by simp [Value.oneCell'])).mono ?_
    rintro e w' ⟨rfl, rfl⟩
    refine ⟨_, _, rfl, .inr (Nat.le_refl _), ints_list fun j x hj => ?_, ?_⟩
    · rw [cell_of_row _ w.heap.size j _ _ _ (heap_alloc_new w.drew _)]
      have : (t.map (Value.int .i64) ++ [Value.int .i64 7])[j]? = some (.int .i64 x) := by
        have e : t.map (Value.int .i64) ++ [Value.int .i64 7] = (t ++ [7]).map (Value.int .i64) := by simp
        rw [e, List.getElem?_map, hj]; rfl
      rw [Array.getElem?_append_left (by rw [List.size_toArray]; exact (List.getElem?_eq_some_iff.1 this).1), List.getElem?_toArray]
      exact this
    · refine ⟨rfl, rfl, rfl, by simp, fun k hk _ => ?_⟩
      rw [Below.heap_alloc _ _ _ (by simpa using hk)]; rfl
theorem zero_size (n : Nat) : (Builtin.zeroCells (Value.int .i64 0).cells n).size = n := by
  simp [Builtin.zeroCells, Value.cells]
set_option maxHeartbeats 1000000 in
theorem insert_front (t : List Int) (g c vb B : Nat) (w : World) (ho : w.ownsRow B 3 1 (.slice (some ⟨g, 0, none⟩) t.length c) t.length (t.map (Value.int .i64))) (h1 : 1 ≤ t.length) (h12 : t.length ≤ 12)
    (hv : w.heap[vb]? = some (.cells #[.int .i64 7] 3 (0, 0))) (hne : vb ≠ g) :
    Calls Tryd.prog 36 #[.slice (some ⟨g, 0, none⟩) t.length c, .int .i64 0, .slice (some ⟨vb, 0, none⟩) 1 1] w fun e w' => ∃ g' c', e = .returned (.slice (some ⟨g', 0, none⟩) (t.length + 1) c') ∧ (g' = g ∨ w.heap.size ≤ g') ∧ IntsV w' (some ⟨g', 0, none⟩) (7 :: t) ∧ w.grownBy w' (some g) := by
  obtain ⟨cur, hg, hcs, hn, hm⟩ := row_there ho
  have hcell := row_cells ho
  have hvs : ∀ (j : Nat) (v : Value), [Value.int .i64 7][j]? = some v → w.cell? ⟨vb, 0 + j, none⟩ = some v := fun j v hj => by
    match j, hj with
    | 0, hj => rw [cell_of_row w vb _ _ _ _ hv]; exact hj
  have hget : ∀ j, j < c → (w.cell? ⟨g, j, none⟩).isSome = true := fun j hj => by
    rw [cell_of_row w g j _ _ _ hg, Array.getElem?_eq_getElem (by omega)]; rfl
  have hfz : ∀ j, w.frozen? ⟨g, j, none⟩ = false := fun j => frozen_of_row _ _ _ _ _ hg
  have h1c : ∀ v ∈ t.map (Value.int .i64), v.oneCell' = true := fun v hv => by simp at hv; obtain ⟨a, _, rfl⟩ := hv; rfl
  by_cases hroom : t.length + 1 ≤ c
  · refine (Any2.slices_Insert_int_shift Tryd.lays2_21 g 0 t.length c 0 vb 0 1 1 (t.map (Value.int .i64)) [.int .i64 7] w (by omega) (by omega) hroom (by unfold maxLen at hm; omega) hne (by simp) rfl hcell (fun j hj => by rw [Nat.zero_add]; exact hget _ (by omega)) (fun j hj => hfz _) hvs h1c (by simp [Value.oneCell']) 3 3 1 c (by unfold World.shape?; rw [hv]; rfl) (by unfold World.shape?; rw [hg]; simp [hcs]) (by omega) (frozen_of_row _ _ _ _ _ hv) (frozen_of_row _ _ _ _ _ hv)).mono ?_
    rintro e w' ⟨rfl, rfl⟩
    refine ⟨_, _, rfl, .inl rfl, ints_list fun j x hj => ?_, ?_⟩
    · simp only [Nat.zero_add, List.drop_zero]
      have hd : ∀ j, j < c → (w.drew.cell? ⟨g, j, none⟩).isSome = true := hget
      have hd2 : ∀ j, j < c → ((w.drew.setCells g 1 (t.map (Value.int .i64))).cell? ⟨g, j, none⟩).isSome = true := fun j hj => isSome_setCells g _ 1 w.drew (fun i hi => hd _ (by simp at hi; omega)) j (hd j hj)
      match j, hj with
      | 0, hj =>
        simp at hj
        subst hj
        have := World.cell?_setCells_in g [.int .i64 7] 0 (w.drew.setCells g 1 (t.map (Value.int .i64))) (fun i hi => hd2 _ (by simp at hi; omega)) 0 (by simp)
        simpa using this
      | j + 1, hj =>
        rw [World.cell?_setCells_out g _ _ _ _ (fun _ _ => .inr (by simp))]
        have hj' : t[j]? = some x := by simpa using hj
        obtain ⟨hjl, e⟩ := List.getElem?_eq_some_iff.1 hj'
        have := World.cell?_setCells_in g (t.map (Value.int .i64)) 1 w.drew (fun i hi => hd _ (by simp at hi; omega)) j (by simpa using hjl)
        rw [Nat.add_comm] at this
        rw [this]; simp [e]
    · have h0 : w.grownBy w.drew (some g) := ⟨rfl, rfl, rfl, Nat.le_refl _, fun _ _ _ => rfl⟩
      exact grown_trans h0 (grown_trans (grown_setCells g _ _ _) (grown_setCells g _ _ _))
  · refine (Any2.slices_Insert_int_grow Tryd.lays2_21 g 0 t.length c 0 vb 0 1 1 (t.map (Value.int .i64)) [.int .i64 7] w (by omega) (by omega) hn (by omega) (by omega) (by simp) rfl hcell hvs h1c (by simp [Value.oneCell'])).mono ?_
    rintro e w' ⟨rfl, rfl⟩
    obtain ⟨Z, hZ⟩ : ∃ Z : Array Value, Z = ((t.map (Value.int .i64)).take 0).toArray ++ Builtin.zeroCells (Value.int .i64 0).cells (t.length + 1 - 0) ++ Builtin.zeroCells (Value.int .i64 0).cells (grownCap w (t.length + 1) c (Tryd.lays2_21_ren.t 3) - (t.length + 1)) := ⟨_, rfl⟩
    rw [← hZ]
    have hZs : t.length + 1 ≤ Z.size := by rw [hZ]; simp [zero_size]
    clear hZ
    obtain ⟨X, hX⟩ : ∃ X, X = (w.alloc (.cells Z (Tryd.lays2_21_ren.t 3))).drew := ⟨_, rfl⟩
    have hXg : X.heap[w.heap.size]? = some (.cells Z (Tryd.lays2_21_ren.t 3) (0, 0)) := by rw [hX]; exact heap_alloc_new w _
    have hX0 : w.grownBy X (some g) := by
      rw [hX]
      refine ⟨rfl, rfl, rfl, by simp, fun k hk _ => ?_⟩
      show (w.alloc _).heap[k]? = _
      rw [Below.heap_alloc _ _ _ hk]
    rw [← hX]
    clear hX
    have hd : ∀ j, j < t.length + 1 → (X.cell? ⟨w.heap.size, j, none⟩).isSome = true := fun j hj => by
      rw [cell_of_row X _ j _ _ _ hXg, Array.getElem?_eq_getElem (by omega)]; rfl
    have hd2 : ∀ j, j < t.length + 1 → (((X.setCells w.heap.size 0 [.int .i64 7]).drew).cell? ⟨w.heap.size, j, none⟩).isSome = true := fun j hj => isSome_setCells w.heap.size _ 0 X (fun i hi => hd _ (by simp at hi; omega)) j (hd j hj)
    refine ⟨_, _, rfl, .inr (Nat.le_refl _), ints_list fun j x hj => ?_, ?_⟩
    · simp only [Nat.zero_add, List.drop_zero]
      match j, hj with
      | 0, hj =>
        simp at hj
        subst hj
        rw [World.cell?_setCells_out w.heap.size _ _ _ _ (fun _ _ => .inl (by simp))]
        have := World.cell?_setCells_in w.heap.size [.int .i64 7] 0 X (fun i hi => hd _ (by simp at hi; omega)) 0 (by simp)
        simpa using this
      | j + 1, hj =>
        have hj' : t[j]? = some x := by simpa using hj
        obtain ⟨hjl, e⟩ := List.getElem?_eq_some_iff.1 hj'
        have := World.cell?_setCells_in w.heap.size (t.map (Value.int .i64)) 1 (X.setCells w.heap.size 0 [.int .i64 7]).drew (fun i hi => hd2 _ (by simp at hi; omega)) j (by simpa using hjl)
        rw [Nat.add_comm] at this
        rw [this]; simp [e]
    · have hs : ∀ (Y : World) (o : Nat) (vs : List Value), w.grownBy Y (some g) → w.grownBy (Y.setCells w.heap.size o vs) (some g) := fun Y o vs hY => by
        have h2 := grown_setCells w.heap.size vs o Y
        exact ⟨h2.os.trans hY.os, h2.tape.trans hY.tape, h2.output.trans hY.output, Nat.le_trans hY.size h2.size, fun k hk hr => (h2.block k (Nat.lt_of_lt_of_le hk hY.size) (fun e => by cases e; omega)).trans (hY.block k hk hr)⟩
      refine hs _ _ _ ?_
      have := hs X 0 [.int .i64 7] hX0
      exact ⟨this.os, this.tape, this.output, this.size, this.block⟩
end Go.Proofs.YtjnijppghgemeaaDoor
