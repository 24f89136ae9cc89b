import Derived.Test.YtlckajnbmkkpeaaDoorEp
import Derived.Deep.AppendLies
import Derived.Deep.Upon
import Derived.Test.YtlckajnbmkkpeaaDoorEl

/- Layer 4: steps put behind steps. -/
namespace Go.Proofs.YtlckajnbmkkpeaaDoor
open Go.RowKit Go.Maps

/-- The cells of steps. -/
def cellsP (d : Sp) : List Value := [.int .i64 d.op, .int .u64 d.n, .int .i64 d.a, .int .i64 d.b, .int .i64 d.c]
def cellsPs (l : List Sp) : List Value := l.flatMap cellsP
theorem cellsPs_len (l : List Sp) : (cellsPs l).length = l.length * 5 := by
  induction l with
  | nil => rfl
  | cons d r ih => rw [cellsPs, List.flatMap_cons, List.length_append, ← cellsPs, ih]; simp [cellsP]; omega
theorem cellsPs_at (l : List Sp) (i r : Nat) (hi : i < l.length) (hr : r < 5) : (cellsPs l)[i * 5 + r]? = (cellsP (l.getD i zSp))[r]? := by
  induction l generalizing i with
  | nil => simp at hi
  | cons d t ih =>
    rw [cellsPs, List.flatMap_cons, ← cellsPs]
    cases i with
    | zero =>
      rw [List.getElem?_append_left (by simp [cellsP]; omega)]
      simp
    | succ k =>
      rw [List.getElem?_append_right (by simp [cellsP]; omega)]
      have e : (k + 1) * 5 + r - (cellsP d).length = k * 5 + r := by simp [cellsP]; omega
      rw [e, ih k (by simpa using hi)]
      simp
theorem Tryd.infoSp : (Tryd.prog.info? 60).map (fun i => (i.zero, i.size, i.bytes)) = some (some (.agg #[.int .i64 0, .int .u64 0, .int .i64 0, .int .i64 0, .int .i64 0]), 5, 40) := by kernel_rfl
theorem steps_of_own {w : World} {B g n cap : Nat} {l : List Sp} (h : w.ownsRow B 60 5 (.slice (some ⟨g, 0, none⟩) n cap) n (cellsPs l)) (hn : n = l.length) : StepsV w (some ⟨g, 0, none⟩) l := fun _ => by
  subst hn
  have hlt := (h.lt g rfl).2
  refine ⟨g, 0, rfl, hlt, fun i hi => ?_⟩
  have key : ∀ r, r < 5 → w.cell? ⟨g, 0 + i * 5 + r, none⟩ = (cellsP (l.getD i zSp))[r]? := fun r hr => by
    rw [Nat.zero_add, h.cellAt (i * 5 + r) (by omega), cellsPs_at l i r hi hr]
  exact ⟨key 0 (by omega), key 1 (by omega), key 2 (by omega), key 3 (by omega), key 4 (by omega)⟩
/-- What an append of steps leaves. -/
theorem app_steps {w : World} {B g0 n cap0 : Nat} {xs : List Sp} (hown : w.ownsRow B 60 5 (.slice (some ⟨g0, 0, none⟩) n cap0) n (cellsPs xs)) (hB : B ≤ w.heap.size) (s : Option Addr) (c : Nat) (l : List Sp) (hl : StepsV w s l) (hn : n ≤ 1000) (hln : l.length ≤ 1000) :
    ∃ g cap w', (Builtin.append_ #[47, 47] 47 #[.slice (some ⟨g0, 0, none⟩) n cap0, .slice s l.length c]).run Tryd.prog w = .ok (.slice (some ⟨g, 0, none⟩) (n + l.length) cap) w' ∧ w'.ownsRow B 60 5 (.slice (some ⟨g, 0, none⟩) (n + l.length) cap) (n + l.length) (cellsPs (xs ++ l)) ∧ w.grownBy w' (some g0) := by
  obtain ⟨i0, hi0, hz0, hz1, hz2⟩ := info_parts Tryd.infoSp
  by_cases h0 : l.length = 0
  · have hl0 : l = [] := List.eq_nil_of_length_eq_zero h0
    subst hl0
    have hle : n ≤ cap0 := by
      rcases hown.2 with ⟨e, _⟩ | ⟨g, cap, cur, e, _, _, h1, _⟩
      · cases e
      · cases e; exact h1
    refine ⟨g0, cap0, w, ?_, by simpa using hown, ⟨rfl, rfl, rfl, Nat.le_refl _, fun _ _ _ => rfl⟩⟩
    exact run_append_nothing (P := Tryd.prog) w 47 47 47 60 i0 Tryd.underlying47 hi0 (some ⟨g0, 0, none⟩) n cap0 hle (.slice s 0 c)
      ⟨.inl ⟨_, Tryd.underlying47⟩, fun w' => by simp [Builtin.lenOf], by cases s <;> simp [Builtin.firstCells, loadCells, loadCellsFrom], by cases s <;> simp [Builtin.firstCells, loadCells, loadCellsFrom], by simp, fun u hu => by simp at hu⟩
  · obtain ⟨gs, os, rfl, hgs, hc⟩ := hl (by omega)
    obtain ⟨g, cap, w', hr, h2, h3, _, _⟩ := run_append_lies (P := Tryd.prog) w 47 47 B 60 i0 _ 5 40 Tryd.underlying47 hi0 hz0 hz1 hz2 rfl (by omega) (.slice (some ⟨g0, 0, none⟩) n cap0) n (cellsPs xs) hown ⟨gs, os, none⟩ l.length c (cellsPs l) (cellsPs_len l)
      (fun j u hj => by
        have hjl : j < l.length * 5 := by
          rcases Nat.lt_or_ge j (l.length * 5) with h | h
          · exact h
          · rw [List.getElem?_eq_none (by rw [cellsPs_len]; exact h)] at hj; cases hj
        have hi : j / 5 < l.length := by omega
        have hr5 : j % 5 < 5 := Nat.mod_lt _ (by omega)
        have ej : j / 5 * 5 + j % 5 = j := by omega
        have hadd : (⟨gs, os, none⟩ : Addr).add j = ⟨gs, os + j / 5 * 5 + j % 5, none⟩ := by
          have e2 : os + j / 5 * 5 + j % 5 = os + j := by omega
          rw [e2]; unfold Addr.add; split <;> simp_all
        rw [hadd]
        rw [← ej, cellsPs_at l _ _ hi hr5] at hj
        obtain ⟨c0, c1, c2, c3, c4⟩ := hc (j / 5) hi
        generalize l.getD (j / 5) zSp = d at *
        have h5 : j % 5 = 0 ∨ j % 5 = 1 ∨ j % 5 = 2 ∨ j % 5 = 3 ∨ j % 5 = 4 := by omega
        rcases h5 with h | h | h | h | h
        all_goals
          rw [h] at hj ⊢
          simp only [cellsP, List.getElem?_cons_zero, List.getElem?_cons_succ, Option.some.injEq] at hj
          subst hj
        · exact c0
        · exact c1
        · exact c2
        · exact c3
        · exact c4)
      (fun u hu => by
        obtain ⟨d, _, hd⟩ := List.mem_flatMap.1 hu
        simp only [cellsP, List.mem_cons, List.not_mem_nil, or_false] at hd
        rcases hd with rfl | rfl | rfl | rfl | rfl <;> rfl)
      (by omega) (by unfold maxLen; omega) (by omega) hB _ rfl
    have e : cellsPs (xs ++ l) = cellsPs xs ++ cellsPs l := by simp [cellsPs]
    rw [e]
    exact ⟨g, cap, w', hr, h2, h3⟩
/-- An append whose run is known, at a plain region's list. -/
theorem wpList_append_run {P : Program} {ops : Array Oper} {rest : List Oper} {o : Oper} {a : Act} {w : World} {Q : Exit → Act → World → Prop} (hgd : o.guard = none) (s x : Operand) (t : TypeId)
    (ho : o.op = .call { callee := .builtin .append, args := #[s, x], argTypes := #[t, t] }) (v u v' : Value) (w' : World) (hs : a.eval s = v) (hx : a.eval x = u)
    (hr : (Builtin.append_ #[t, t] o.type #[v, u]).run P w = .ok v' w') (h : wpList P ops Q rest (a.put o.dst v') w') : wpList P ops Q (o :: rest) a w :=
  wpList_plain hgd fun K hK => by
    unfold Oper.wp execOp
    simp only [ho, resolve, invoke, builtin, Sem.run_bind, Sem.run_pure, Result.andThen_ok, List.map_toArray, List.map_cons, List.map_nil, hs, hx, hr]
    exact hK _ _ h
theorem runY_from {lim : Nat} {H : List Int} : ∀ (l : List Sp) (L : List Nd) (Y : List Int) (i : Nat), ((runY lim H l L Y i).e ≠ 0 → i ≤ (runY lim H l L Y i).i) ∧ ((runY lim H l L Y i).e = 0 → ∃ Z, (runY lim H l L Y i).Y = Y ++ Z)
  | [], L, Y, i => ⟨fun he => absurd rfl he, fun _ => ⟨[], by simp [runY]⟩⟩
  | s :: r, L, Y, i => by
    by_cases e0 : (stepY lim H L Y s).e = 0
    · have a1 : runY lim H (s :: r) L Y i = runY lim H r (stepY lim H L Y s).L (Y ++ [(stepY lim H L Y s).r]) (i + 1) := by rw [runY, if_pos e0]
      rw [a1]
      obtain ⟨h1, h2⟩ := runY_from r (stepY lim H L Y s).L (Y ++ [(stepY lim H L Y s).r]) (i + 1)
      refine ⟨fun he => by have := h1 he; omega, fun he => ?_⟩
      obtain ⟨Z, hZ⟩ := h2 he
      exact ⟨(stepY lim H L Y s).r :: Z, by rw [hZ]; simp⟩
    · have a1 : runY lim H (s :: r) L Y i = ⟨L, [], i, (stepY lim H L Y s).e⟩ := by rw [runY, if_neg e0]
      rw [a1]
      exact ⟨fun _ => Nat.le_refl _, fun he => absurd he e0⟩
end Go.Proofs.YtlckajnbmkkpeaaDoor

/- Layer 4: an append of one int to a row that the call owns: its spare cells are ints too. -/
namespace Go.Proofs.YtlckajnbmkkpeaaDoor
open Go.RowKit Go.Maps

/-- The block that a value lies in holds ints alone. -/
def IntB (w : World) (v : Value) : Prop := ∀ g, v.ownBlock = some g → ∃ cur, w.heap[g]? = some (.cells cur 3 (0, 0)) ∧ ∀ u ∈ cur.toList, ∃ z, u = .int .i64 z
theorem IntB.none {w : World} : IntB w (.slice none 0 0) := fun g h => by cases h
theorem IntB.keep {w w' : World} {v : Value} (h : IntB w v) (hb : ∀ g, v.ownBlock = some g → w'.heap[g]? = w.heap[g]?) : IntB w' v := fun g e => by
  obtain ⟨cur, hc, hu⟩ := h g e
  exact ⟨cur, (hb g e).trans hc, hu⟩
theorem zero_mem {n : Nat} {u : Value} (h : u ∈ (Builtin.zeroCells #[.int .i64 0] n).toList) : ∃ z, u = .int .i64 z := by
  unfold Builtin.zeroCells at h
  simp at h
  obtain ⟨a, _, ha⟩ := h
  rw [Nat.mod_one] at ha
  exact ⟨0, ha.symm⟩
theorem app_int {w : World} {B n : Nat} {v : Value} {xs : List Int} {r : Int} (hown : w.ownsRow B 3 1 v n (xs.map (Value.int .i64))) (hI : IntB w v) (hB : B ≤ w.heap.size) (hn : n ≤ 1000) (ad : Addr) (had : w.cell? ad = some (.int .i64 r)) :
    ∃ g cap w', (Builtin.append_ #[23, 23] 23 #[v, .slice (some ad) 1 1]).run Tryd.prog w = .ok (.slice (some ⟨g, 0, none⟩) (n + 1) cap) w' ∧ w'.ownsRow B 3 1 (.slice (some ⟨g, 0, none⟩) (n + 1) cap) (n + 1) (xs.map (Value.int .i64) ++ [.int .i64 r]) ∧ w.grownBy w' v.ownBlock ∧ IntB w' (.slice (some ⟨g, 0, none⟩) (n + 1) cap) := by
  obtain ⟨i0, hi0, hz0, hz1, hz2⟩ := info_parts Tryd.infoI4
  have hnews : ∀ j u, [Value.int .i64 r][j]? = some u → w.cell? (ad.add j) = some u := by
    intro j u hj
    match j, hj with
    | 0, hj => simp at hj; subst hj; simpa [Addr.add] using had
  have h1 : ∀ u ∈ [Value.int .i64 r], u.oneCell' = true := by intro u hu; simp at hu; subst hu; rfl
  have hl0 : (xs.map (Value.int .i64)).length = n * 1 := hown.1
  obtain ⟨g, cap, w', hr, h2, h3, h4, h5⟩ := run_append_lies (P := Tryd.prog) w 23 23 B 3 i0 (.int .i64 0) 1 8 Tryd.underlying23 hi0 hz0 hz1 hz2 rfl (by decide) v n _ hown ad 1 1 [.int .i64 r] rfl hnews h1 (by decide) (by unfold maxLen; omega) (by omega) hB _ rfl
  refine ⟨g, cap, w', hr, h2, h3, ?_⟩
  have hxs : ∀ u ∈ xs.map (Value.int .i64), ∃ z, u = .int .i64 z := fun u hu => by
    obtain ⟨z, _, e⟩ := List.mem_map.1 hu
    exact ⟨z, e.symm⟩
  intro g9 e9
  have e9 : g = g9 := Option.some.inj e9
  subst e9
  rcases hown.2 with ⟨rfl, rfl⟩ | ⟨b, cap0, cur, rfl, hbg, hg, hnc, hcm, hcs, htake⟩
  · have hr2 := run_append_nil (P := Tryd.prog) w 23 23 3 i0 (.int .i64 0) Tryd.underlying23 hi0 hz0 ad 1 1 [.int .i64 r] (by rw [hz1]; rfl) hnews (by decide) (by decide) (by rw [hz2]; decide)
    rw [hr] at hr2
    injection hr2 with e1 e2
    injection e1 with e3 e4 e5
    have e6 := congrArg Addr.block (Option.some.inj e3)
    obtain rfl : g = w.heap.size := e6
    rw [e2]
    refine ⟨_, heap_alloc_new w.drew _, fun u hu => ?_⟩
    rw [Array.toList_append, List.mem_append] at hu
    rcases hu with h | h
    · exact ⟨r, by simpa using h⟩
    · exact zero_mem h
  · by_cases hroom : n + 1 ≤ cap0
    · have hr2 := run_append_room (P := Tryd.prog) w 23 23 3 i0 Tryd.underlying23 hi0 b n cap0 cur hg ad 1 1 [.int .i64 r] (by rw [hz1]; rfl) hnews h1 hroom (by rw [hz1, hcs]; simpa using hroom)
      rw [hr] at hr2
      injection hr2 with e1 e2
      injection e1 with e3 e4 e5
      have e6 := congrArg Addr.block (Option.some.inj e3)
      obtain rfl : g = b := e6
      obtain ⟨cur', hc', hu'⟩ := hI g rfl
      obtain rfl : cur' = cur := by
        have := Option.some.inj (hc'.symm.trans hg)
        injection this
      rw [e2]
      refine ⟨_, setRow_heap w g cur' _ _ _ hg, fun u hu => ?_⟩
      simp only [List.mem_append] at hu
      rcases hu with (h | h) | h
      · exact hu' u (List.mem_of_mem_take h)
      · exact ⟨r, by simpa using h⟩
      · exact hu' u (List.mem_of_mem_drop h)
    · have holds : ∀ j u, (xs.map (Value.int .i64))[j]? = some u → w.cell? ((⟨b, 0, none⟩ : Addr).add j) = some u := hown.cells (g := b) rfl
      have hr2 := run_append_grow (P := Tryd.prog) w 23 23 3 i0 (.int .i64 0) Tryd.underlying23 hi0 hz0 ⟨b, 0, none⟩ n cap0 _ (by rw [hz1]; exact hl0) holds ad 1 1 [.int .i64 r] (by rw [hz1]; rfl) hnews (by omega) (by omega) (growslice_fits (by omega) (by rw [hz2]; omega))
      rw [hr] at hr2
      injection hr2 with e1 e2
      injection e1 with e3 e4 e5
      have e6 := congrArg Addr.block (Option.some.inj e3)
      obtain rfl : g = w.heap.size := e6
      rw [e2]
      refine ⟨_, heap_alloc_new w.drew _, fun u hu => ?_⟩
      rw [Array.toList_append, Array.toList_append, List.mem_append, List.mem_append] at hu
      rcases hu with (h | h) | h
      · exact hxs u h
      · exact ⟨r, by simpa using h⟩
      · exact zero_mem h
/-- No row of nodes lies there. -/
theorem IntB.far {w : World} {v : Value} {g2 : Nat} {L : List Nd} (h : IntB w v) (hr : rowAt w g2 L) (hp : 0 < L.length) : v.ownBlock ≠ some g2 := fun e => by
  obtain ⟨cur, hc, hu⟩ := h g2 e
  have h1 := (hr 0 hp).2.1
  simp only [Nat.zero_mul, Nat.zero_add] at h1
  rw [cell_of_row w g2 1 _ _ _ hc] at h1
  have hm : (Value.int .u64 (L.getD 0 zN).n) ∈ cur.toList := by
    obtain ⟨hi, he⟩ := Array.getElem?_eq_some_iff.1 h1
    rw [← he]
    simp
  obtain ⟨z, e2⟩ := hu _ hm
  cases e2
end Go.Proofs.YtlckajnbmkkpeaaDoor

/- Layer 4: walks of the law: Of. -/
namespace Go.Proofs.YtlckajnbmkkpeaaDoor
open Go.RowKit Go.Maps

theorem Tryd.infoS4 : (Tryd.prog.info? 101).map (fun i => (i.zero, i.size, i.bytes)) = some (some (.agg #[.int .i64 0, .int .u64 0, .int .i64 0, .int .i64 0, .int .i64 0]), 5, 40) := by kernel_rfl
theorem stepsV_own {w : World} {B t : Nat} {v : Value} {l : List Sp} (h : w.ownsRow B t 5 v l.length (cellsPs l)) : ∃ s c, v = .slice s l.length c ∧ StepsV w s l := by
  obtain ⟨s, c, rfl⟩ := own_form h
  refine ⟨s, c, rfl, fun h0 => ?_⟩
  rcases h.2 with ⟨_, e0⟩ | ⟨g, cap, cur, e, _⟩
  · omega
  · have e1 : s = some ⟨g, 0, none⟩ := by injection e
    subst e1
    have hlt := (h.lt g rfl).2
    refine ⟨g, 0, rfl, hlt, fun i hi => ?_⟩
    have key : ∀ r, r < 5 → w.cell? ⟨g, 0 + i * 5 + r, none⟩ = (cellsP (l.getD i zSp))[r]? := fun r hr => by
      rw [Nat.zero_add, h.cellAt (i * 5 + r) (by omega), cellsPs_at l i r hi hr]
    exact ⟨key 0 (by omega), key 1 (by omega), key 2 (by omega), key 3 (by omega), key 4 (by omega)⟩
set_option maxRecDepth 100000 in
set_option maxHeartbeats 8000000 in
theorem of_any (ss : Option Addr) (cs : Nat) (l : List Sp) (w : World) (hS : StepsV w ss l) (hll : l.length ≤ 30) :
    Calls Tryd.prog 27 #[.slice ss l.length cs] w fun e w' => ∃ s c, e = .returned (.slice s l.length c) ∧ StepsV w' s l ∧ Below w.heap.size w w' := by
  have HS := Lib.hid hS
  obtain ⟨i0, hi0, hz0, hz1, hz2⟩ := info_parts Tryd.infoS4
  obtain ⟨n, hn⟩ : ∃ n, n = l.length := ⟨_, rfl⟩
  have HN := Lib.hid hn
  rw [← hn] at hll ⊢
  clear hS hn
  go_enter Tryd.func27, Tryd.ntmps27
  go_wp2_with fail
  go_loopg [3, 5, 8] n (fun q u3 _ u8 wr => ∃ k : Nat, k + q = n ∧ u8 = .int .i64 k ∧ Aside (wr.ownsRow w.heap.size 101 5 u3 k (cellsPs (l.take k))) ∧ Aside (Below w.heap.size w wr))
  case atStart => exact ⟨0, by omega, rfl, World.ownsRow_nil _ _ _ _, Below.refl _ _⟩
  case round =>
    obtain ⟨k, hkq, rfl, how, hbe⟩ := hrel
    have HOW := Lib.hid how.out
    have HBE := Lib.hid hbe.out
    clear how hbe
    obtain ⟨sp, cp, hv⟩ := own_form HOW.out
    subst hv
    by_cases hlt : k < n
    · obtain ⟨gs, os, rfl, hgs, hcs⟩ := HS.out (by have := HN.out; omega)
      obtain ⟨x0, x1, x2, x3, x4⟩ := hcs k (by have := HN.out; omega)
      obtain ⟨s, hs0⟩ : ∃ s, s = l.getD k zSp := ⟨_, rfl⟩
      rw [← hs0] at x0 x1 x2 x3 x4
      have HSK := Lib.hid hs0
      clear hs0 hcs
      obtain ⟨op, nn, a, b, c⟩ := s
      simp only at x0 x1 x2 x3 x4
      have lg : gs < wr.heap.size := Nat.lt_of_lt_of_le hgs HBE.out.size
      have y0 : wr.cell? ⟨gs, os + k * 5, none⟩ = some (.int .i64 op) := (HBE.out.cell (p := ⟨gs, _, none⟩) hgs).trans x0
      have y1 : wr.cell? ⟨gs, os + k * 5 + 1, none⟩ = some (.int .u64 nn) := (HBE.out.cell (p := ⟨gs, _, none⟩) hgs).trans x1
      have y2 : wr.cell? ⟨gs, os + k * 5 + 2, none⟩ = some (.int .i64 a) := (HBE.out.cell (p := ⟨gs, _, none⟩) hgs).trans x2
      have y3 : wr.cell? ⟨gs, os + k * 5 + 3, none⟩ = some (.int .i64 b) := (HBE.out.cell (p := ⟨gs, _, none⟩) hgs).trans x3
      have y4 : wr.cell? ⟨gs, os + k * 5 + 4, none⟩ = some (.int .i64 c) := (HBE.out.cell (p := ⟨gs, _, none⟩) hgs).trans x4
      clear x0 x1 x2 x3 x4
      have hk2 : (k : Int) < n := by omega
      go_wp2_with (at_builtin; refine wpList_append_own _ rfl _ _ 54 rfl w.heap.size 101 i0 (.agg #[.int .i64 0, .int .u64 0, .int .i64 0, .int .i64 0, .int .i64 0]) 5 40 Tryd.underlying54 hi0 hz0 hz1 hz2 rfl (by decide) _ _ _ rfl (World.ownsRow.alloc (World.ownsRow.alloc HOW.out _) _) ⟨wr.heap.size + 1, 0, none⟩ 1 1 [.int .i64 op, .int .u64 nn, .int .i64 a, .int .i64 b, .int .i64 c] rfl rfl ?c1 ?c2 ?c3 ?c4 ?c5 ?_)
      case c1 =>
        intro j u hj
        match j, hj with
        | 0, hj => simp at hj; subst hj; simp [Addr.add]
        | 1, hj => simp at hj; subst hj; simp [Addr.add]
        | 2, hj => simp at hj; subst hj; simp [Addr.add]
        | 3, hj => simp at hj; subst hj; simp [Addr.add]
        | 4, hj => simp at hj; subst hj; simp [Addr.add]
      case c2 => intro u hu; simp at hu; rcases hu with rfl | rfl | rfl | rfl | rfl <;> rfl
      case c3 => unfold maxLen; omega
      case c4 => omega
      case c5 => have := HBE.out.size; simp; omega
      intro v4 w4 hown4 hgr4 _
      have HN4 : Hid (w4.ownsRow w.heap.size 101 5 v4 (k + 1) (cellsPs (l.take (k + 1))) ∧ Below w.heap.size w w4) := Lib.hid (by
        refine ⟨?_, ?_⟩
        · have ek : cellsPs (l.take (k + 1)) = cellsPs (l.take k) ++ [.int .i64 op, .int .u64 nn, .int .i64 a, .int .i64 b, .int .i64 c] := by
            have hkl : k < l.length := by have := HN.out; omega
            have e9 : l[k] = ⟨op, nn, a, b, c⟩ := by rw [HSK.out, List.getD_eq_getElem?_getD, List.getElem?_eq_getElem hkl]; rfl
            rw [List.take_add_one, List.getElem?_eq_getElem hkl, e9]
            simp [cellsPs, cellsP]
          rw [ek]; exact hown4
        · have h2 := HBE.out
          exact ((h2.alloc h2.size _).alloc (by have := h2.size; simp; omega) _).grown hgr4 (by have := h2.size; simp; omega) (fun q e => (HOW.out.lt q e).1))
      clear hown4 hgr4
      go_wp2_with fail
      go_roundg (n - (k + 1))
      case measure => omega
      case rel => exact ⟨k + 1, by omega, by go_num, HN4.out.1, HN4.out.2⟩
    · have hk2 : ¬ (k : Int) < n := by omega
      obtain rfl : k = n := by omega
      go_wp2_with fail
      go_ret
      have h9 := HOW.out
      have hk3 := HN.out
      subst hk3
      rw [List.take_length] at h9
      obtain ⟨s, c, e, hsv⟩ := stepsV_own h9
      exact ⟨s, ⟨c, congrArg Ending.returned e⟩, hsv, HBE.out⟩
end Go.Proofs.YtlckajnbmkkpeaaDoor

/- Layer 4: the walk of kitchen, with what its rows are apart from. -/
namespace Go.Proofs.YtlckajnbmkkpeaaDoor
open Go.RowKit Go.Maps

/-- What kitchen leaves. -/
def KtPost2 (_x : Int) (lim : Nat) (L : List Nd) (refs : List Int) (w : World) (e : Ending) (w' : World) : Prop :=
  ∃ bk b g bm cap gr capr mk hv K, e = .returned (.tuple #[.pointer (some ⟨b, 0, none⟩), .agg #[.int .i64 lim, .slice (some ⟨gr, 0, none⟩) L.length capr], .pointer (some ⟨bk, 0, none⟩)]) ∧
    Kx w w' bk b g bm cap lim L mk hv (refs.filter fun x => hasB L.length x) K ∧ Apart w' bk mk hv gr ∧ rowAt w' gr L ∧ (∀ y, K y = true ↔ lrn L refs y) ∧ gr ≠ b ∧ gr ≠ g ∧ gr ≠ bm

set_option maxRecDepth 100000 in
set_option maxHeartbeats 8000000 in
theorem kitchen2_any (s sr : Option Addr) (c cr : Nat) (ns : List Nd) (refs : List Int) (x : Int) (lim : Nat) (hx : limZ x = lim) (hn : refs.length ≤ 30) (w : World) (hB : BuiltAt w (.slice s ns.length c) ns) (hI : IntsV w sr refs) (W : World) (hW : Below w.heap.size w W) :
    Calls Tryd.prog 24 #[.int .i64 x, .slice s ns.length c, .slice sr refs.length cr] W (KtPost2 x lim (bld lim ns) refs W) := by
  obtain ⟨L, hLe, HBu⟩ : ∃ L, L = bld lim ns ∧ Hid (Calls Tryd.prog 19 #[.int .i64 x, .slice s ns.length c] (W.alloc (.cells #[.int .i64 0, .slice none 0 0] 29)) fun e w' => ∃ b g bm cap gr capr, e = .returned (.tuple #[.pointer (some ⟨b, 0, none⟩), .agg #[.int .i64 lim, .slice (some ⟨gr, 0, none⟩) L.length capr], .bool true]) ∧ Pair (W.alloc (.cells #[.int .i64 0, .slice none 0 0] 29)) w' b g bm cap gr capr lim L) := ⟨bld lim ns, rfl, Lib.hid (hB x lim hx _ (hW.alloc hW.size _))⟩
  rw [← hLe]
  have HIV := Lib.hid (hI.keep hW)
  clear hB hI hLe hW hx
  have hn' : ¬ (30 : Int) < (refs.length : Int) := by omega
  go_enter Tryd.func24, Tryd.ntmps24
  go_wp2_with (first
    | (go_at_call 19; refine HBu.out.mono ?_; rintro e w1 ⟨b, g, bm, cap, gr, capr, rfl, hP⟩; have HNE := Lib.hid (And.intro hP.nb (And.intro hP.ng hP.nm)))
    | (go_at_call 30; refine (ky_new hP).mono ?_; rintro e w2 ⟨bk, mk, rfl, hK2⟩; have HK2 := Lib.hid hK2; clear hK2))
  have hW1 : (W.alloc (.cells #[.int .i64 0, .slice none 0 0] 29)).heap.size = W.heap.size + 1 := by simp
  have HWB : Hid (Below W.heap.size W (W.alloc (.cells #[.int .i64 0, .slice none 0 0] 29))) := Lib.hid ((Below.refl _ _).alloc (Nat.le_refl _) _)
  have HRB : Hid ((W.alloc (.cells #[.int .i64 0, .slice none 0 0] 29)).heap[W.heap.size]? = some (.cells #[.int .i64 0, .slice none 0 0] 29 (0, 0))) := Lib.hid (heap_alloc_new _ _)
  clear hP HBu
  generalize W.alloc (.cells #[.int .i64 0, .slice none 0 0] 29) = W1 at *
  generalize w1.heap.size = pb at *
  have hlen9 : refs.length ≤ 30 := hn
  go_loopg [14, 37] refs.length (fun q _ u37 wr => ∃ i : Nat, i + q = refs.length ∧ u37 = .int .i64 i ∧ ∃ hv K, Aside (Ky W1 wr pb gr capr bk b g bm cap lim L mk hv ((refs.take i).filter fun x => hasB L.length x) K ∧ ∀ y, K y = true ↔ lrn L (refs.take i) y))
  case atStart => exact ⟨0, by omega, rfl, _, _, ⟨HK2.out, fun y => ⟨fun h => (by cases h), fun h => absurd h (lrn_nil L y)⟩⟩⟩
  case round =>
    obtain ⟨i, hiq, rfl, hv, K, hAs⟩ := hrel
    obtain ⟨hKy, hKl⟩ := hAs.out
    clear hAs
    have z0 := hKy.z0
    have z1 := hKy.z1
    have lz := hKy.ap.lt
    by_cases hlt : i < refs.length
    · obtain ⟨gl, ol, rfl, hgl, hia⟩ := HIV.out (by omega)
      have hbw : Below W.heap.size W wr := HWB.out.trans (hKy.kx.st.bel.mono (by omega))
      have hx0 : wr.cell? ⟨gl, ol + i, none⟩ = some (.int .i64 (refs.getD i 0)) := (hia.keep (hbw.block _ hgl)) i hlt
      have hi' : (i : Int) < refs.length := by omega
      have htk : refs.take (i + 1) = refs.take i ++ [refs.getD i 0] := by
        rw [List.take_succ_eq_append_getElem hlt, List.getD_eq_getElem?_getD, List.getElem?_eq_getElem hlt]; rfl
      obtain ⟨x, hx⟩ : ∃ x, x = refs.getD i 0 := ⟨_, rfl⟩
      rw [← hx] at hx0 htk
      have HTK := Lib.hid htk
      have hlen : ((refs.take i).filter fun x => hasB L.length x).length ≤ 1000000 := Nat.le_trans (List.length_filter_le _ _) (by rw [List.length_take]; omega)
      have HKY := Lib.hid hKy
      have HKL := Lib.hid hKl
      clear hKl hia hx htk hbw
      cases hh : hasB L.length x with
      | true =>
        have HLE := Lib.hid (learn_any hKy.kx.kn hlen x hh)
        have HNX : Hid (∀ w3 hv3 K3, Ky W1 w3 pb gr capr bk b g bm cap lim L mk hv3 (((refs.take i).filter fun x => hasB L.length x) ++ [x]) K3 → (∀ y, K3 y = true ↔ cl L (fun z => K z = true ∨ z = x) y) → ∃ hv K, Aside (Ky W1 w3 pb gr capr bk b g bm cap lim L mk hv ((refs.take (i + 1)).filter fun x => hasB L.length x) K ∧ ∀ y, K y = true ↔ lrn L (refs.take (i + 1)) y)) := Lib.hid (fun w3 hv3 K3 h1 h2 => ⟨hv3, K3, ⟨by rw [HTK.out, filter_snoc, if_pos hh]; exact h1, fun y => by
          rw [h2 y, HTK.out, lrn_snoc hh]
          have e : (fun z => K z = true ∨ z = x) = fun z => lrn L (refs.take i) z ∨ z = x := funext fun z => propext (or_congr (HKL.out z) Iff.rfl)
          rw [e]⟩⟩)
        clear hKy hh
        go_wp2_with (go_at_call 22; refine HLE.out.mono ?_; rintro e w3 ⟨hv3, K3, rfl, hN3, hC3, hL3⟩; have hK3 := HKY.out.learn hN3 hL3; have HK3 := Lib.hid hK3; have HC3 := Lib.hid hC3; clear hN3 hL3 hK3 hC3)
        go_roundg (refs.length - (i + 1))
        case rel => exact ⟨i + 1, by omega, by simp, HNX.out _ _ _ HK3.out HC3.out⟩
        case measure => omega
      | false =>
        have HLE := Lib.hid (learn_bad hKy.kx.kn x hh)
        have HNX : Hid (∀ w3, Ky W1 w3 pb gr capr bk b g bm cap lim L mk hv ((refs.take i).filter fun x => hasB L.length x) K → ∃ hv K, Aside (Ky W1 w3 pb gr capr bk b g bm cap lim L mk hv ((refs.take (i + 1)).filter fun x => hasB L.length x) K ∧ ∀ y, K y = true ↔ lrn L (refs.take (i + 1)) y)) := Lib.hid (fun w3 h1 => ⟨hv, K, ⟨by rw [HTK.out, filter_snoc, if_neg (by rw [hh]; simp)]; exact h1, fun y => by rw [HTK.out, lrn_skip hh]; exact HKL.out y⟩⟩)
        clear hKy hh
        go_wp2_with (go_at_call 22; refine HLE.out.mono ?_; rintro e w3 ⟨rfl, hb3⟩; have hK3 := HKY.out.keep hb3; have HK3 := Lib.hid hK3; clear hb3 hK3)
        go_roundg (refs.length - (i + 1))
        case rel => exact ⟨i + 1, by omega, by simp, HNX.out _ HK3.out⟩
        case measure => omega
    · obtain rfl : i = refs.length := by omega
      rw [List.take_length] at hKy hKl
      have HKY := Lib.hid hKy
      have HKL := Lib.hid hKl
      have hbx : wr.heap[W.heap.size]? = some (.cells #[.int .i64 0, .slice none 0 0] 29 (0, 0)) := (hKy.kx.st.bel.block _ (by omega)).trans HRB.out
      have HBX := Lib.hid hbx
      have hpw : pb ≠ W.heap.size := fun e => by have := hKy.box; rw [e, hbx] at this; simp at this
      have y0 : wr.cell? ⟨W.heap.size, 0, none⟩ = some (.int .i64 0) := by rw [cell_of_row wr _ 0 _ _ _ hbx]; rfl
      have y1 : wr.cell? ⟨W.heap.size, 1, none⟩ = some (.slice none 0 0) := by rw [cell_of_row wr _ 1 _ _ _ hbx]; rfl
      have x0 : wr.frozen? ⟨W.heap.size, 0, none⟩ = false := frozen_of_row _ _ _ _ _ hbx
      have x1 : wr.frozen? ⟨W.heap.size, 1, none⟩ = false := frozen_of_row _ _ _ _ _ hbx
      have lw : W.heap.size < wr.heap.size := lt_of_heap hbx
      clear hKy hKl hbx
      have HE : Hid (KtPost2 x lim L refs W (.returned (.tuple #[.pointer (some ⟨b, 0, none⟩), .agg #[.int .i64 lim, .slice (some ⟨gr, 0, none⟩) L.length capr], .pointer (some ⟨bk, 0, none⟩)])) ((wr.setCell ⟨W.heap.size, 0, none⟩ (.int .i64 lim)).setCell ⟨W.heap.size, 1, none⟩ (.slice (some ⟨gr, 0, none⟩) L.length capr)).drew) := Lib.hid (by
        have hK3 := HKY.out
        have hsz : ((wr.setCell ⟨W.heap.size, 0, none⟩ (.int .i64 lim)).setCell ⟨W.heap.size, 1, none⟩ (.slice (some ⟨gr, 0, none⟩) L.length capr)).drew.heap.size = wr.heap.size := set2_size _ _ _ _
        have hk : ∀ k, W1.heap.size ≤ k → ((wr.setCell ⟨W.heap.size, 0, none⟩ (.int .i64 lim)).setCell ⟨W.heap.size, 1, none⟩ (.slice (some ⟨gr, 0, none⟩) L.length capr)).drew.heap[k]? = wr.heap[k]? := fun k hk => set2_block _ _ _ _ _ (by omega)
        have hbW : Below W.heap.size W wr := HWB.out.trans (hK3.kx.st.bel.mono (by omega))
        have hgr : gr ≠ W.heap.size := fun e => row_ne' hK3 e HBX.out (Below.refl _ _)
        exact ⟨bk, b, g, bm, cap, gr, capr, mk, hv, K, rfl, hK3.kx.lift hk (set2_below hbW (Nat.le_refl _) _ _).drew (by omega), hK3.ag.lift (by omega), hK3.row.keep (show ((wr.setCell ⟨W.heap.size, 0, none⟩ (.int .i64 lim)).setCell ⟨W.heap.size, 1, none⟩ (.slice (some ⟨gr, 0, none⟩) L.length capr)).drew.heap[gr]? = wr.heap[gr]? from set2_block _ _ _ _ _ hgr), HKL.out, HNE.out⟩)
      have s0 := (World.cell?_of_block (a := ⟨pb, 0, none⟩) (set2_block wr W.heap.size pb (.int .i64 lim) (.slice (some ⟨gr, 0, none⟩) L.length capr) hpw)).trans z0
      have s1 := (World.cell?_of_block (a := ⟨pb, 1, none⟩) (set2_block wr W.heap.size pb (.int .i64 lim) (.slice (some ⟨gr, 0, none⟩) L.length capr) hpw)).trans z1
      have g1 : ((wr.setCell ⟨W.heap.size, 0, none⟩ (.int .i64 lim)).setCell ⟨W.heap.size, 1, none⟩ (.slice (some ⟨gr, 0, none⟩) L.length capr)).heap[W.heap.size]? = some (.cells #[.int .i64 lim, .slice (some ⟨gr, 0, none⟩) L.length capr] 29 (0, 0)) := set2_box HBX.out
      have g2 : ((wr.setCell ⟨W.heap.size, 0, none⟩ (.int .i64 lim)).setCell ⟨W.heap.size, 1, none⟩ (.slice (some ⟨gr, 0, none⟩) L.length capr)).cell? ⟨W.heap.size, 0, none⟩ = some (.int .i64 lim) := (cell_of_row _ _ 0 _ _ _ g1).trans rfl
      have g3 : ((wr.setCell ⟨W.heap.size, 0, none⟩ (.int .i64 lim)).setCell ⟨W.heap.size, 1, none⟩ (.slice (some ⟨gr, 0, none⟩) L.length capr)).cell? ⟨W.heap.size, 1, none⟩ = some (.slice (some ⟨gr, 0, none⟩) L.length capr) := (cell_of_row _ _ 1 _ _ _ g1).trans rfl
      have g4 : (wr.setCell ⟨W.heap.size, 0, none⟩ (.int .i64 lim)).cell? ⟨W.heap.size, 0, none⟩ = some (.int .i64 lim) := by
        have h5 : (wr.setCell ⟨W.heap.size, 0, none⟩ (.int .i64 lim)).heap[W.heap.size]? = some (.cells #[.int .i64 lim, .slice none 0 0] 29 (0, 0)) := by
          have hb9 := HBX.out
          simp [World.setCell, hb9, Array.getElem?_modify]
        exact (cell_of_row _ _ 0 _ _ _ h5).trans rfl
      clear g1
      go_wp2_with fail
      go_region_held3 (fun w' => w'.cell? ⟨pb, 0, none⟩ = some (.int .i64 lim) ∧ w'.cell? ⟨pb, 1, none⟩ = some (.slice (some ⟨gr, 0, none⟩) L.length capr)) (first | exact ⟨s0, s1⟩ | exact ⟨z0, z1⟩ | go_keep)
        (fail)
      go_wp2_with fail
      exact bodyPost_ret (v := .tuple #[.pointer (some ⟨b, 0, none⟩), .agg #[.int .i64 lim, .slice (some ⟨gr, 0, none⟩) L.length capr], .pointer (some ⟨bk, 0, none⟩)]) (by simp [results, Tryd.results24, go_sem, g2, g3]) rfl HE.out
end Go.Proofs.YtlckajnbmkkpeaaDoor
