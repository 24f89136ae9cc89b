/- The walk of the document's own answer for layer 2: a row's node (node). -/
import Derived.Test.YtmnmjekpndeemaaGreatDoorUf
namespace Go.Proofs.YtmnmjekpndeemaaGreatDoor
open Go.RowKit Go.Maps

theorem rall_app {A B : List (List UInt8)} : rall (A ++ B) = (rall A).bind fun ra => (rall B).bind fun rb => some (ra ++ rb) := by
  induction A with
  | nil => cases h : rall B <;> simp [rall, h]
  | cons y l ih =>
    simp only [List.cons_append, rall, ih]
    cases rnum y with
    | none => rfl
    | some u =>
      cases rall l with
      | none => rfl
      | some r => cases rall B <;> simp
theorem rall_len {l : List (List UInt8)} {r : List Nat} (h : rall l = some r) : r.length = l.length := pall_len (rall_pall h).1
/-- What a row's node is. -/
def rspec (had : List Int) (W : List (List UInt8)) : Option Nd := (rall W).bind (prow had)
theorem rall_at {W : List (List UInt8)} {k : Nat} (hk : k < W.length) {r : List Nat} (h : rall (W.take k) = some r) : rall W = (rnum W[k]).bind fun u => (rall (W.drop (k + 1))).bind fun rb => some (r ++ u :: rb) := by
  conv => lhs; rw [← List.take_append_drop k W, List.drop_eq_getElem_cons hk]
  rw [rall_app, h]
  simp only [Option.bind_some, rall]
  cases rnum W[k] with
  | none => rfl
  | some u => cases rall (W.drop (k + 1)) <;> rfl
section
variable {had : List Int} {W : List (List UInt8)} {k : Nat} (hk : k < W.length) {r : List Nat} (h : rall (W.take k) = some r)
include hk h
theorem rspec_num (hn : rnum W[k] = none) : rspec had W = none := by unfold rspec; rw [rall_at hk h, hn]; rfl
theorem rspec_of {u : Nat} (hn : rnum W[k] = some u) (hp : ∀ rb : List Nat, rb.length + k + 1 = W.length → prow had (r ++ u :: rb) = none) : rspec had W = none := by
  unfold rspec
  rw [rall_at hk h, hn]
  cases hb : rall (W.drop (k + 1)) with
  | none => rfl
  | some rb =>
    have := rall_len hb
    exact hp rb (by rw [this]; simp; omega)
theorem rspec_kind {u : Nat} (hn : rnum W[k] = some u) (h0 : k = 0) (hu : 10 ≤ u) : rspec had W = none := by
  have hr := rall_len h
  refine rspec_of hk h hn fun rb _ => prow_big ?_
  subst h0
  simp at hr
  subst hr
  simpa using hu
theorem rspec_idx {u : Nat} (hn : rnum W[k] = some u) (h2 : 2 ≤ k) (hu : had.length ≤ u) : rspec had W = none := by
  have hr := rall_len h
  rw [List.length_take, Nat.min_eq_left (by omega)] at hr
  refine rspec_of hk h hn fun rb hb => prow_idx (j := k - 2) (by simp; omega) ?_
  rw [show 2 + (k - 2) = r.length by omega, List.getD_eq_getElem?_getD, List.getElem?_append_right (Nat.le_refl _)]
  simpa using hu
theorem rspec_long (h5 : 5 ≤ k) : rspec had W = none := by
  cases hn : rnum W[k] with
  | none => exact rspec_num hk h hn
  | some u =>
    have hr := rall_len h
    rw [List.length_take, Nat.min_eq_left (by omega)] at hr
    refine rspec_of hk h hn fun rb hb => prow_len ?_
    have := many_range (((r ++ u :: rb).getD 0 0 : Nat) : Int)
    simp only [List.length_append, List.length_cons]
    omega
theorem rall_next {u : Nat} (hn : rnum W[k] = some u) : rall (W.take (k + 1)) = some (r ++ [u]) := by
  rw [List.take_succ_eq_append_getElem hk, rall_snoc, h, hn]; rfl
end

/-- What lies there while a row's node is read. -/
structure Nn (w wr : World) (v : Value) (P : List ByteArray) (d : Nd) : Prop where
  bel : Below w.heap.size w wr
  res : wr.heap[w.heap.size]? = some (.cells #[.int .i64 0, .int .u64 0, .int .i64 0, .int .i64 0, .int .i64 0] 48 (0, 0))
  nod : wr.heap[w.heap.size + 1]? = some (.cells #[.int .i64 d.k, .int .u64 d.n, .int .i64 d.a, .int .i64 d.b, .int .i64 d.c] 48 (0, 0))
  row : wr.ownsRow (w.heap.size + 2) 9 1 v P.length (P.map Value.string)
theorem Nn.drew {w wr : World} {v : Value} {P : List ByteArray} {d : Nd} (h : Nn w wr v P d) : Nn w wr.drew v P d := ⟨h.bel.drew, h.res, h.nod, h.row.drew⟩
theorem Nn.set {w wr : World} {v : Value} {P : List ByteArray} {d d' : Nd} (h : Nn w wr v P d) (j : Nat) (u : Value) (he : (#[Value.int .i64 d.k, .int .u64 d.n, .int .i64 d.a, .int .i64 d.b, .int .i64 d.c]).set! j u = #[.int .i64 d'.k, .int .u64 d'.n, .int .i64 d'.a, .int .i64 d'.b, .int .i64 d'.c]) : Nn w (wr.setCell ⟨w.heap.size + 1, j, none⟩ u) v P d' := by
  refine ⟨h.bel.setCell (by simp) _, ?_, ?_, ownsRow_setCell_other h.row (fun e => ?_) _⟩
  · rw [heap_setCell_other _ _ _ _ (by simp)]; exact h.res
  · simp only [World.setCell, Array.getElem?_modify, if_true, h.nod]
    rw [← he]; rfl
  · have := (h.row.lt _ e).1; simp at this
def ndR (had : List Int) (r : List Nat) : Nd := ⟨(r.getD 0 0 : Nat), (r.getD 1 0 : Nat), ptJ had r 0, ptJ had r 1, ptJ had r 2⟩

set_option maxRecDepth 100000 in
set_option maxHeartbeats 8000000 in
theorem node_any (s : ByteArray) (hs : s.size ≤ 16384) (had : List Int) (hh : had.length ≤ 16384) (B : Nat) (hv : Value) (w : World) (ho : w.ownsRow B 3 1 hv had.length (had.map (Value.int .i64))) :
    Calls Tryz.prog 21 #[.string s, hv] w fun e w' => (∃ d : Nd, e = .returned (.tuple #[.agg #[.int .i64 d.k, .int .u64 d.n, .int .i64 d.a, .int .i64 d.b, .int .i64 d.c], .bool (rspec had (spl 32 s.data.toList)).isSome]) ∧ ∀ d', rspec had (spl 32 s.data.toList) = some d' → d = d') ∧ Below w.heap.size w w' := by
  obtain ⟨sp, cp, rfl⟩ := own_slice ho
  have HO := Lib.hid ho; clear ho
  obtain ⟨W, hWe⟩ : ∃ W, W = spl 32 s.data.toList := ⟨_, rfl⟩
  rw [← hWe]
  have HWE := Lib.hid hWe
  clear hWe
  go_enter Tryz.func21, Tryz.ntmps21
  go_wp2_with (go_at_call 37; refine (words_any s hs _).mono ?_; rintro e w1 ⟨v, P, rfl, hW⟩)
  have hPl : P.length ≤ 16385 := by
    have := spl_len 32 s.data.toList
    rw [← hW.is, List.length_map, ← Lib.size_eq] at this
    omega
  have hP1 : 1 ≤ P.length := by
    have := spl_ne 32 s.data.toList
    rw [← hW.is] at this
    cases P with
    | nil => simp at this
    | cons a t => simp
  have HPS : Hid (∀ k, (h : k < P.length) → P[k].size ≤ 16384) := Lib.hid (fun k h => by
    have := spl_mem (c := 32) (l := s.data.toList) (p := P[k].data.toList) (by rw [← hW.is]; exact List.mem_map.2 ⟨_, List.getElem_mem h, rfl⟩)
    rw [Lib.size_eq] at hs ⊢; omega)
  have HIS := Lib.hid hW.is
  have HST : Hid (Nn w w1 v P ⟨0, 0, 0, 0, 0⟩) := Lib.hid ⟨((((Below.refl _ _).alloc (Nat.le_refl _) _).alloc (by simp) _).trans (hW.bel.mono (by simp; omega))), by
      rw [hW.bel.block _ (by simp; omega), Below.heap_alloc _ _ _ (by simp)]; exact heap_alloc_new w _, by
      rw [hW.bel.block _ (by simp)]; simpa using heap_alloc_new (w.alloc _) _, by simpa using hW.own⟩
  obtain ⟨sv, cv, rfl⟩ := own_slice hW.own
  clear hW
  have hWP : W = P.map (fun b => b.data.toList) := HWE.out.trans HIS.out.symm
  have HWL : Hid (W.length = P.length) := Lib.hid (by rw [hWP]; simp)
  have HWK : Hid (∀ k (h : k < P.length), ∃ h' : k < W.length, W[k] = P[k].data.toList) := Lib.hid (fun k h => ⟨by rw [HWL.out]; exact h, by simp [hWP]⟩)
  clear hWP
  go_loopg [8, 9, 10] P.length (fun q u8 _ _ wr => ∃ (k : Nat) (r : List Nat), k + q = P.length ∧ k ≤ 5 ∧ u8 = .int .i64 k ∧ rall (W.take k) = some r ∧ (∀ j, 2 + j < r.length → r.getD (2 + j) 0 < had.length) ∧ Nn w wr (.slice sv P.length cv) P (ndR had r))
  case atStart => exact ⟨0, [], by omega, by omega, rfl, rfl, fun j hj => by simp at hj, HST.out⟩
  case round =>
    obtain ⟨k, r, hkq, hk5, rfl, hr, hix, hN⟩ := hrel
    have HIX := Lib.hid hix
    clear hix
    have n0 : wr.cell? ⟨w.heap.size + 1, 0, none⟩ = some (.int .i64 (ndR had r).k) := (cell_of_row wr _ 0 _ _ _ hN.nod).trans rfl
    have n1 : wr.cell? ⟨w.heap.size + 1, 1, none⟩ = some (.int .u64 (ndR had r).n) := (cell_of_row wr _ 1 _ _ _ hN.nod).trans rfl
    have n2 : wr.cell? ⟨w.heap.size + 1, 2, none⟩ = some (.int .i64 (ndR had r).a) := (cell_of_row wr _ 2 _ _ _ hN.nod).trans rfl
    have n3 : wr.cell? ⟨w.heap.size + 1, 3, none⟩ = some (.int .i64 (ndR had r).b) := (cell_of_row wr _ 3 _ _ _ hN.nod).trans rfl
    have n4 : wr.cell? ⟨w.heap.size + 1, 4, none⟩ = some (.int .i64 (ndR had r).c) := (cell_of_row wr _ 4 _ _ _ hN.nod).trans rfl
    have f0 : wr.frozen? ⟨w.heap.size, 0, none⟩ = false := by simp [World.frozen?, hN.res]
    have f1 : wr.frozen? ⟨w.heap.size, 1, none⟩ = false := by simp [World.frozen?, hN.res]
    have f2 : wr.frozen? ⟨w.heap.size, 2, none⟩ = false := by simp [World.frozen?, hN.res]
    have f3 : wr.frozen? ⟨w.heap.size, 3, none⟩ = false := by simp [World.frozen?, hN.res]
    have f4 : wr.frozen? ⟨w.heap.size, 4, none⟩ = false := by simp [World.frozen?, hN.res]
    have z0 : wr.cell? ⟨w.heap.size, 0, none⟩ = some (.int .i64 0) := (cell_of_row wr _ 0 _ _ _ hN.res).trans rfl
    have z1 : wr.cell? ⟨w.heap.size, 1, none⟩ = some (.int .u64 0) := (cell_of_row wr _ 1 _ _ _ hN.res).trans rfl
    have z2 : wr.cell? ⟨w.heap.size, 2, none⟩ = some (.int .i64 0) := (cell_of_row wr _ 2 _ _ _ hN.res).trans rfl
    have z3 : wr.cell? ⟨w.heap.size, 3, none⟩ = some (.int .i64 0) := (cell_of_row wr _ 3 _ _ _ hN.res).trans rfl
    have z4 : wr.cell? ⟨w.heap.size, 4, none⟩ = some (.int .i64 0) := (cell_of_row wr _ 4 _ _ _ hN.res).trans rfl
    have hsz := lt_of_heap hN.nod
    have hsz0 := lt_of_heap hN.res
    obtain ⟨d, hd⟩ : ∃ d, d = ndR had r := ⟨_, rfl⟩
    rw [← hd] at n0 n1 n2 n3 n4 hN
    have HN := Lib.hid hN
    have HD := Lib.hid hd
    have HR := Lib.hid hr
    by_cases hlt : k < P.length
    · obtain ⟨gq, rfl⟩ : ∃ gq, sv = some ⟨gq, 0, none⟩ := by
        rcases hN.row.2 with ⟨h1, h2⟩ | ⟨gq, _, _, h1, _⟩
        · omega
        · exact ⟨gq, by injection h1⟩
      have cX : wr.cell? ⟨gq, k, none⟩ = some (.string P[k]) := by
        rw [hN.row.cellAt k (by omega)]
        simp [hlt]
      obtain ⟨hkW, hWk⟩ := HWK.out k hlt
      have hgl := World.block_lt_of_cell? wr _ cX
      obtain ⟨x, hx⟩ : ∃ x, x = P[k] := ⟨_, rfl⟩
      have HNU : Hid (∀ w', Calls Tryz.prog 38 #[.string x] w' fun e w2 => (∃ v : Nat, e = .returned (.tuple #[.int .u64 v, .bool (rnum W[k]).isSome]) ∧ v < 18446744073709551616 ∧ ∀ u, rnum W[k] = some u → v = u) ∧ w2 = w') := Lib.hid (fun w' => by
        rw [hWk, hx]; exact number_any _ (HPS.out k hlt) w')
      rw [← hx] at cX
      clear hN hd hr hx
      cases hnu : rnum W[k] with
      | none =>
        rw [hnu] at HNU
        have HF : Hid (rspec had W = none) := Lib.hid (rspec_num hkW HR.out hnu)
        clear hnu hWk hkW
        go_wp2_with (go_at_call 38; refine (HNU.out _).mono ?_; rintro e w2 ⟨⟨v, rfl, hv, _⟩, hw2⟩; rw [hw2]; clear hw2)
        refine bodyPost_ret (v := .tuple #[.agg #[.int .i64 d.k, .int .u64 d.n, .int .i64 d.a, .int .i64 d.b, .int .i64 d.c], .bool false]) (by simp [results, Tryz.results21, go_sem, z0, z1, z2, z3, z4, hsz0]) rfl ⟨⟨d, by rw [HF.out]; rfl, fun d' h => by rw [HF.out] at h; cases h⟩, ?_⟩
        exact ((((HN.out.bel.setCell (Nat.le_refl _) _).setCell (Nat.le_refl _) _).setCell (Nat.le_refl _) _).setCell (Nat.le_refl _) _).setCell (Nat.le_refl _) _
      | some u =>
        rw [hnu] at HNU
        by_cases hbad : (k ≠ 1 ∧ 100000 < u) ∨ (1 < k ∧ had.length ≤ u) ∨ 4 < k
        · have HF : Hid (rspec had W = none) := Lib.hid (by
            rcases hbad with h | h | h
            · rcases (show k = 0 ∨ 2 ≤ k by omega) with e | e
              · exact rspec_kind hkW HR.out hnu e (by omega)
              · exact rspec_idx hkW HR.out hnu e (by omega)
            · exact rspec_idx hkW HR.out hnu (by omega) h.2
            · exact rspec_long hkW HR.out (by omega))
          clear hnu hWk hkW
          go_wp2_with (go_at_call 38; refine (HNU.out _).mono ?_; rintro e w2 ⟨⟨v, rfl, hv, hvu⟩, hw2⟩; rw [hw2]; clear hw2; obtain rfl := hvu u rfl)
          all_goals
            refine bodyPost_ret (v := .tuple #[.agg #[.int .i64 d.k, .int .u64 d.n, .int .i64 d.a, .int .i64 d.b, .int .i64 d.c], .bool false]) (by simp [results, Tryz.results21, go_sem, z0, z1, z2, z3, z4, hsz0]) rfl ⟨⟨d, by rw [HF.out]; rfl, fun d' h => by rw [HF.out] at h; cases h⟩, ?_⟩
            exact ((((HN.out.bel.setCell (Nat.le_refl _) _).setCell (Nat.le_refl _) _).setCell (Nat.le_refl _) _).setCell (Nat.le_refl _) _).setCell (Nat.le_refl _) _
        · have HF := Lib.hid (rall_next hkW HR.out hnu)
          have hrl := rall_len HR.out
          rw [List.length_take, Nat.min_eq_left (by omega)] at hrl
          have HID2 : Hid (∀ j, 2 + j < (r ++ [u]).length → (r ++ [u]).getD (2 + j) 0 < had.length) := Lib.hid (fun j hj => by
            simp only [List.length_append, List.length_singleton] at hj
            rcases Nat.lt_or_ge (2 + j) r.length with e | e
            · rw [List.getD_eq_getElem?_getD, List.getElem?_append_left e, ← List.getD_eq_getElem?_getD]; exact HIX.out j e
            · rw [List.getD_eq_getElem?_getD, List.getElem?_append_right e, show 2 + j - r.length = 0 by omega]
              simp; omega)
          have hu5 : k = 1 ∨ u ≤ 100000 := by omega
          have hu6 : k ≤ 1 ∨ u < had.length := by omega
          have hk4 : k ≤ 4 := by omega
          have g0 : wr.frozen? ⟨w.heap.size + 1, 0, none⟩ = false := by simp [World.frozen?, HN.out.nod]
          have g1 : wr.frozen? ⟨w.heap.size + 1, 1, none⟩ = false := by simp [World.frozen?, HN.out.nod]
          have g2 : wr.frozen? ⟨w.heap.size + 1, 2, none⟩ = false := by simp [World.frozen?, HN.out.nod]
          have g3 : wr.frozen? ⟨w.heap.size + 1, 3, none⟩ = false := by simp [World.frozen?, HN.out.nod]
          have g4 : wr.frozen? ⟨w.heap.size + 1, 4, none⟩ = false := by simp [World.frozen?, HN.out.nod]
          clear hnu hWk hkW hbad
          clear f0 f1 f2 f3 f4 z0 z1 z2 z3 z4
          rcases (show k = 0 ∨ k = 1 ∨ 2 ≤ k by omega) with rfl | rfl | hk2
          · obtain rfl : r = [] := List.eq_nil_of_length_eq_zero hrl
            have HS : Hid (Nn w (wr.setCell ⟨w.heap.size + 1, 0, none⟩ (.int .i64 (u : Int))) (.slice (some ⟨gq, 0, none⟩) P.length cv) P (ndR had ([] ++ [u]))) := Lib.hid (HN.out.set 0 _ (by rw [HD.out]; simp [ndR, ptJ]))
            clear hrl
            have hu7 : u ≤ 100000 := by omega
            go_wp2_with (go_at_call 38; refine (HNU.out _).mono ?_; rintro e w2 ⟨⟨v, rfl, hv, hvu⟩, hw2⟩; rw [hw2]; clear hw2; obtain rfl := hvu u rfl)
            go_roundg (P.length - (0 + 1))
            case rel => exact ⟨0 + 1, [] ++ [v], by omega, by omega, by simp, HF.out, HID2.out, HS.out⟩
            case measure => omega
          · obtain ⟨x0, rfl⟩ : ∃ x0, r = [x0] := by
              match r, hrl with
              | [a], _ => exact ⟨a, rfl⟩
            have HS : Hid (Nn w (wr.setCell ⟨w.heap.size + 1, 1, none⟩ (.int .u64 (u : Int))) (.slice (some ⟨gq, 0, none⟩) P.length cv) P (ndR had ([x0] ++ [u]))) := Lib.hid (HN.out.set 1 _ (by rw [HD.out]; simp [ndR, ptJ]))
            clear hrl
            go_wp2_with (go_at_call 38; refine (HNU.out _).mono ?_; rintro e w2 ⟨⟨v, rfl, hv, hvu⟩, hw2⟩; rw [hw2]; clear hw2; obtain rfl := hvu u rfl)
            go_roundg (P.length - (1 + 1))
            case rel => exact ⟨1 + 1, [x0] ++ [v], by omega, by omega, by simp, HF.out, HID2.out, HS.out⟩
            case measure => omega
          · have hu7 : u ≤ 100000 := by omega
            have hu8 : u < had.length := by omega
            obtain ⟨gh, rfl⟩ : ∃ gh, sp = some ⟨gh, 0, none⟩ := by
              rcases HO.out.2 with ⟨h1, h2⟩ | ⟨gh, _, _, h1, _⟩
              · omega
              · exact ⟨gh, by injection h1⟩
            have cH : wr.cell? ⟨gh, u, none⟩ = some (.int .i64 (had.getD u 0)) := by
              rw [(row_below HO.out HN.out.bel).cellAt u (by omega)]
              simp [List.getD, List.getElem?_eq_getElem hu8]
            have hghl := World.block_lt_of_cell? wr _ cH
            obtain ⟨y, hy⟩ : ∃ y, y = had.getD u 0 := ⟨_, rfl⟩
            rw [← hy] at cH
            have HY := Lib.hid hy
            rcases (show k = 2 ∨ k = 3 ∨ k = 4 by omega) with rfl | rfl | rfl
            · obtain ⟨x0, x1, rfl⟩ : ∃ x0 x1, r = [x0, x1] := by
                match r, hrl with
                | [a, b], _ => exact ⟨a, b, rfl⟩
              have HS : Hid (Nn w (wr.setCell ⟨w.heap.size + 1, 2, none⟩ (.int .i64 y)) (.slice (some ⟨gq, 0, none⟩) P.length cv) P (ndR had ([x0, x1] ++ [u]))) := Lib.hid (HN.out.set 2 _ (by rw [HD.out, HY.out]; simp [ndR, ptJ]))
              clear hrl hy
              go_wp2_with (go_at_call 38; refine (HNU.out _).mono ?_; rintro e w2 ⟨⟨v, rfl, hv, hvu⟩, hw2⟩; rw [hw2]; clear hw2; obtain rfl := hvu u rfl)
              go_roundg (P.length - (2 + 1))
              case rel => exact ⟨2 + 1, [x0, x1] ++ [v], by omega, by omega, by simp, HF.out, HID2.out, HS.out⟩
              case measure => omega
            · obtain ⟨x0, x1, x2, rfl⟩ : ∃ x0 x1 x2, r = [x0, x1, x2] := by
                match r, hrl with
                | [a, b, c], _ => exact ⟨a, b, c, rfl⟩
              have HS : Hid (Nn w (wr.setCell ⟨w.heap.size + 1, 3, none⟩ (.int .i64 y)) (.slice (some ⟨gq, 0, none⟩) P.length cv) P (ndR had ([x0, x1, x2] ++ [u]))) := Lib.hid (HN.out.set 3 _ (by rw [HD.out, HY.out]; simp [ndR, ptJ]))
              clear hrl hy
              go_wp2_with (go_at_call 38; refine (HNU.out _).mono ?_; rintro e w2 ⟨⟨v, rfl, hv, hvu⟩, hw2⟩; rw [hw2]; clear hw2; obtain rfl := hvu u rfl)
              go_roundg (P.length - (3 + 1))
              case rel => exact ⟨3 + 1, [x0, x1, x2] ++ [v], by omega, by omega, by simp, HF.out, HID2.out, HS.out⟩
              case measure => omega
            · obtain ⟨x0, x1, x2, x3, rfl⟩ : ∃ x0 x1 x2 x3, r = [x0, x1, x2, x3] := by
                match r, hrl with
                | [a, b, c, e], _ => exact ⟨a, b, c, e, rfl⟩
              have HS : Hid (Nn w (wr.setCell ⟨w.heap.size + 1, 4, none⟩ (.int .i64 y)) (.slice (some ⟨gq, 0, none⟩) P.length cv) P (ndR had ([x0, x1, x2, x3] ++ [u]))) := Lib.hid (HN.out.set 4 _ (by rw [HD.out, HY.out]; simp [ndR, ptJ]))
              clear hrl hy
              go_wp2_with (go_at_call 38; refine (HNU.out _).mono ?_; rintro e w2 ⟨⟨v, rfl, hv, hvu⟩, hw2⟩; rw [hw2]; clear hw2; obtain rfl := hvu u rfl)
              go_roundg (P.length - (4 + 1))
              case rel => exact ⟨4 + 1, [x0, x1, x2, x3] ++ [v], by omega, by omega, by simp, HF.out, HID2.out, HS.out⟩
              case measure => omega
    · obtain rfl : k = P.length := by omega
      rw [← HWL.out, List.take_length] at hr
      have hrl := rall_len hr
      rw [HWL.out] at hrl
      have HSP : Hid (rspec had W = prow had r) := Lib.hid (by unfold rspec; rw [hr]; rfl)
      have hdk : d.k = (r.getD 0 0 : Nat) := by rw [hd]; rfl
      obtain ⟨m, hm⟩ : ∃ m, m = many d.k := ⟨_, rfl⟩
      have hm3 := many_range d.k
      rw [← hm] at hm3
      have HMM : Hid (∀ w', Calls Tryz.prog 39 #[.int .i64 d.k] w' fun e w2 => e = .returned (.int .i64 m) ∧ w' = w2) := Lib.hid (fun w' => by rw [hm]; exact many_any _ w')
      have HF : Hid (if (P.length : Int) = 2 + m ∧ 0 ≤ m then rspec had W = some d else rspec had W = none) := Lib.hid (by
        by_cases hc : (P.length : Int) = 2 + m ∧ 0 ≤ m
        · rw [if_pos hc, HSP.out, hd]
          rw [hm, hdk] at hc
          obtain ⟨kk, hkk, hk10⟩ := kind_nat hc.2
          exact prow_ok (by omega) (by rw [hrl]; exact hc.1) HIX.out
        · rw [if_neg hc, HSP.out]
          rw [hm, hdk] at hc
          by_cases h1 : (P.length : Int) = 2 + many ((r.getD 0 0 : Nat) : Int)
          · refine prow_big ?_
            have h2 : ¬ 0 ≤ many ((r.getD 0 0 : Nat) : Int) := fun e => hc ⟨h1, e⟩
            rcases Nat.lt_or_ge (r.getD 0 0) 10 with e | e
            · exact absurd (by unfold many; split <;> (try split) <;> (try split) <;> (try split) <;> omega) h2
            · exact e
          · exact prow_len (by rw [hrl]; exact h1))
      have HB := Lib.hid HN.out.bel
      clear hN hd hr hm hdk hrl hkq hlt HN HST HR HD
      obtain ⟨n, hn⟩ : ∃ n, n = P.length := ⟨_, rfl⟩
      rw [← hn] at HF hP1 hk5
      rw [← hn]
      clear hn hPl
      obtain ⟨hma, hmb⟩ := hm3
      have hwr : IntKind.i64.wrap (2 + m) = 2 + m := by
        rcases (show m = -1 ∨ m = 0 ∨ m = 1 ∨ m = 2 ∨ m = 3 by omega) with rfl | rfl | rfl | rfl | rfl <;> decide
      clear hs hh hk5 hP1 HPS HIS HWL HWK HIX HSP HO HWE
      have HFF := HF
      clear HF
      by_cases hc : (n : Int) = 2 + m
      · have hb : ((n : Int) == 2 + m) = true := by simpa using hc
        have hb2 : decide ((n : Int) = 2 + m) = true := by simpa using hc
        by_cases hg' : (0 : Int) ≤ m
        · have HF : Hid (rspec had W = some d) := Lib.hid (by have := HFF.out; rw [if_pos ⟨hc, hg'⟩] at this; exact this)
          have hg : decide ((0 : Int) ≤ m) = true := by simpa using hg'
          clear hc HFF
          go_wp2_with fail
          go_region_held3 (fun w' => w'.cell? ⟨w.heap.size + 1, 0, none⟩ = some (.int .i64 d.k) ∧ w'.cell? ⟨w.heap.size + 1, 1, none⟩ = some (.int .u64 d.n) ∧ w'.cell? ⟨w.heap.size + 1, 2, none⟩ = some (.int .i64 d.a) ∧ w'.cell? ⟨w.heap.size + 1, 3, none⟩ = some (.int .i64 d.b) ∧ w'.cell? ⟨w.heap.size + 1, 4, none⟩ = some (.int .i64 d.c)) (go_keep)
            (first
              | (rw [if_pos (by rfl)]; go_simp; go_at_call 39; refine (HMM.out _).mono ?_; rintro e w2 ⟨rfl, rfl⟩; go_wp2_with fail)
              | (rw [if_neg (by decide)]))
          go_wp2_with fail
          refine bodyPost_ret (v := .tuple #[.agg #[.int .i64 d.k, .int .u64 d.n, .int .i64 d.a, .int .i64 d.b, .int .i64 d.c], .bool true]) (by simp [results, Tryz.results21, go_sem, z0, z1, z2, z3, z4, hsz0]) rfl ⟨⟨d, by rw [HF.out]; rfl, fun d' h => by rw [HF.out] at h; exact Option.some.inj h⟩, ?_⟩
          exact (((((HB.out.drew).setCell (Nat.le_refl _) _).setCell (Nat.le_refl _) _).setCell (Nat.le_refl _) _).setCell (Nat.le_refl _) _).setCell (Nat.le_refl _) _
        · have HF : Hid (rspec had W = none) := Lib.hid (by have := HFF.out; rw [if_neg (fun h => hg' h.2)] at this; exact this)
          have hg : decide ((0 : Int) ≤ m) = false := by simpa using hg'
          clear hc HFF
          go_wp2_with fail
          go_region_held3 (fun w' => w'.cell? ⟨w.heap.size + 1, 0, none⟩ = some (.int .i64 d.k) ∧ w'.cell? ⟨w.heap.size + 1, 1, none⟩ = some (.int .u64 d.n) ∧ w'.cell? ⟨w.heap.size + 1, 2, none⟩ = some (.int .i64 d.a) ∧ w'.cell? ⟨w.heap.size + 1, 3, none⟩ = some (.int .i64 d.b) ∧ w'.cell? ⟨w.heap.size + 1, 4, none⟩ = some (.int .i64 d.c)) (go_keep)
            (first
              | (rw [if_pos (by rfl)]; go_simp; go_at_call 39; refine (HMM.out _).mono ?_; rintro e w2 ⟨rfl, rfl⟩; go_wp2_with fail)
              | (rw [if_neg (by decide)]))
          go_wp2_with fail
          refine bodyPost_ret (v := .tuple #[.agg #[.int .i64 d.k, .int .u64 d.n, .int .i64 d.a, .int .i64 d.b, .int .i64 d.c], .bool false]) (by simp [results, Tryz.results21, go_sem, z0, z1, z2, z3, z4, hsz0]) rfl ⟨⟨d, by rw [HF.out]; rfl, fun d' h => by rw [HF.out] at h; cases h⟩, ?_⟩
          exact (((((HB.out.drew).setCell (Nat.le_refl _) _).setCell (Nat.le_refl _) _).setCell (Nat.le_refl _) _).setCell (Nat.le_refl _) _).setCell (Nat.le_refl _) _
      · have HF : Hid (rspec had W = none) := Lib.hid (by have := HFF.out; rw [if_neg (fun h => hc h.1)] at this; exact this)
        have hb : ((n : Int) == 2 + m) = false := by simpa using hc
        have hb2 : decide ((n : Int) = 2 + m) = false := by simpa using hc
        clear HFF
        go_wp2_with fail
        refine wp_region_noPanic ?_
        refine wp_region_held_drew (S := fun w' => w'.cell? ⟨w.heap.size + 1, 0, none⟩ = some (.int .i64 d.k) ∧ w'.cell? ⟨w.heap.size + 1, 1, none⟩ = some (.int .u64 d.n) ∧ w'.cell? ⟨w.heap.size + 1, 2, none⟩ = some (.int .i64 d.a) ∧ w'.cell? ⟨w.heap.size + 1, 3, none⟩ = some (.int .i64 d.b) ∧ w'.cell? ⟨w.heap.size + 1, 4, none⟩ = some (.int .i64 d.c)) (by kernel_rfl) ⟨n0, n1, n2, n3, n4⟩ (fun hHeld => ?_)
        have hHeld : (fun w' : World => w'.cell? ⟨w.heap.size + 1, 0, none⟩ = some (.int .i64 d.k) ∧ w'.cell? ⟨w.heap.size + 1, 1, none⟩ = some (.int .u64 d.n) ∧ w'.cell? ⟨w.heap.size + 1, 2, none⟩ = some (.int .i64 d.a) ∧ w'.cell? ⟨w.heap.size + 1, 3, none⟩ = some (.int .i64 d.b) ∧ w'.cell? ⟨w.heap.size + 1, 4, none⟩ = some (.int .i64 d.c)) wr.drew := hHeld
        refine wpAnyH_take (i := 0) (oi := { dst := some 83, op := Op.load 48 (Operand.tmp 6), type := 48, pos := "ref.go:118", after := #[], guard := none }) (v := .agg #[.int .i64 d.k, .int .u64 d.n, .int .i64 d.a, .int .i64 d.b, .int .i64 d.c]) rfl (by kernel_rfl) (by kernel_rfl) (by kernel_rfl) (fun _ _ _ h => h) (Or.inl ⟨by rfl, ?_⟩) (by assumption) ?_
        · intro w9 hSw
          go_simp
        try simp only [Act.put, List.setIfInBounds_toArray, List.set_cons_zero, List.set_cons_succ]
        refine wpAnyH_take (i := 1) (oi := { dst := some 84, op := Op.move (Operand.tmp 7), type := 75, pos := "ref.go:118", after := #[], guard := none }) (v := .slice sv n cv) rfl (by kernel_rfl) (by kernel_rfl) (by kernel_rfl) (fun _ _ _ h => h) (Or.inl ⟨by rfl, ?_⟩) (by assumption) ?_
        · intro w9 hSw
          go_simp
        try simp only [Act.put, List.setIfInBounds_toArray, List.set_cons_zero, List.set_cons_succ]
        refine wpAnyH_take (i := 2) (oi := { dst := some 85, op := Op.call { callee := Callee.builtin Builtin.len, args := #[Operand.tmp 84], argTypes := #[75] }, type := 3, pos := "ref.go:118", after := #[{ on := 1, ground := Ground.data }], guard := none }) (v := .int .i64 (n : Int)) rfl (by kernel_rfl) (by kernel_rfl) (by kernel_rfl) (fun _ _ _ h => h) (Or.inl ⟨by rfl, ?_⟩) (by assumption) ?_
        · intro w9 hSw
          go_simp
        try simp only [Act.put, List.setIfInBounds_toArray, List.set_cons_zero, List.set_cons_succ]
        refine wpAnyH_take (i := 3) (oi := { dst := some 86, op := Op.fieldAddr 48 (Operand.tmp 6) 0, type := 0, pos := "ref.go:118", after := #[], guard := none }) (v := .pointer (some ⟨w.heap.size + 1, 0, none⟩)) rfl (by kernel_rfl) (by kernel_rfl) (by kernel_rfl) (fun _ _ _ h => h) (Or.inl ⟨by rfl, ?_⟩) (by assumption) ?_
        · intro w9 hSw
          go_simp
        try simp only [Act.put, List.setIfInBounds_toArray, List.set_cons_zero, List.set_cons_succ]
        refine wpAnyH_take (i := 4) (oi := { dst := some 87, op := Op.load 3 (Operand.tmp 86), type := 3, pos := "ref.go:118", after := #[{ on := 3, ground := Ground.data }], guard := none }) (v := .int .i64 d.k) rfl (by kernel_rfl) (by kernel_rfl) (by kernel_rfl) (fun _ _ _ h => h) (Or.inl ⟨by rfl, ?_⟩) (by assumption) ?_
        · intro w9 hSw
          go_simp
        try simp only [Act.put, List.setIfInBounds_toArray, List.set_cons_zero, List.set_cons_succ]
        refine wpAnyH_ready (rs := [5]) (by kernel_rfl) (by simp) ?_
        refine AllReadyH.cons (o := { dst := some 88, op := Op.call { callee := Callee.value (Operand.func 39), args := #[Operand.tmp 87], argTypes := #[3] }, type := 3, pos := "ref.go:118", after := #[{ on := 4, ground := Ground.data }], guard := none }) rfl (fun K hK => ?_) AllReadyH.nil
        rw [if_pos (by rfl)]
        go_simp
        go_at_call 39
        refine (HMM.out _).mono ?_
        rintro e w2 ⟨rfl, rfl⟩
        go_wp2_with fail
        refine hK.out _ _ hHeld (fun hHeld => ?_)
        clear hK K
        try simp only [Act.put, List.setIfInBounds_toArray, List.set_cons_zero, List.set_cons_succ]
        refine wpAnyH_take (i := 6) (oi := { dst := some 89, op := Op.binOp BinOp.add 3 (Operand.const (Value.int IntKind.i64 2)) (Operand.tmp 88) 3, type := 3, pos := "ref.go:118", after := #[{ on := 5, ground := Ground.data }], guard := none }) (v := .int .i64 (2 + m)) rfl (by kernel_rfl) (by kernel_rfl) (by kernel_rfl) (fun _ _ _ h => h) (Or.inl ⟨by rfl, ?_⟩) (by assumption) ?_
        · intro w9 hSw
          go_simp
        try simp only [Act.put, List.setIfInBounds_toArray, List.set_cons_zero, List.set_cons_succ]
        refine wpAnyH_take (i := 7) (oi := { dst := some 90, op := Op.binOp BinOp.eql 3 (Operand.tmp 85) (Operand.tmp 89) 3, type := 4, pos := "ref.go:118", after := #[{ on := 2, ground := Ground.data }, { on := 6, ground := Ground.data }], guard := none }) (v := .bool false) rfl (by kernel_rfl) (by kernel_rfl) (by kernel_rfl) (fun _ _ _ h => h) (Or.inl ⟨by rfl, ?_⟩) (by assumption) ?_
        · intro w9 hSw
          go_simp
        try simp only [Act.put, List.setIfInBounds_toArray, List.set_cons_zero, List.set_cons_succ]
        refine wpAnyH_take (i := 8) (oi := { dst := some 91, op := Op.move (Operand.tmp 90), type := 4, pos := "ref.go:118", after := #[{ on := 7, ground := Ground.data }, { on := 5, ground := Ground.chain }], guard := none }) (v := .bool false) rfl (by kernel_rfl) (by kernel_rfl) (by kernel_rfl) (fun _ _ _ h => h) (Or.inl ⟨by rfl, ?_⟩) (by assumption) ?_
        · intro w9 hSw
          go_simp
        try simp only [Act.put, List.setIfInBounds_toArray, List.set_cons_zero, List.set_cons_succ]
        refine wpAnyH_take (i := 9) (oi := { dst := some 92, op := Op.fieldAddr 48 (Operand.tmp 6) 0, type := 0, pos := "ref.go:118", after := #[{ on := 8, ground := Ground.guard }], guard := some (8, true) }) (v := undef) rfl (by kernel_rfl) (by kernel_rfl) (by kernel_rfl) (fun _ _ _ h => h) (Or.inr ⟨by rfl, rfl⟩) (by assumption) ?_
        try simp only [Act.put, List.setIfInBounds_toArray, List.set_cons_zero, List.set_cons_succ]
        refine wpAnyH_take (i := 10) (oi := { dst := some 93, op := Op.load 3 (Operand.tmp 92), type := 3, pos := "ref.go:118", after := #[{ on := 9, ground := Ground.data }, { on := 8, ground := Ground.guard }], guard := some (8, true) }) (v := undef) rfl (by kernel_rfl) (by kernel_rfl) (by kernel_rfl) (fun _ _ _ h => h) (Or.inr ⟨by rfl, rfl⟩) (by assumption) ?_
        try simp only [Act.put, List.setIfInBounds_toArray, List.set_cons_zero, List.set_cons_succ]
        refine wpAnyH_take (i := 11) (oi := { dst := some 94, op := Op.call { callee := Callee.value (Operand.func 39), args := #[Operand.tmp 93], argTypes := #[3] }, type := 3, pos := "ref.go:118", after := #[{ on := 10, ground := Ground.data }, { on := 8, ground := Ground.chain }, { on := 8, ground := Ground.guard }], guard := some (8, true) }) (v := undef) rfl (by kernel_rfl) (by kernel_rfl) (by kernel_rfl) (fun _ _ _ h => h) (Or.inr ⟨by rfl, rfl⟩) (by assumption) ?_
        try simp only [Act.put, List.setIfInBounds_toArray, List.set_cons_zero, List.set_cons_succ]
        refine wpAnyH_take (i := 12) (oi := { dst := some 95, op := Op.binOp BinOp.geq 3 (Operand.tmp 94) (Operand.const (Value.int IntKind.i64 0)) 3, type := 4, pos := "ref.go:118", after := #[{ on := 11, ground := Ground.data }, { on := 8, ground := Ground.guard }, { on := 14, ground := Ground.gcOnly Departure.lateStores }], guard := some (8, true) }) (v := undef) rfl (by kernel_rfl) (by kernel_rfl) (by kernel_rfl) (fun _ _ _ h => h) (Or.inr ⟨by rfl, rfl⟩) (by assumption) ?_
        try simp only [Act.put, List.setIfInBounds_toArray, List.set_cons_zero, List.set_cons_succ]
        refine wpAnyH_take (i := 13) (oi := { dst := some 96, op := Op.pick (Operand.tmp 91) (Operand.tmp 95) (Operand.const (Value.bool false)), type := 4, pos := "ref.go:118", after := #[{ on := 8, ground := Ground.data }, { on := 12, ground := Ground.data }, { on := 14, ground := Ground.gcOnly Departure.lateStores }], guard := none }) (v := .bool false) rfl (by kernel_rfl) (by kernel_rfl) (by kernel_rfl) (fun _ _ _ h => h) (Or.inl ⟨by rfl, ?_⟩) (by assumption) ?_
        · intro w9 hSw
          go_simp
        try simp only [Act.put, List.setIfInBounds_toArray, List.set_cons_zero, List.set_cons_succ]
        refine wpAnyH_ready (rs := [14]) (by kernel_rfl) (by simp) ?_
        refine AllReadyH.cons (o := { dst := none, op := Op.store 48 (Operand.tmp 4) (Operand.tmp 83), type := 0, pos := "ref.go:118", after := #[{ on := 0, ground := Ground.data }, { on := 11, ground := Ground.chain }, { on := 0, ground := Ground.phase }, { on := 1, ground := Ground.textOnly Departure.lateStores }, { on := 2, ground := Ground.textOnly Departure.lateStoresUnsure }, { on := 3, ground := Ground.textOnly Departure.lateStores }, { on := 4, ground := Ground.textOnly Departure.lateStores }, { on := 5, ground := Ground.textOnly Departure.lateStoresUnsure }, { on := 6, ground := Ground.textOnly Departure.lateStores }, { on := 7, ground := Ground.textOnly Departure.lateStores }, { on := 8, ground := Ground.textOnly Departure.lateStores }, { on := 9, ground := Ground.textOnly Departure.lateStores }, { on := 10, ground := Ground.textOnly Departure.lateStores }, { on := 11, ground := Ground.textOnly Departure.lateStoresUnsure }, { on := 12, ground := Ground.textOnly Departure.lateStores }, { on := 13, ground := Ground.textOnly Departure.lateStores }], guard := none }) rfl (fun K hK => ?_) AllReadyH.nil
        rw [if_pos (by rfl)]
        go_simp
        refine hK.out _ _ (by go_keep) (fun hHeld => ?_)
        clear hK K
        try simp only [Act.put, List.setIfInBounds_toArray, List.set_cons_zero, List.set_cons_succ]
        refine wpAnyH_take (i := 15) (oi := { dst := some 5, op := Op.assign (Operand.tmp 96), type := 4, pos := "ref.go:118", after := #[{ on := 13, ground := Ground.data }, { on := 14, ground := Ground.chain }, { on := 0, ground := Ground.phase }, { on := 1, ground := Ground.phase }, { on := 2, ground := Ground.phase }, { on := 3, ground := Ground.phase }, { on := 4, ground := Ground.phase }, { on := 5, ground := Ground.phase }, { on := 6, ground := Ground.phase }, { on := 7, ground := Ground.phase }, { on := 8, ground := Ground.phase }, { on := 9, ground := Ground.phase }, { on := 10, ground := Ground.phase }, { on := 11, ground := Ground.phase }, { on := 12, ground := Ground.phase }, { on := 13, ground := Ground.phase }, { on := 14, ground := Ground.phase }], guard := none }) (v := .bool false) rfl (by kernel_rfl) (by kernel_rfl) (by kernel_rfl) (fun _ _ _ h => h) (Or.inl ⟨by rfl, ?_⟩) (by assumption) ?_
        · intro w9 hSw
          go_simp
        try simp only [Act.put, List.setIfInBounds_toArray, List.set_cons_zero, List.set_cons_succ]
        refine wpAnyH_done (by kernel_rfl) ?_ _
        refine NoPanic.normal ?_
        go_wp2_with fail
        refine bodyPost_ret (v := .tuple #[.agg #[.int .i64 d.k, .int .u64 d.n, .int .i64 d.a, .int .i64 d.b, .int .i64 d.c], .bool false]) (by simp [results, Tryz.results21, go_sem, z0, z1, z2, z3, z4, hsz0]) rfl ⟨⟨d, by rw [HF.out]; rfl, fun d' h => by rw [HF.out] at h; cases h⟩, ?_⟩
        exact (((((HB.out.drew).setCell (Nat.le_refl _) _).setCell (Nat.le_refl _) _).setCell (Nat.le_refl _) _).setCell (Nat.le_refl _) _).setCell (Nat.le_refl _) _
end Go.Proofs.YtmnmjekpndeemaaGreatDoor
