/- Layer 6: the table of base patterns in memory; walks of Base, Names. -/
import Derived.Test.YtahbbojhdkillaaDoorMk
import Derived.Test.YtahbbojhdkillaaDoorBa
namespace Go.Proofs.YtahbbojhdkillaaDoor
open Go.RowKit Go.Shelf

/-- The table's texts, one behind the other. -/
def tblL : List (List UInt8) := ((basePs.map Pt.nm).zip linesL).flatMap fun x => [x.1, x.2]
def tb (i : Nat) : ByteArray := ⟨(tblL.getD i []).toArray⟩
theorem tb_nm : ∀ k, k < 15 → tblL.getD (2 * k) [] = (basePs.getD k zP).nm := by decide
theorem tb_ln : ∀ k, k < 15 → tblL.getD (2 * k + 1) [] = linesL.getD k [] := by decide
/-- What is read of package variables. -/
structure Eb (w : World) : Prop where
  en : En w
  tb : ∀ i, i < 30 → w.cell? ⟨0, i, none⟩ = some (.string (tb i))
theorem Eb.keep {w w' : World} (h : Eb w) (hb : Below w.heap.size w w') : Eb w' :=
  ⟨h.en.keep hb, fun i hi => by rw [hb.cell (p := ⟨0, i, none⟩) (World.block_lt_of_cell? _ _ (h.tb i hi))]; exact h.tb i hi⟩
def tblV : Value := .agg #[.string (tb 0), .string (tb 1), .string (tb 2), .string (tb 3), .string (tb 4), .string (tb 5), .string (tb 6), .string (tb 7), .string (tb 8), .string (tb 9), .string (tb 10), .string (tb 11), .string (tb 12), .string (tb 13), .string (tb 14), .string (tb 15), .string (tb 16), .string (tb 17), .string (tb 18), .string (tb 19), .string (tb 20), .string (tb 21), .string (tb 22), .string (tb 23), .string (tb 24), .string (tb 25), .string (tb 26), .string (tb 27), .string (tb 28), .string (tb 29)]
theorem base_lens : ∀ k, k < 15 → ((basePs.getD k zP).nm).length ≤ 20 ∧ (linesL.getD k []).length ≤ 100 := by decide
theorem tbl_idx : ∀ (k : Nat), k < 15 → ∀ w, (Instr.index 65 tblV (.int .i64 k)).run Tryd.prog w = .ok (.agg #[.string (tb (2 * k)), .string (tb (2 * k + 1))]) w
  | 0, _, _ => by kernel_rfl
  | 1, _, _ => by kernel_rfl
  | 2, _, _ => by kernel_rfl
  | 3, _, _ => by kernel_rfl
  | 4, _, _ => by kernel_rfl
  | 5, _, _ => by kernel_rfl
  | 6, _, _ => by kernel_rfl
  | 7, _, _ => by kernel_rfl
  | 8, _, _ => by kernel_rfl
  | 9, _, _ => by kernel_rfl
  | 10, _, _ => by kernel_rfl
  | 11, _, _ => by kernel_rfl
  | 12, _, _ => by kernel_rfl
  | 13, _, _ => by kernel_rfl
  | 14, _, _ => by kernel_rfl
  | k + 15, h, _ => absurd h (by omega)
theorem tbl_load {w : World} (hE : Eb w) : (loadVar 65 ⟨0, 0, none⟩).run Tryd.prog w = .ok tblV w := by
  have hl := run_loadCells (P := Tryd.prog) w ⟨0, 0, none⟩ 30 (fun j => .string (tb j)) (fun j hj => by
    have hadd : (⟨0, 0, none⟩ : Addr).add j = ⟨0, j, none⟩ := by unfold Addr.add; split <;> simp_all
    rw [hadd]; exact hE.tb j hj)
  have hagg := Tryd.isAgg65 w
  have hsz := Tryd.sizeOf65 w
  unfold loadVar
  simp only [Sem.run_bind, hagg, Result.andThen_ok, if_true, hsz, hl]
  rfl
theorem wpList_load_tbl {ops : Array Oper} {rest : List Oper} {o : Oper} {a : Act} {w : World} {Q : Exit → Act → World → Prop} (hgd : o.guard = none) (x : Operand) (ho : o.op = .load 65 x)
    (hx : a.eval x = .pointer (some ⟨0, 0, none⟩)) (hE : Eb w)
    (h : wpList Tryd.prog ops Q rest (a.put o.dst tblV) w) : wpList Tryd.prog ops Q (o :: rest) a w :=
  wpList_plain hgd fun K hK => by
    unfold Oper.wp execOp
    simp only [ho, hx, Instr.loadAt, Instr.sureAddr, Sem.run_bind, Sem.run_pure, Result.andThen_ok, tbl_load hE]
    exact hK _ _ h

set_option maxRecDepth 100000 in
set_option maxHeartbeats 4000000 in
theorem base_any (n : ByteArray) (w : World) (hE : Eb w) : Calls Tryd.prog 12 #[.string n] w fun e w' => ∃ x, e = .returned (.tuple #[patV x (bsP n.data.toList), .int .i64 (bsE n.data.toList)]) ∧ PatA w' x (bsP n.data.toList) ∧ Below w.heap.size w w' := by
  have HE := Lib.hid hE; clear hE
  go_enter Tryd.func12, Tryd.ntmps12
  go_wp2_with (refine wpList_load_tbl rfl _ rfl rfl (HE.out.keep ((Below.refl _ _).alloc (Nat.le_refl _) _)) ?_)
  go_loopg [5, 7] 15 (fun q _ u7 wr => ∃ k : Nat, k + q = 15 ∧ u7 = .int .i64 k ∧ Aside (bsAt n.data.toList basePs = bsAt n.data.toList (basePs.drop k) ∧ Below w.heap.size w wr ∧ wr.heap[w.heap.size]? = some (.cells #[.string ⟨#[]⟩, .slice none 0 0, .slice none 0 0, .slice none 0 0] 29 (0, 0))))
  case atStart => exact ⟨0, by omega, rfl, ⟨rfl, (Below.refl _ _).alloc (Nat.le_refl _) _, heap_alloc_new w _⟩⟩
  case round =>
    obtain ⟨k, hkq, rfl, hr⟩ := hrel
    have HR := Lib.hid hr.out
    clear hr
    obtain ⟨r0, r1, r2, r3, y0, y1, y2, y3⟩ := box4c HR.out.2.2
    by_cases hlt : k < 15
    · have hk2 : (k : Int) < 15 := by omega
      have hix := tbl_idx k hlt
      have HD : Hid (basePs.drop k = basePs.getD k zP :: basePs.drop (k + 1)) := Lib.hid (by
        rw [List.getD_eq_getElem?_getD, List.getElem?_eq_getElem (by rw [base_len]; exact hlt)]
        exact List.drop_eq_getElem_cons _)
      obtain ⟨A, hA⟩ : ∃ A, A = tb (2 * k) := ⟨_, rfl⟩
      obtain ⟨B, hB⟩ : ∃ B, B = tb (2 * k + 1) := ⟨_, rfl⟩
      rw [← hA, ← hB] at hix
      have hAl : A = ⟨((basePs.getD k zP).nm).toArray⟩ := by rw [hA]; unfold tb; rw [tb_nm k hlt]
      have hBl : B = ⟨(linesL.getD k []).toArray⟩ := by rw [hB]; unfold tb; rw [tb_ln k hlt]
      have HLN : Hid (((basePs.getD k zP).nm).length ≤ 20 ∧ (linesL.getD k []).length ≤ 100) := Lib.hid (base_lens k hlt)
      by_cases hq : A.data.toList = n.data.toList
      · obtain rfl : A = n := ByteArray.ext (Array.ext' hq)
        obtain ⟨R1, hR1⟩ : ∃ R : ByteArray, R = ⟨((basePs.getD k zP).nm ++ [58, 10]).toArray⟩ := ⟨_, rfl⟩
        obtain ⟨R2, hR2⟩ : ∃ R : ByteArray, R = ⟨((basePs.getD k zP).nm ++ [58, 10] ++ linesL.getD k []).toArray⟩ := ⟨_, rfl⟩
        have e1 := add_any hAl (b := [58, 10]) (B := ⟨#[58, 10]⟩) rfl hR1 (by have := HLN.out; omega) (by simp)
        have e2 := add_any hR1 hBl hR2 (by have := HLN.out; simp only [List.length_append, List.length_cons, List.length_nil]; omega) (by have := HLN.out; omega)
        obtain ⟨p, hp⟩ : ∃ p, p = basePs.getD k zP := ⟨_, rfl⟩
        have hrt := base_right k hlt
        have hpr := base_prn hlt
        rw [← hp] at hrt hpr
        have HPS := Lib.hid (fun wx (hx : En wx) => parse_any R2 wx hx)
        have hR2d : R2.data.toList = prn p := by rw [hR2, hpr, hp]
        have hps : psP R2.data.toList = p ∧ psE R2.data.toList = 0 := by
          rw [hR2d]; unfold psP psE; rw [isTxt_prn hrt, guess_prn hrt]; exact ⟨rfl, rfl⟩
        rw [hps.1, hps.2] at HPS
        have HB : Hid (bsP A.data.toList = p ∧ bsE A.data.toList = 0) := Lib.hid (by
          have hb : bsAt A.data.toList basePs = some p := by
            rw [HR.out.1, HD.out]; unfold bsAt; rw [← hp, if_pos (by rw [hAl, hp])]
          unfold bsP bsE; rw [hb]; exact ⟨rfl, rfl⟩)
        clear hps hR2d hpr hrt hp hR1 hR2 hAl hBl hA hB HLN HD hq
        go_wp2_with (go_at_call 24; refine (HPS.out _ ((HE.out.keep HR.out.2.1).en.keep ((Below.refl _ _).alloc (Nat.le_refl _) _))).mono ?_; rintro e w1 ⟨x, rfl, hx1, hb1⟩; have HX1 := Lib.hid hx1; have hb2 := ((Below.refl wr.heap.size wr).alloc (Nat.le_refl _) _).trans (hb1.mono (by simp)); have HB1 := Lib.hid (HR.out.2.1.trans (hb2.mono HR.out.2.1.size)); have HRS := Lib.hid ((hb2.block _ (lt_of_heap HR.out.2.2)).trans HR.out.2.2); clear hx1 hb1 hb2 r0 r1 r2 r3 y0 y1 y2 y3; obtain ⟨r0, r1, r2, r3, y0, y1, y2, y3⟩ := box4c HRS.out; unfold patV)
        go_wp2_with fail
        refine bodyPost_ret (v := .tuple #[.agg #[.string ⟨p.nm.toArray⟩, .slice x.s0 p.p0.length x.c0, .slice x.s1 p.p1.length x.c1, .slice x.s2 p.ms.length x.c2], .int .i64 0]) (by rw [results_cell_tmp rfl]; go_simp) rfl ?_
        rw [HB.out.1, HB.out.2]
        exact ⟨x, rfl, HX1.out.other (noInt_res HRS.out) (set4_only w1 _ _ _ _ _), set4_below HB1.out (Nat.le_refl _) _ _ _ _⟩
      · have hne : (A.toList == n.toList) = false := by rw [ByteArray.toList_eq, ByteArray.toList_eq]; simpa using hq
        have HN : Hid (bsAt n.data.toList basePs = bsAt n.data.toList (basePs.drop (k + 1))) := Lib.hid (by
          rw [HR.out.1, HD.out]; conv => lhs; unfold bsAt
          rw [if_neg (by rw [hAl] at hq; exact hq)])
        clear hAl hBl hA hB HLN HD hq
        go_wp2_with fail
        go_roundg (15 - (k + 1))
        case measure => omega
        case rel => exact ⟨k + 1, by omega, by go_num, (show _ ∧ _ from ⟨HN.out, HR.out.2.1.alloc HR.out.2.1.size _, by rw [Below.heap_alloc _ _ _ (lt_of_heap HR.out.2.2)]; exact HR.out.2.2⟩)⟩
    · have hk2 : ¬ (k : Int) < 15 := by omega
      have HB : Hid (bsP n.data.toList = zP ∧ bsE n.data.toList = 4) := Lib.hid (by
        have hb : bsAt n.data.toList basePs = none := by
          rw [HR.out.1, List.drop_of_length_le (by rw [base_len]; omega)]; rfl
        unfold bsP bsE; rw [hb]; exact ⟨rfl, rfl⟩)
      go_wp2_with fail
      refine bodyPost_ret (v := .tuple #[.agg #[.string ⟨#[]⟩, .slice none 0 0, .slice none 0 0, .slice none 0 0], .int .i64 4]) (by rw [results_cell_tmp rfl]; go_simp) rfl ?_
      rw [HB.out.1, HB.out.2]
      exact ⟨nilS, rfl, patA_zero _, set4_below HR.out.2.1 (Nat.le_refl _) _ _ _ _⟩
end Go.Proofs.YtahbbojhdkillaaDoor
