import Derived.Test.YtemigefkkjgehaaDoorEp
import Derived.Deep.AppendLies
import Derived.Deep.Upon

/- Layer 4: steps put behind steps. -/
namespace Go.Proofs.YtemigefkkjgehaaDoor
open Go.RowKit Go.Maps

/-- The cells of steps. -/
def cellsP (d : Sp) : List Value := [.int .i64 d.op, .int .u64 d.n, .int .i64 d.a, .int .i64 d.b, .int .i64 d.c]
def cellsPs (l : List Sp) : List Value := l.flatMap cellsP
theorem cellsPs_len (l : List Sp) : (cellsPs l).length = l.length * 5 := by
  induction l with
  | nil => rfl
  | cons d r ih => rw [cellsPs, List.flatMap_cons, List.length_append, ← cellsPs, ih]; simp [cellsP]; omega
theorem cellsPs_at (l : List Sp) (i r : Nat) (hi : i < l.length) (hr : r < 5) : (cellsPs l)[i * 5 + r]? = (cellsP (l.getD i zSp))[r]? := by
  induction l generalizing i with
  | nil => simp at hi
  | cons d t ih =>
    rw [cellsPs, List.flatMap_cons, ← cellsPs]
    cases i with
    | zero =>
      rw [List.getElem?_append_left (by simp [cellsP]; omega)]
      simp
    | succ k =>
      rw [List.getElem?_append_right (by simp [cellsP]; omega)]
      have e : (k + 1) * 5 + r - (cellsP d).length = k * 5 + r := by simp [cellsP]; omega
      rw [e, ih k (by simpa using hi)]
      simp
theorem Tryd.infoSp : (Tryd.prog.info? 60).map (fun i => (i.zero, i.size, i.bytes)) = some (some (.agg #[.int .i64 0, .int .u64 0, .int .i64 0, .int .i64 0, .int .i64 0]), 5, 40) := by kernel_rfl
theorem steps_of_own {w : World} {B g n cap : Nat} {l : List Sp} (h : w.ownsRow B 60 5 (.slice (some ⟨g, 0, none⟩) n cap) n (cellsPs l)) (hn : n = l.length) : StepsV w (some ⟨g, 0, none⟩) l := fun _ => by
  subst hn
  have hlt := (h.lt g rfl).2
  refine ⟨g, 0, rfl, hlt, fun i hi => ?_⟩
  have key : ∀ r, r < 5 → w.cell? ⟨g, 0 + i * 5 + r, none⟩ = (cellsP (l.getD i zSp))[r]? := fun r hr => by
    rw [Nat.zero_add, h.cellAt (i * 5 + r) (by omega), cellsPs_at l i r hi hr]
  exact ⟨key 0 (by omega), key 1 (by omega), key 2 (by omega), key 3 (by omega), key 4 (by omega)⟩
/-- What an append of steps leaves. -/
theorem app_steps {w : World} {B g0 n cap0 : Nat} {xs : List Sp} (hown : w.ownsRow B 60 5 (.slice (some ⟨g0, 0, none⟩) n cap0) n (cellsPs xs)) (hB : B ≤ w.heap.size) (s : Option Addr) (c : Nat) (l : List Sp) (hl : StepsV w s l) (hn : n ≤ 1000) (hln : l.length ≤ 1000) :
    ∃ g cap w', (Builtin.append_ #[47, 47] 47 #[.slice (some ⟨g0, 0, none⟩) n cap0, .slice s l.length c]).run Tryd.prog w = .ok (.slice (some ⟨g, 0, none⟩) (n + l.length) cap) w' ∧ w'.ownsRow B 60 5 (.slice (some ⟨g, 0, none⟩) (n + l.length) cap) (n + l.length) (cellsPs (xs ++ l)) ∧ w.grownBy w' (some g0) := by
  obtain ⟨i0, hi0, hz0, hz1, hz2⟩ := info_parts Tryd.infoSp
  by_cases h0 : l.length = 0
  · have hl0 : l = [] := List.eq_nil_of_length_eq_zero h0
    subst hl0
    have hle : n ≤ cap0 := by
      rcases hown.2 with ⟨e, _⟩ | ⟨g, cap, cur, e, _, _, h1, _⟩
      · cases e
      · cases e; exact h1
    refine ⟨g0, cap0, w, ?_, by simpa using hown, ⟨rfl, rfl, rfl, Nat.le_refl _, fun _ _ _ => rfl⟩⟩
    exact run_append_nothing (P := Tryd.prog) w 47 47 47 60 i0 Tryd.underlying47 hi0 (some ⟨g0, 0, none⟩) n cap0 hle (.slice s 0 c)
      ⟨.inl ⟨_, Tryd.underlying47⟩, fun w' => by simp [Builtin.lenOf], by cases s <;> simp [Builtin.firstCells, loadCells, loadCellsFrom], by cases s <;> simp [Builtin.firstCells, loadCells, loadCellsFrom], by simp, fun u hu => by simp at hu⟩
  · obtain ⟨gs, os, rfl, hgs, hc⟩ := hl (by omega)
    obtain ⟨g, cap, w', hr, h2, h3, _, _⟩ := run_append_lies (P := Tryd.prog) w 47 47 B 60 i0 _ 5 40 Tryd.underlying47 hi0 hz0 hz1 hz2 rfl (by omega) (.slice (some ⟨g0, 0, none⟩) n cap0) n (cellsPs xs) hown ⟨gs, os, none⟩ l.length c (cellsPs l) (cellsPs_len l)
      (fun j u hj => by
        have hjl : j < l.length * 5 := by
          rcases Nat.lt_or_ge j (l.length * 5) with h | h
          · exact h
          · rw [List.getElem?_eq_none (by rw [cellsPs_len]; exact h)] at hj; cases hj
        have hi : j / 5 < l.length := by omega
        have hr5 : j % 5 < 5 := Nat.mod_lt _ (by omega)
        have ej : j / 5 * 5 + j % 5 = j := by omega
        have hadd : (⟨gs, os, none⟩ : Addr).add j = ⟨gs, os + j / 5 * 5 + j % 5, none⟩ := by
          have e2 : os + j / 5 * 5 + j % 5 = os + j := by omega
          rw [e2]; unfold Addr.add; split <;> simp_all
        rw [hadd]
        rw [← ej, cellsPs_at l _ _ hi hr5] at hj
        obtain ⟨c0, c1, c2, c3, c4⟩ := hc (j / 5) hi
        generalize l.getD (j / 5) zSp = d at *
        have h5 : j % 5 = 0 ∨ j % 5 = 1 ∨ j % 5 = 2 ∨ j % 5 = 3 ∨ j % 5 = 4 := by omega
        rcases h5 with h | h | h | h | h
        all_goals
          rw [h] at hj ⊢
          simp only [cellsP, List.getElem?_cons_zero, List.getElem?_cons_succ, Option.some.injEq] at hj
          subst hj
        · exact c0
        · exact c1
        · exact c2
        · exact c3
        · exact c4)
      (fun u hu => by
        obtain ⟨d, _, hd⟩ := List.mem_flatMap.1 hu
        simp only [cellsP, List.mem_cons, List.not_mem_nil, or_false] at hd
        rcases hd with rfl | rfl | rfl | rfl | rfl <;> rfl)
      (by omega) (by unfold maxLen; omega) (by omega) hB _ rfl
    have e : cellsPs (xs ++ l) = cellsPs xs ++ cellsPs l := by simp [cellsPs]
    rw [e]
    exact ⟨g, cap, w', hr, h2, h3⟩
/-- An append whose run is known, at a plain region's list. -/
theorem wpList_append_run {P : Program} {ops : Array Oper} {rest : List Oper} {o : Oper} {a : Act} {w : World} {Q : Exit → Act → World → Prop} (hgd : o.guard = none) (s x : Operand) (t : TypeId)
    (ho : o.op = .call { callee := .builtin .append, args := #[s, x], argTypes := #[t, t] }) (v u v' : Value) (w' : World) (hs : a.eval s = v) (hx : a.eval x = u)
    (hr : (Builtin.append_ #[t, t] o.type #[v, u]).run P w = .ok v' w') (h : wpList P ops Q rest (a.put o.dst v') w') : wpList P ops Q (o :: rest) a w :=
  wpList_plain hgd fun K hK => by
    unfold Oper.wp execOp
    simp only [ho, resolve, invoke, builtin, Sem.run_bind, Sem.run_pure, Result.andThen_ok, List.map_toArray, List.map_cons, List.map_nil, hs, hx, hr]
    exact hK _ _ h
theorem runY_from {lim : Nat} {H : List Int} : ∀ (l : List Sp) (L : List Nd) (Y : List Int) (i : Nat), ((runY lim H l L Y i).e ≠ 0 → i ≤ (runY lim H l L Y i).i) ∧ ((runY lim H l L Y i).e = 0 → ∃ Z, (runY lim H l L Y i).Y = Y ++ Z)
  | [], L, Y, i => ⟨fun he => absurd rfl he, fun _ => ⟨[], by simp [runY]⟩⟩
  | s :: r, L, Y, i => by
    by_cases e0 : (stepY lim H L Y s).e = 0
    · have a1 : runY lim H (s :: r) L Y i = runY lim H r (stepY lim H L Y s).L (Y ++ [(stepY lim H L Y s).r]) (i + 1) := by rw [runY, if_pos e0]
      rw [a1]
      obtain ⟨h1, h2⟩ := runY_from r (stepY lim H L Y s).L (Y ++ [(stepY lim H L Y s).r]) (i + 1)
      refine ⟨fun he => by have := h1 he; omega, fun he => ?_⟩
      obtain ⟨Z, hZ⟩ := h2 he
      exact ⟨(stepY lim H L Y s).r :: Z, by rw [hZ]; simp⟩
    · have a1 : runY lim H (s :: r) L Y i = ⟨L, [], i, (stepY lim H L Y s).e⟩ := by rw [runY, if_neg e0]
      rw [a1]
      exact ⟨fun _ => Nat.le_refl _, fun he => absurd he e0⟩
end Go.Proofs.YtemigefkkjgehaaDoor

/- The walk of RecipeJoins: a recipe of two is the first one, and then the second one. -/
namespace Go.Proofs.YtemigefkkjgehaaDoor
open Go.RowKit Go.Maps

set_option maxRecDepth 100000 in
set_option maxHeartbeats 1000000 in
theorem joins_long (s sr s1 s2 : Option Addr) (n m k1 k2 c cr c1 c2 : Nat) (hn : 30 < n ∨ 30 < m ∨ 15 < k1 ∨ 15 < k2) (w : World) (hs : Shp w) (hR : Rsh w) : Calls Tryd.prog 10 #[.slice s n c, .slice sr m cr, .slice s1 k1 c1, .slice s2 k2 c2] w fun e w' => e = .returned (.bool true) ∧ Below w.heap.size w w' := by
  have HA := Lib.hid (awake4_any w hs hR)
  clear hs hR
  rcases (show ((30 : Int) < n) ∨ (¬ (30 : Int) < n ∧ (30 : Int) < m) ∨ (¬ (30 : Int) < n ∧ ¬ (30 : Int) < m ∧ (15 : Int) < k1) ∨ (¬ (30 : Int) < n ∧ ¬ (30 : Int) < m ∧ ¬ (15 : Int) < k1 ∧ (15 : Int) < k2) by omega) with h | ⟨h, h2⟩ | ⟨h, h2, h3⟩ | ⟨h, h2, h3, h4⟩
  all_goals
    clear hn
    go_enter Tryd.func10, Tryd.ntmps10
    go_wp2_with (go_at_call 23; refine HA.out.mono ?_; rintro e w2 ⟨rfl, hb2⟩)
    go_ret
    exact ⟨rfl, hb2⟩
theorem wrap_64 {x : Int} (h0 : 0 ≤ x) (h1 : x ≤ 1000) : IntKind.i64.wrap x = x := by
  have h : x % (2 ^ IntKind.i64.bits : Int) = x := Int.emod_eq_of_lt h0 (Int.lt_of_le_of_lt h1 (by decide))
  unfold IntKind.wrap
  simp only [h]
  rw [if_neg]
  have : (2 ^ (IntKind.i64.bits - 1) : Int) > 1000 := by decide
  simp only [Bool.and_eq_true, decide_eq_true_eq]
  omega
set_option maxRecDepth 100000 in
set_option maxHeartbeats 4000000 in
theorem joins_good (s sr ss st : Option Addr) (c cr cs ct : Nat) (ns : List Nd) (refs : List Int) (one two : List Sp) (hn : ns.length ≤ 30) (hm : refs.length ≤ 30) (hl : one.length ≤ 15) (hl2 : two.length ≤ 15) (w : World) (hs : Shp w) (hR : Rsh w) (hB : BuiltAt w (.slice s ns.length c) ns) (hI : IntsV w sr refs) (hSt : StepsV w ss one) (hSt2 : StepsV w st two) : Calls Tryd.prog 10 #[.slice s ns.length c, .slice sr refs.length cr, .slice ss one.length cs, .slice st two.length ct] w fun e w' => e = .returned (.bool true) ∧ Below w.heap.size w w' := by
  have HKI := Lib.hid (kitchen_any s sr c cr ns refs 300 300 rfl hm w hB hI w (Below.refl _ _))
  have HAw := Lib.hid (fun w1 (h : Below w.heap.size w w1) => awake4_any w1 (hs.below h) (hR.below h))
  have HSH := Lib.hid hs
  have HRS := Lib.hid hR
  have HST := Lib.hid hSt
  have HS2 := Lib.hid hSt2
  have h4 : ¬ (15 : Int) < two.length := by omega
  have HL2 := Lib.hid hl2
  obtain ⟨L, hLe⟩ : ∃ L, L = bld 300 ns := ⟨_, rfl⟩
  rw [← hLe] at HKI
  have h1 : ¬ (30 : Int) < ns.length := by omega
  have h2 : ¬ (30 : Int) < refs.length := by omega
  have h3 : ¬ (15 : Int) < one.length := by omega
  have HM := Lib.hid hm
  have HLL := Lib.hid hl
  clear hs hR hB hI hn hm hl hl2 hLe hSt hSt2
  go_enter Tryd.func10, Tryd.ntmps10
  go_wp2_with fail
  go_at_call 24
  refine HKI.out.mono ?_
  rintro e w1 ⟨bk, b, g, bm, cap, gr, capr, mk, hv, K, rfl, hK1, hA1, hr1, hl1⟩
  obtain ⟨H, hHe⟩ : ∃ H, H = refs.filter fun x => hasB L.length x := ⟨_, rfl⟩
  rw [← hHe] at hK1
  have HK1 := Lib.hid hK1
  have HHK : Hid (∀ x ∈ H, K x = true) := Lib.hid (fun x hx => by
    rw [hHe] at hx
    obtain ⟨hx1, hx2⟩ := List.mem_filter.1 hx
    exact (hl1 x).2 (cl_in ⟨hx1, hx2⟩))
  have HHL : Hid (H.length ≤ 30) := Lib.hid (by rw [hHe]; exact Nat.le_trans (List.length_filter_le _ _) HM.out)
  clear hK1 hA1 hr1 hl1 hHe
  have HRUN := Lib.hid (fun wx (hb : Below w1.heap.size w1 wx) => run_kz (HK1.out.keep hb) HSH.out HRS.out (by have := HHL.out; omega) HHK.out (by omega) ss cs one (HST.out.keep (HK1.out.keep hb).st.bel) (steps_apart (HK1.out.keep hb).st HST.out) (by have := HLL.out; omega))
  have HAG := Lib.hid ((runY_again (lim := 300) (by omega) one L [] 0 HK1.out.kn.ar.wf HK1.out.kn.ar.len (fun x hx => HK1.out.kn.kh x (HHK.out x hx)) (fun y hy => by simp at hy)).2)
  have HCOM := Lib.hid (runY_append (lim := 300) (H := H) two one L [] 0)
  have HFR := Lib.hid (fun (LL : List Nd) (Y : List Int) => runY_from (lim := 300) (H := H) two LL Y (0 + one.length))
  have HLEN1 := Lib.hid (runY_len (lim := 300) (H := H) one L [] 0)
  have HLENA := Lib.hid (fun (LL : List Nd) => runY_len (lim := 300) (H := H) (one ++ two) LL [] 0)
  have HBAD1 := Lib.hid (runY_bad (lim := 300) (H := H) one L [] 0)
  have HBADA := Lib.hid (fun (LL : List Nd) => runY_bad (lim := 300) (H := H) (one ++ two) LL [] 0)
  have HAPP := Lib.hid (fun (LL : List Nd) => runY_append (lim := 300) (H := H) two one LL [] 0)
  obtain ⟨R, hRe⟩ : ∃ R, R = runY 300 H one L [] 0 := ⟨_, rfl⟩
  rw [← hRe] at HRUN HAG HLEN1 HBAD1
  clear hRe HCOM
  go_wp2_with fail
  go_at_call 25
  refine (HRUN.out _ (by first | exact Below.refl _ _ | exact (Below.refl _ _).alloc (Nat.le_refl _) _)).mono ?_
  unfold RunP
  rintro e w3 ⟨sy, cy, g', cap', M, rfl, hM, hwf, hK3, hi3, hp3, -, -⟩
  have HK3 := Lib.hid hK3
  have HI3 := Lib.hid hi3
  have HP3 := Lib.hid hp3
  have HRL : Hid (R.L = L ++ M) := Lib.hid hM
  have HAG3 : Hid (runY 300 H one (L ++ M) [] 0 = R) := Lib.hid (by rw [← hM]; exact HAG.out)
  have HSZ : Hid (b < w1.heap.size ∧ bm < w1.heap.size) := Lib.hid ⟨HK1.out.kn.ar.blt, HK1.out.kn.ar.mlt⟩
  clear hK3 hi3 hp3 hM hwf HAG HRUN
  generalize L ++ M = LM at *
  have HLIT : Hid ((w3.alloc (.cells #[] 60)).ownsRow w3.heap.size 60 5 (.slice (some ⟨w3.heap.size, 0, none⟩) 0 0) 0 (cellsPs [])) := Lib.hid (World.ownsRow_lit (base := w3.heap.size) (e := 60) (size := 5) w3 #[] 0 (Nat.le_refl _) (by unfold maxLen; omega) rfl)
  have HB3 : Hid (Below w3.heap.size w3 (w3.alloc (.cells #[] 60))) := Lib.hid ((Below.refl _ _).alloc (Nat.le_refl _) _)
  have hbw : Below w.heap.size w w3 := HK3.out.st.bel
  obtain ⟨ga, capa, wa, hra, howa, hgra⟩ := app_steps HLIT.out (by simp) ss cs one (HST.out.keep (hbw.trans (HB3.out.mono hbw.size))) (by omega) (by have := HLL.out; omega)
  have hba : Below w3.heap.size w3 wa := HB3.out.grown hgra (by simp) (fun k hk => by cases hk; exact Nat.le_refl _)
  rw [List.nil_append] at howa
  rw [Nat.zero_add] at hra howa
  obtain ⟨gb, capb, wb, hrb, howb, hgrb⟩ := app_steps howa hba.size st ct two (HS2.out.keep (hbw.trans (hba.mono hbw.size))) (by have := HLL.out; omega) (by have := HL2.out; omega)
  have hgal := (howa.lt ga rfl).1
  have hbb : Below w3.heap.size w3 wb := hba.grown hgrb hba.size (fun k hk => by cases hk; exact hgal)
  have HKB := Lib.hid (HK3.out.keep hbb)
  have HIB := Lib.hid (HI3.out.keep hbb)
  have HSA := Lib.hid (steps_of_own howb (by rw [List.length_append]))
  have hgb := howb.lt gb rfl
  have HGB : Hid (gb ≠ b ∧ gb ≠ g' ∧ gb ≠ bm) := Lib.hid (by
    have h1 := HK3.out.kn.ar.blt
    have h2 := HK3.out.kn.ar.glt
    have h3 := HK3.out.kn.ar.mlt
    have h4 := hgb.1
    refine ⟨?_, ?_, ?_⟩ <;> omega)
  have HRN2 := Lib.hid (run_kz HKB.out HSH.out HRS.out (by have := HHL.out; omega) HHK.out (by omega) (some ⟨gb, 0, none⟩) capb (one ++ two) HSA.out (fun _ p hp => by cases hp; exact HGB.out) (by rw [List.length_append]; have := HLL.out; have := HL2.out; omega))
  rw [List.length_append] at HRN2
  unfold RunP at HRN2
  clear howa hgra hba howb hgrb hbb hgb hbw hgal HLIT HB3
  have HRA := Lib.hid hra
  have HRB := Lib.hid hrb
  clear hra hrb
  have HQ2 : Hid (runY 300 H (one ++ two) LM [] 0 = if R.e = 0 then runY 300 H two R.L R.Y (0 + one.length) else R) := Lib.hid (by rw [HAPP.out LM, HAG3.out])
  have HLA := Lib.hid (HLENA.out LM)
  have HBA := Lib.hid (HBADA.out LM)
  obtain ⟨R2, hR2⟩ : ∃ R2, R2 = runY 300 H (one ++ two) LM [] 0 := ⟨_, rfl⟩
  rw [← hR2] at HRN2 HQ2 HLA HBA
  clear hR2 HAPP HAG3 HLENA HBADA
  have HI4 : Hid (∀ w5, Kept wb w5 b g' bm → IntsV w5 sy R.Y) := Lib.hid (fun w5 hk h0 => by
    obtain ⟨gl, ol, e, h1, h2⟩ := HIB.out h0
    have q := HP3.out _ e
    have h5 := HSZ.out
    simp only at q
    have hsz : w1.heap.size ≤ gl := Nat.le_trans (by simp) q.2.2
    exact ⟨gl, ol, e, Nat.lt_of_lt_of_le h1 hk.size, h2.keep (hk.block gl h1 (by omega) q.2.1 (by omega))⟩)
  clear HIB HI3 HP3 HSA HGB HST HS2
  by_cases he : R.e = 0
  · have HQ := HQ2.out
    rw [if_pos he] at HQ
    have HY1 := HLEN1.out he
    obtain ⟨hfr1, hfr2⟩ := HFR.out R.L R.Y
    rw [← HQ] at hfr1 hfr2
    have HF1 := Lib.hid hfr1
    have HF2 := Lib.hid hfr2
    have HYL1 : Hid (R.Y.length = one.length) := Lib.hid (by simpa using HY1)
    clear hfr1 hfr2 HQ HQ2 HY1 HFR HLEN1 HBAD1
    obtain ⟨RL, Y, ri, re⟩ := R
    obtain ⟨RL2, Y2, ri2, re2⟩ := R2
    simp only at he HRN2 HF1 HF2 HYL1 HLA HBA HI4
    subst he
    by_cases hf : re2 = 0
    · subst hf
      have HYL2 : Hid (Y2.length = one.length + two.length) := Lib.hid (by have := HLA.out rfl; rw [List.length_append] at this; simpa using this)
      have HZ := Lib.hid (HF2.out rfl)
      clear HLA HBA HF1 HF2
      have hy1 : ((Y2.length : Int) == (one.length : Int) + (two.length : Int)) = true := by rw [HYL2.out]; simp
      have hy30 : (Y.length : Int) ≤ 15 := by have := HYL1.out; have := HLL.out; omega
      have hz30 : (Y2.length : Int) ≤ 30 := by have := HYL2.out; have := HLL.out; have := HL2.out; omega
      have hwr : IntKind.i64.wrap ((one.length : Int) + (two.length : Int)) = (one.length : Int) + (two.length : Int) := by have := HLL.out; have := HL2.out; exact wrap_64 (by omega) (by omega)
      go_wp2_with (first
        | (at_builtin; have _k := HRA; clear _k; refine wpList_append_run rfl _ _ _ rfl _ _ _ _ rfl rfl HRA.out ?_; clear HRA)
        | (at_builtin; refine wpList_append_run rfl _ _ _ rfl _ _ _ _ rfl rfl HRB.out ?_))
      go_at_call 25
      refine HRN2.out.mono ?_
      rintro e w5 ⟨sz, cz, g2, cap2, M2, rfl, -, -, hK5, hi5, -, -, hk5⟩
      have HR5 : Hid (Below w.heap.size w w5 ∧ IntsV w5 sy Y ∧ IntsV w5 sz Y2) := Lib.hid ⟨hK5.st.bel, HI4.out w5 hk5, hi5⟩
      clear hK5 hi5 hk5 HRN2 HI4
      go_wp2_with fail
      go_loopg [96] Y.length (fun q u96 wr => ∃ i : Nat, i + q = Y.length ∧ u96 = .int .i64 i ∧ Aside (Below w.heap.size w wr ∧ IntsV wr sy Y ∧ IntsV wr sz Y2))
      case atStart => exact ⟨0, by omega, rfl, HR5.out⟩
      case round =>
        obtain ⟨i, hiq, rfl, hr⟩ := hrel
        have HR := Lib.hid hr.out; clear hr
        by_cases hlt : i < Y.length
        · have hlt2 : (i : Int) < Y.length := by omega
          have hi0 : (0 : Int) ≤ i := by omega
          have hlt3 : (i : Int) < Y2.length := by have := HYL1.out; have := HYL2.out; omega
          obtain ⟨gl, ol, rfl, hgl, hia⟩ := HR.out.2.1 (by omega)
          obtain ⟨gz, oz, rfl, hgz, hiz⟩ := HR.out.2.2 (by omega)
          have hx := hia i hlt
          have hz := hiz i (by omega)
          have hyz : Y2.getD i 0 = Y.getD i 0 := by
            obtain ⟨Z, hZ⟩ := HZ.out
            rw [hZ, List.getD_eq_getElem?_getD, List.getD_eq_getElem?_getD, List.getElem?_append_left hlt]
          rw [hyz] at hz
          clear hia hiz hyz
          generalize Y.getD i 0 = x at hx hz
          go_wp2_with fail
          go_quiet (fail)
          have HR4 : Hid (Below w.heap.size w (wr.drewN nq) ∧ IntsV (wr.drewN nq) (some ⟨gl, ol, none⟩) Y ∧ IntsV (wr.drewN nq) (some ⟨gz, oz, none⟩) Y2) := Lib.hid (by
            have hb : Below wr.heap.size wr (wr.drewN nq) := ⟨rfl, rfl, rfl, Nat.le_refl _, fun _ _ => rfl⟩
            exact ⟨HR.out.1.trans (hb.mono HR.out.1.size), HR.out.2.1.keep hb, HR.out.2.2.keep hb⟩)
          go_wp2_with fail
          go_roundg (Y.length - (i + 1))
          case measure => omega
          case rel => exact ⟨i + 1, by omega, by go_num, (show _ ∧ _ from HR4.out)⟩
        · have hlt2 : ¬ (i : Int) < Y.length := by omega
          go_wp2_with fail
          go_at_call 23
          refine (HAw.out _ HR.out.1).mono ?_
          rintro e w9 ⟨rfl, hb9⟩
          have HB9 := Lib.hid (HR.out.1.trans (hb9.mono HR.out.1.size))
          clear hb9
          go_wp2_with fail
          go_ret
          exact ⟨rfl, HB9.out⟩
    · have hfb : (re2 != 0) = true := by simpa using hf
      have hge : ((one.length : Nat) : Int) ≤ ((ri2 : Nat) : Int) := by have := HF1.out hf; omega
      clear hf HLA HBA HF1 HF2
      go_wp2_with (first
        | (at_builtin; have _k := HRA; clear _k; refine wpList_append_run rfl _ _ _ rfl _ _ _ _ rfl rfl HRA.out ?_; clear HRA)
        | (at_builtin; refine wpList_append_run rfl _ _ _ rfl _ _ _ _ rfl rfl HRB.out ?_))
      go_at_call 25
      refine HRN2.out.mono ?_
      rintro e w5 ⟨sz, cz, g2, cap2, M2, rfl, -, -, hK5, -, -, -, -⟩
      have HK5 := Lib.hid hK5
      clear hK5 HRN2
      go_wp2_with fail
      go_at_call 23
      refine (HAw.out _ HK5.out.st.bel).mono ?_
      rintro e w6 ⟨rfl, hb6⟩
      have HB6 := Lib.hid (HK5.out.st.bel.trans (hb6.mono HK5.out.st.bel.size))
      clear hb6
      go_wp2_with fail
      go_ret
      exact ⟨rfl, HB6.out⟩
  · have heb : (R.e != 0) = true := by simpa using he
    have HQ := HQ2.out
    rw [if_neg he] at HQ
    subst HQ
    have HYe := HBAD1.out he
    obtain ⟨RL, Y, ri, re⟩ := R2
    simp only at HYe heb HRN2
    subst HYe
    have hrr : (re == re) = true := beq_self_eq_true _
    have hii : ((ri : Int) == (ri : Int)) = true := beq_self_eq_true _
    clear he HQ2 HLA HBA HFR HLEN1 HBAD1 HI4
    go_wp2_with (first
      | (at_builtin; have _k := HRA; clear _k; refine wpList_append_run rfl _ _ _ rfl _ _ _ _ rfl rfl HRA.out ?_; clear HRA)
      | (at_builtin; refine wpList_append_run rfl _ _ _ rfl _ _ _ _ rfl rfl HRB.out ?_))
    go_at_call 25
    refine HRN2.out.mono ?_
    rintro e w5 ⟨sz, cz, g2, cap2, M2, rfl, -, -, hK5, -, -, -, -⟩
    have HK5 := Lib.hid hK5
    clear hK5 HRN2
    go_wp2_with fail
    go_at_call 23
    refine (HAw.out _ HK5.out.st.bel).mono ?_
    rintro e w6 ⟨rfl, hb6⟩
    have HB6 := Lib.hid (HK5.out.st.bel.trans (hb6.mono HK5.out.st.bel.size))
    clear hb6
    go_wp2_with fail
    go_ret
    exact ⟨rfl, HB6.out⟩
end Go.Proofs.YtemigefkkjgehaaDoor
