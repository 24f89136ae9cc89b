/- The walk of CodeRows: a term's rows end with it, have each once, and each behind what it is made of. -/
import Derived.Test.YtcgdkiahcnhoeaaDoorLSizes
namespace Go.Proofs.YtcgdkiahcnhoeaaDoor
open Go.RowKit Go.Maps Go.Shelf

theorem has1_any (b : Nat) (s : Option Addr) (n cap : Nat) (bk bc : Nat) (x : Int) (w : World) (c0 : w.cell? ⟨b, 0, none⟩ = some (.slice s n cap)) (h0 : w.cell? ⟨bk, 0, none⟩ = some (.int .i64 x)) :
    Calls Tryd.prog 18 #[.pointer (some ⟨b, 0, none⟩), .slice (some ⟨bk, 0, none⟩) 1 bc] w fun e w' => e = .returned (.bool (hasB n x)) ∧ w = w' := by
  have h := hasAll_any b s n cap bk bc [x] w c0 (by simp) (fun i hi => by
    match i, hi with
    | 0, _ => exact h0)
  have e : allB n [x] = hasB n x := by simp [allB]
  rw [e] at h
  exact h
theorem new_cell1 (w : World) (o : Obj) (i : Nat) (u : Array Value) (t : TypeId) (v : Value) (h : u[i]? = some v) : ((w.alloc o).alloc (.cells u t)).cell? ⟨w.heap.size + 1, i, none⟩ = some v := by
  have := new_cell (w.alloc o) i u t v h
  rwa [World.size_alloc] at this
theorem nodup_idx {R : List Int} (hn : R.Nodup) {j k : Nat} (hj : j < R.length) (hk : k < R.length) (e : R[j] = R[k]) : j = k := by
  have h1 := px_at hn (x := R[k]) (i := j) (by rw [List.getElem?_eq_getElem hj, e])
  have h2 := px_at hn (x := R[k]) (i := k) (by rw [List.getElem?_eq_getElem hk])
  rw [h1] at h2
  exact Option.some.inj h2

/-- Where the rows so far lie, counted from 1. -/
def plc (R : List Int) (k : Nat) (y : Int) : Option Int := (px y (R.take k)).map fun i => ((i + 1 : Nat) : Int)
theorem plc_step {R : List Int} (hn : R.Nodup) {k : Nat} (hk : k < R.length) (y : Int) : (if y = R[k] then some ((k : Int) + 1) else plc R k y) = plc R (k + 1) y := by
  unfold plc
  rw [List.take_succ_eq_append_getElem hk]
  have hne : R[k] ∉ R.take k := fun e => by
    obtain ⟨j, hj, hje⟩ := List.mem_iff_getElem.1 e
    rw [List.getElem_take] at hje
    simp only [List.length_take] at hj
    have := nodup_idx hn (by omega) hk hje
    omega
  split
  · rename_i e; rw [e, px_snoc_same hne]; simp; omega
  · rename_i e; rw [px_snoc_other e]
theorem plc_no {R : List Int} (hn : R.Nodup) {k : Nat} (hk : k < R.length) : plc R k R[k] = none := by
  have hne : R[k] ∉ R.take k := fun e => by
    obtain ⟨j, hj, hje⟩ := List.mem_iff_getElem.1 e
    rw [List.getElem_take] at hje
    simp only [List.length_take] at hj
    have := nodup_idx hn (by omega) hk hje
    omega
  unfold plc
  rw [px_none.2 hne]; rfl
theorem plc_yes {R : List Int} {k : Nat} {y : Int} (hy : y ∈ R.take k) : (plc R (k + 1) y).getD 0 ≠ 0 := by
  have hy2 : y ∈ R.take (k + 1) := by
    obtain ⟨j, hj, hje⟩ := List.mem_iff_getElem.1 hy
    rw [List.getElem_take] at hje
    simp only [List.length_take] at hj
    exact List.mem_iff_getElem.2 ⟨j, by simp; omega, by rw [List.getElem_take]; exact hje⟩
  unfold plc
  cases e : px y (R.take (k + 1)) with
  | none => exact absurd hy2 (px_none.1 e)
  | some i => simp; omega

/-- What lies where, behind k rows. -/
structure Rw (w wr : World) (b g bm cap : Nat) (L : List Nd) (v : Value) (R : List Int) (m k : Nat) : Prop where
  st : St w wr b g bm cap 100 L
  row : wr.ownsRow w.heap.size 3 1 v R.length (R.map (Value.int .i64))
  mp : MapZ wr m k (plc R k)
  ne : bm ≠ m
  mge : w.heap.size ≤ m
section
variable {w wr w' : World} {b g bm cap : Nat} {L : List Nd} {v : Value} {R : List Int} {m k : Nat}
theorem Rw.keep (h : Rw w wr b g bm cap L v R m k) (hb : Below wr.heap.size wr w') : Rw w w' b g bm cap L v R m k :=
  ⟨h.st.keep hb, row_below h.row hb, h.mp.keep (hb.block _ h.mp.lt), h.ne, h.mge⟩
theorem Rw.told (h : Rw w wr b g bm cap L v R m k) (hn : R.Nodup) (hk : k < R.length) (hm : MapZ w' m (k + 1) (fun y => if y = R[k] then some ((k : Int) + 1) else plc R k y)) (ht : wr.mapTurned w' m) : Rw w w' b g bm cap L v R m (k + 1) := by
  have hg := ht.grown
  obtain ⟨es, c, hobj⟩ := h.mp.obj
  have ne : ∀ {k : Nat} {u : Array Value} {t : TypeId} {z : Nat × Nat}, wr.heap[k]? = some (.cells u t z) → k ≠ m := fun hk e => by subst e; rw [hk] at hobj; cases hobj
  obtain ⟨cg, fz', hcg⟩ := Lib.ownsRow_kind h.st.ar.own g rfl
  obtain ⟨D, hD, hR⟩ := hm
  refine ⟨⟨h.st.ar.keep (hg.block _ h.st.ar.blt (by simpa using ne h.st.ar.box)) (hg.block _ h.st.ar.glt (by simpa using ne hcg)) (hg.block _ h.st.ar.mlt (by simpa using h.ne)), ?_, h.st.hb, h.st.hg, h.st.hm⟩, ?_, ⟨D, hD, hR.congr (plc_step hn hk)⟩, h.ne, h.mge⟩
  · exact h.st.bel.grown hg h.st.bel.size (fun k e => by simp at e; have := h.mge; omega)
  · refine h.row.kept hg (.inr fun e => ?_)
    obtain ⟨c', fz'', hc⟩ := Lib.ownsRow_kind h.row m e
    rw [hobj] at hc; cases hc
end

set_option maxRecDepth 100000 in
set_option maxHeartbeats 1000000 in
theorem rows_long (s : Option Addr) (n c : Nat) (hn : 40 < n) (_hm : n ≤ maxLen) (x : Int) (_hx : i64ok x) (w : World) (hE : Env w) :
    Calls Tryd.prog 6 #[.slice s n c, .int .i64 x] w fun e w' => e = .returned (.bool true) ∧ Below w.heap.size w w' := by
  have HA := Lib.hid (awake_any w hE)
  have hn1 : (40 : Int) < (n : Int) := by omega
  clear hE
  go_enter Tryd.func6, Tryd.ntmps6
  go_wp2_with (go_at_call 9; refine HA.out.mono ?_; rintro e w2 ⟨rfl, hb2⟩)
  go_ret
  exact ⟨rfl, hb2⟩

set_option maxRecDepth 100000 in
set_option maxHeartbeats 1000000 in
theorem rows_good (s : Option Addr) (c : Nat) (ns : List Nd) (hn : ns.length ≤ 40) (x : Int) (hx : i64ok x) (w : World) (hE : Env w) (hB : BuiltAt w (.slice s ns.length c) ns) :
    Calls Tryd.prog 6 #[.slice s ns.length c, .int .i64 x] w fun e w' => e = .returned (.bool true) ∧ Below w.heap.size w w' := by
  have HB := Lib.hid ((Bl.of hB (lim := 100) (by decide)) w (Below.refl _ _))
  have HAW : Hid (∀ w1, Below w.heap.size w w1 → Calls Tryd.prog 9 #[] w1 fun e w' => e = .returned (.bool true) ∧ Below w1.heap.size w1 w') := Lib.hid (fun w1 h => awake_any w1 (hE.below h))
  have hn1 : decide ((40 : Int) < (ns.length : Int)) = false := by simp; omega
  have hn2 : ¬ (40 : Int) < (ns.length : Int) := by omega
  unfold BuiltPost at HB
  obtain ⟨L, hL⟩ : ∃ L, L = bld 100 ns := ⟨_, rfl⟩
  rw [← hL] at HB
  have hmm := @run_makeMap Tryd.prog
  have HRO : Hid (∀ w1 b g bm cap, St w w1 b g bm cap 100 L → Calls Tryd.prog 11 #[.pointer (some ⟨b, 0, none⟩), .int .i64 x] w1 fun e w' => ∃ v, e = .returned v ∧ w'.ownsRow w1.heap.size 3 1 v (rows L x).length ((rows L x).map (Value.int .i64)) ∧ Below w1.heap.size w1 w') := Lib.hid (fun w1 b g bm cap h => rowsF_any x hx w1 (hE.below h.bel) h.ar)
  have HHA : Hid (∀ w1 b g bm cap bk bc, St w w1 b g bm cap 100 L → w1.cell? ⟨bk, 0, none⟩ = some (.int .i64 x) → Calls Tryd.prog 18 #[.pointer (some ⟨b, 0, none⟩), .slice (some ⟨bk, 0, none⟩) 1 bc] w1 fun e w' => e = .returned (.bool (hasB L.length x)) ∧ w1 = w') := Lib.hid (fun w1 b g bm cap bk bc h hc => has1_any b _ L.length cap bk bc x w1 h.ar.c0 hc)
  clear hE hB hL
  obtain ⟨R, hR⟩ : ∃ R, R = rows L x := ⟨_, rfl⟩
  rw [← hR] at HRO
  by_cases hh : hasB L.length x = true
  · have HH := Lib.hid hh
    have HFA : Hid (WF L → R.Nodup ∧ Ord L R ∧ (∀ y ∈ R, hasB L.length y = true) ∧ R.length ≤ L.length) := Lib.hid (fun h => by
      rw [hR]; exact ⟨(rows_acc h x).nodup, rows_ord h x, (rows_acc h x).has, (rows_acc h x).len⟩)
    obtain ⟨m0, hm0⟩ := rows_last hh
    rw [← hR] at hm0
    have hRp : 0 < R.length := by rw [hm0]; simp
    have HLA : Hid (R.getD (R.length - 1) 0 = x) := Lib.hid (by rw [hm0]; simp [List.getD])
    clear hh hm0 hR
    go_enter Tryd.func6, Tryd.ntmps6
    go_wp2_with (first
      | (go_at_call 10; refine HB.out.mono ?_; rintro e w1 ⟨b, g, bm, cap, gr, capr, rfl, hP⟩; have hS0 := fun o o' => (hP.st.keep ((Below.refl w1.heap.size w1).alloc (Nat.le_refl _) o)).keep ((Below.refl (w1.alloc o).heap.size (w1.alloc o)).alloc (Nat.le_refl _) o'))
      | (go_at_call 18; refine (HHA.out _ b g bm cap (w1.heap.size + 1) 1 (hS0 _ _) (new_cell1 w1 _ 0 _ _ _ rfl)).mono ?_; rintro e w2 ⟨rfl, hw2⟩; rw [← hw2, HH.out]; clear hw2)
      | (go_at_call 11; refine (HRO.out _ b g bm cap (hS0 _ _)).mono ?_; rintro e w3 ⟨v, rfl, ho, hb3⟩; obtain ⟨sp, cp, rfl⟩ := own_slice ho))
    have hwf := hP.st.ar.wf
    have hsm := hP.st.ar.small
    obtain ⟨hnd, hord, hhas, hlen⟩ := HFA.out hwf
    have HR0 : Hid (Rw w (w3.alloc (.map #[] 0)) b g bm cap L (.slice sp R.length cp) R w3.heap.size 0) := Lib.hid (by
      have hS3 := (hS0 _ _).keep hb3
      have hA : Below w3.heap.size w3 (w3.alloc (.map #[] 0)) := (Below.refl _ _).alloc (Nat.le_refl _) _
      have hm3 := hS3.ar.mlt
      obtain ⟨D, hD, hDR⟩ := MapZ.made w3
      have hbz := hS3.bel.size
      exact ⟨hS3.keep hA, row_below (ownsRow_mono ho (hS0 _ _).bel.size) hA, ⟨D, hD, hDR.congr (fun y => by simp [plc, px])⟩, by omega, by omega⟩)
    obtain ⟨m, hme⟩ : ∃ m, m = w3.heap.size := ⟨_, rfl⟩
    rw [← hme] at HR0
    rw [← hme]
    have HND := Lib.hid hnd
    have HOR := Lib.hid hord
    have HHS := Lib.hid hhas
    have HWF := Lib.hid hwf
    clear hS0 hb3 ho hme hnd hord hhas hwf HFA hP
    go_loopg [10, 11, 12, 13, 14, 15, 17, 49] R.length (fun q _ _ _ _ _ _ _ u49 wr => ∃ k : Nat, k + q = R.length ∧ u49 = .int .i64 k ∧ Rw w wr b g bm cap L (.slice sp R.length cp) R m k)
    case atStart => exact ⟨0, by omega, rfl, HR0.out⟩
    case round =>
      obtain ⟨k, hkq, rfl, hrw⟩ := hrel
      obtain ⟨gq, rfl⟩ : ∃ gq, sp = some ⟨gq, 0, none⟩ := by
        rcases hrw.row.2 with ⟨h1, h2⟩ | ⟨gq, _, _, h1, _⟩
        · omega
        · exact ⟨gq, by injection h1⟩
      by_cases hlt : k < R.length
      · have hxb := HHS.out _ (List.getElem_mem hlt)
        obtain ⟨i, hi⟩ : ∃ i : Nat, R[k] = (i : Int) := ⟨R[k].toNat, by have := hasB_iff.1 hxb; omega⟩
        rw [hi] at hxb
        have hil : i < L.length := by have := hasB_iff.1 hxb; omega
        have cX : wr.cell? ⟨gq, k, none⟩ = some (.int .i64 (i : Int)) := by
          rw [hrw.row.cellAt k (by omega)]
          simp [hlt, hi]
        have hlk := hrw.mp.look (x := (i : Int)) (by unfold i64ok; omega)
        have hno := plc_no HND.out hlt
        rw [hi] at hno
        rw [hno] at hlk
        simp only [Option.getD_none, Option.isSome_none] at hlk
        obtain ⟨w6, hup, hm6, ht6⟩ := hrw.mp.store (by unfold maxLen; omega) (x := (i : Int)) (v := (k : Int) + 1) (by unfold i64ok; omega) (by unfold i64ok; omega)
        have HR6 := Lib.hid (hrw.told HND.out hlt (by rw [hi]; exact hm6) ht6)
        have hG := get_yes b g bm cap 100 L i hil w6 HR6.out.st.ar
        obtain ⟨d, hd⟩ : ∃ d, d = L.getD i zN := ⟨_, rfl⟩
        have hgk := (right_iff.1 (HWF.out.good i hil)).1
        rw [← hd] at hG hgk
        have HPT : Hid (∀ p ∈ prt d, i64ok p ∧ p ∈ R.take k) := Lib.hid (fun p hp => by
          have hnd' : nd L (i : Int) = d := by rw [hd]; rfl
          have h1 := prt_in HWF.out hxb (p := p) (by rw [hnd']; exact hp)
          exact ⟨by unfold i64ok; omega, HOR.out k hlt p (by rw [hi, hnd']; exact hp)⟩)
        clear hd
        obtain ⟨k1, n1, a1, b1, c1⟩ := d
        obtain ⟨kk, hkk, hk10⟩ : ∃ kk : Nat, k1 = kk ∧ kk < 10 := kind_nat hgk
        subst hkk
        have hpl : many (kk : Int) = ((prt ⟨kk, n1, a1, b1, c1⟩).length : Nat) := (prt_length (d := ⟨kk, n1, a1, b1, c1⟩) hgk).symm
        have hp3 := prt_len ⟨kk, n1, a1, b1, c1⟩
        obtain ⟨ps, hps⟩ : ∃ ps, ps = prt ⟨kk, n1, a1, b1, c1⟩ := ⟨_, rfl⟩
        rw [← hps] at hpl hp3 HPT
        have HPS := Lib.hid hps
        have HPL := Lib.hid hpl
        unfold agg at hG
        simp only at hG
        have HG := Lib.hid hG
        clear hG hgk hpl hps hm6 ht6 hrw hno hxb hi
        go_wp2_with (go_at_call 19; refine HG.out.mono ?_; rintro e w7 ⟨rfl, hb7⟩)
        obtain ⟨X, hX⟩ : ∃ X, X = w7.alloc (.cells #[.int .i64 (kk : Int), .int .u64 n1, .int .i64 a1, .int .i64 b1, .int .i64 c1] 48) := ⟨_, rfl⟩
        have hbx : X.heap[w7.heap.size]? = some (.cells #[.int .i64 (kk : Int), .int .u64 n1, .int .i64 a1, .int .i64 b1, .int .i64 c1] 48 (0, 0)) := by rw [hX]; exact heap_alloc_new w7 _
        have HRX : Hid (Rw w X b g bm cap L (.slice (some ⟨gq, 0, none⟩) R.length cp) R m (k + 1)) := Lib.hid (by rw [hX]; exact HR6.out.keep (hb7.alloc hb7.size _))
        obtain ⟨y0, y1, y2, y3, y4, -⟩ := node_facts hbx
        have hnl := lt_of_heap hbx
        obtain ⟨nb, hnb⟩ : ∃ nb, nb = w7.heap.size := ⟨_, rfl⟩
        rw [← hX, ← hnb]
        rw [← hnb] at y0 y1 y2 y3 y4 hnl
        clear hbx hX hb7 hup hlk cX hnb
        have hq1 : (0 : Int) ≤ (ps.length : Int) := by omega
        have hq2 : (ps.length : Int) ≤ 3 := by omega
        go_cut [82, 83, 84] (fun s82 s83 s84 wx => ∃ sb, s82 = .slice (some ⟨sb, 0, none⟩) ps.length 3 ∧ s83 = .int .i64 ps.length ∧ s84 = .int .i64 0 ∧ tri wx sb a1 b1 c1 ∧ Below X.heap.size X wx)
        case first =>
          go_region_held3 (fun w' => w'.cell? ⟨nb, 0, none⟩ = some (.int .i64 (kk : Int)) ∧ w'.cell? ⟨nb, 2, none⟩ = some (.int .i64 a1) ∧ w'.cell? ⟨nb, 3, none⟩ = some (.int .i64 b1) ∧ w'.cell? ⟨nb, 4, none⟩ = some (.int .i64 c1)) (go_keep)
            (first
              | (go_at_call 20; refine (many_any _ _).mono ?_; rintro e w' ⟨rfl, rfl⟩; rw [HPL.out]))
          all_goals
            go_wp2_with fail
            go_meet
            case rel => exact ⟨X.heap.size, rfl, rfl, rfl, heap_alloc_new X _, ((Below.refl _ _).alloc (Nat.le_refl _) _).drew⟩
        case rest =>
          obtain ⟨sb, rfl, rfl, rfl, ht, hbc⟩ := hcut
          have HT := Lib.hid ht
          have HRC := Lib.hid (HRX.out.keep hbc)
          clear ht hbc y0 y1 y2 y3 y4 hnl
          go_wp2_with fail
          go_loopg [17, 84] ps.length (fun q _ u84 wr => ∃ j : Nat, j + q = ps.length ∧ u84 = .int .i64 j ∧ Below wc.heap.size wc wr)
          case atStart => exact ⟨0, by omega, rfl, Below.refl _ _⟩
          case round =>
            obtain ⟨j, hjq, rfl, hbr⟩ := hrel
            have hrr := HRC.out.keep hbr
            by_cases hjl : j < ps.length
            · obtain ⟨p, hpe⟩ : ∃ p, p = ps.getD j 0 := ⟨_, rfl⟩
              have hpm : p ∈ ps := by rw [hpe, List.getD_eq_getElem?_getD, List.getElem?_eq_getElem hjl]; simp
              have hpt := HPT.out p hpm
              have cP : wr.cell? ⟨sb, j, none⟩ = some (.int .i64 p) := by
                rw [World.cell?_of_block (hbr.block sb (lt_of_heap HT.out)), hpe, HPS.out]
                exact tri_at HT.out (by rw [← HPS.out]; exact hjl)
              have hl1 := hrr.mp.look1 hpt.1
              have hne := plc_yes (R := R) (k := k) hpt.2
              obtain ⟨vv, hvv⟩ : ∃ v, v = (plc R (k + 1) p).getD 0 := ⟨_, rfl⟩
              rw [← hvv] at hl1 hne
              have hbe : (vv == 0) = false := by simpa using hne
              have HBR := Lib.hid hbr
              clear hpe hpm hpt hvv hrr hbr
              go_wp2_with fail
              all_goals
                go_roundg (ps.length - (j + 1))
                case rel => exact ⟨j + 1, by omega, by simp, HBR.out⟩
                case measure => omega
            · have HRR := Lib.hid hrr
              clear hrr hbr
              go_wp2_with fail
              go_roundg (R.length - (k + 1))
              case rel => exact ⟨k + 1, by omega, by simp, HRR.out⟩
              case measure => omega
      · obtain ⟨n0, hn0⟩ : ∃ n0, R.length = n0 + 1 := ⟨R.length - 1, by omega⟩
        have cL : wr.cell? ⟨gq, n0, none⟩ = some (.int .i64 x) := by
          rw [hrw.row.cellAt n0 (by omega), ← HLA.out, hn0]
          simp [List.getD, List.getElem?_eq_getElem (show n0 < R.length by omega)]
        have HA := Lib.hid (HAW.out wr hrw.st.bel)
        have HRR := Lib.hid hrw
        have hgl := World.block_lt_of_cell? wr ⟨gq, n0, none⟩ cL
        have hn65 : n0 + 1 ≤ 65536 := by omega
        clear hrw
        rw [hn0] at hlt ⊢
        have hkn : k = n0 + 1 := by omega
        clear hn0 hkq
        go_wp2_with (go_at_call 9; refine HA.out.mono ?_; rintro e w6 ⟨rfl, hb6⟩)
        go_ret
        exact ⟨rfl, (HRR.out.st.keep hb6).bel⟩
  · have hh' : hasB L.length x = false := by simpa using hh
    have HH := Lib.hid hh'
    have hR0 : R = [] := by rw [hR]; exact rows_no hh'
    clear hh hh' hR
    subst hR0
    go_enter Tryd.func6, Tryd.ntmps6
    go_wp2_with (first
      | (go_at_call 10; refine HB.out.mono ?_; rintro e w1 ⟨b, g, bm, cap, gr, capr, rfl, hP⟩; have hS0 := fun o o' => (hP.st.keep ((Below.refl w1.heap.size w1).alloc (Nat.le_refl _) o)).keep ((Below.refl (w1.alloc o).heap.size (w1.alloc o)).alloc (Nat.le_refl _) o'))
      | (go_at_call 18; refine (HHA.out _ b g bm cap (w1.heap.size + 1) 1 (hS0 _ _) (new_cell1 w1 _ 0 _ _ _ rfl)).mono ?_; rintro e w2 ⟨rfl, hw2⟩; rw [← hw2, HH.out]; clear hw2)
      | (go_at_call 11; refine (HRO.out _ b g bm cap (hS0 _ _)).mono ?_; rintro e w3 ⟨v, rfl, ho, hb3⟩; obtain ⟨sp, cp, rfl⟩ := own_slice ho)
      | (go_at_call 9; refine (HAW.out w3 ((hS0 _ _).keep hb3).bel).mono ?_; rintro e w4 ⟨rfl, hb4⟩))
    go_ret
    exact ⟨rfl, (((hS0 _ _).keep hb3).keep hb4).bel⟩
end Go.Proofs.YtcgdkiahcnhoeaaDoor
