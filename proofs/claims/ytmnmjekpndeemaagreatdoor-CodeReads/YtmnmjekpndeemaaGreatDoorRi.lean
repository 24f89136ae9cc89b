/- The walk of a row's node (parseRow). -/
import Derived.Test.YtmnmjekpndeemaaGreatDoorRg
import Derived.Test.YtmnmjekpndeemaaGreatDoorRh
import Derived.Lib.AtoiErrMem
namespace Go.Proofs.YtmnmjekpndeemaaGreatDoor
open Go.RowKit Go.Maps Go.Shelf

theorem Tryz.hi146 : (Tryz.prog.info? (Tryz.lays146_ren.t 9)).map (fun i => (i.zero, i.size, i.bytes)) = some (some (.string ByteArray.empty), 1, 16) := by kernel_rfl

/-- What ParseUint hands back. -/
theorem parseU_any (s : ByteArray) (hs : s.size ≤ 16777216) (w : World) (hE : Env w) :
    Calls Tryz.prog 55 #[.string s, .int .i64 10, .int .i64 64] w fun e w' =>
      ((∃ u : Nat, pnum s.data.toList = some u ∧ e = .returned (.tuple #[.int .u64 u, .nilIface])) ∨ (pnum s.data.toList = none ∧ ∃ (x : Int) (te : TypeId) (pe : Addr), e = .returned (.tuple #[.int .u64 x, .iface te (.pointer (some pe))]))) ∧ Below w.heap.size w w' := by
  obtain ⟨v, hv, hv'⟩ := hE.syn
  obtain ⟨u, hu, hu'⟩ := hE.rng
  unfold pnum
  cases h : Lib.parseUintB 64 s.data.toList with
  | ok x =>
    refine (Any.strconv_ParseUint_10_at64_ok Tryz.laysPu14 s (by omega) x h w).mono ?_
    rintro e w' ⟨rfl, hw⟩
    refine ⟨.inl ⟨x, rfl, rfl⟩, ?_⟩
    rcases hw with rfl | rfl
    · exact Below.refl _ _
    · exact Lib.bytesWorld_below w _ s
  | range =>
    refine (Any.strconv_ParseUint_10_at64_range Tryz.laysPu14 s (by omega) h u w hu hu').mono ?_
    rintro e w' ⟨N, rfl, _, _, hb⟩
    exact ⟨.inr ⟨rfl, _, _, _, rfl⟩, hb⟩
  | _ =>
    refine (Any.strconv_ParseUint_10_at64_syntax Tryz.laysPu14 s (by omega) h v w hv hv').mono ?_
    rintro e w' ⟨N, rfl, _, _, hb⟩
    exact ⟨.inr ⟨rfl, _, _, _, rfl⟩, hb⟩

/-- What Split hands back at one byte. -/
theorem split_any (c : UInt8) (s : ByteArray) (hs : s.size ≤ 16777216) (w : World) (hE : Env w) :
    Calls Tryz.prog 31 #[.string s, .string ⟨#[c]⟩] w fun e w' => ∃ P : List ByteArray, P.map (·.data.toList) = spl c s.data.toList ∧ e = .returned (.slice (some ⟨w.heap.size, 0, none⟩) P.length P.length) ∧ w' = w.alloc (.cells (P.map Value.string).toArray 9) := by
  obtain ⟨m, hm⟩ := hE.len
  refine (Any.strings_Split Tryz.lays146 Tryz.hi146 s ⟨#[c]⟩ m w (by omega) hm (Nat.le_refl 1)).mono ?_
  rintro e w' ⟨rfl, rfl⟩
  refine ⟨_, ?_, ?_, rfl⟩
  · rw [Lib.splitB_data]
    show Lib.splitK [c] 0 (Lib.count s.data.toList [c]) s.data.toList = _
    rw [Lib.count_one, splitK_eq]
  · rw [Lib.splitB_all ⟨#[c]⟩ (Nat.le_refl 1) 0 _ s rfl]

theorem trim_any (s : ByteArray) (hs : s.size ≤ 16777216) (w : World) :
    Calls Tryz.prog 32 #[.string s, .string ⟨#[59]⟩] w fun e w' => e = .returned (.string ⟨(Lib.trimSuffix s.data.toList [59]).toArray⟩) ∧ w' = w :=
  Any.strings_TrimSuffix Tryz.lays102 s ⟨#[59]⟩ w (by omega)

theorem Tryz.info42 : (Tryz.prog.info? 42).map (fun i => (i.zero, i.size, i.bytes)) = some (some (.int .u64 0), 1, 8) := by kernel_rfl

theorem node_facts {w : World} {b : Nat} {k n a c d : Value} (h : w.heap[b]? = some (.cells #[k, n, a, c, d] 44 (0, 0))) :
    w.cell? ⟨b, 0, none⟩ = some k ∧ w.cell? ⟨b, 1, none⟩ = some n ∧ w.cell? ⟨b, 2, none⟩ = some a ∧ w.cell? ⟨b, 3, none⟩ = some c ∧ w.cell? ⟨b, 4, none⟩ = some d ∧
    w.frozen? ⟨b, 0, none⟩ = false ∧ w.frozen? ⟨b, 1, none⟩ = false ∧ w.frozen? ⟨b, 2, none⟩ = false ∧ w.frozen? ⟨b, 3, none⟩ = false ∧ w.frozen? ⟨b, 4, none⟩ = false :=
  ⟨(cell_of_row w _ 0 _ _ _ h).trans rfl, (cell_of_row w _ 1 _ _ _ h).trans rfl, (cell_of_row w _ 2 _ _ _ h).trans rfl, (cell_of_row w _ 3 _ _ _ h).trans rfl, (cell_of_row w _ 4 _ _ _ h).trans rfl,
    frozen_of_row _ _ _ _ _ h, frozen_of_row _ _ _ _ _ h, frozen_of_row _ _ _ _ _ h, frozen_of_row _ _ _ _ _ h, frozen_of_row _ _ _ _ _ h⟩
/-- What the three parts are, of which j have been found. -/
def fzJ (refs : List Int) (ns : List Nat) (i j : Nat) : Int := if i < j then refs.getD (ns.getD (2 + i) 0) 0 else 0
def uV (ns : List Nat) : List Value := ns.map fun (n : Nat) => Value.int .u64 (n : Int)
theorem uV_snoc (ns : List Nat) (u : Nat) : uV (ns ++ [u]) = uV ns ++ [.int .u64 (u : Int)] := by simp [uV]
/-- What parseRow hands back. -/
def rowV : Option Nd → Value
  | some d => .tuple #[agg d, .bool true]
  | none => .tuple #[agg zN, .bool false]

set_option maxRecDepth 100000 in
set_option maxHeartbeats 4000000 in
theorem parseRow_any (s : ByteArray) (hs : s.size ≤ 65536) (refs : List Int) (hrl : refs.length ≤ 65536) (rv : Value) (B : Nat) (w : World) (hE : Env w) (ho : w.ownsRow B 3 1 rv refs.length (refs.map (Value.int .i64))) :
    Calls Tryz.prog 33 #[.string s, rv] w fun e w' => e = .returned (rowV ((pall (spl 32 s.data.toList)).bind (prow refs))) ∧ Below w.heap.size w w' := by
  obtain ⟨i0, hi0, hz0, hz1, hz2⟩ := info_parts Tryz.info42
  obtain ⟨rp, rc, rfl⟩ := own_slice ho
  have HS := Lib.hid (split_any 32 s (by omega) (w.alloc (.cells #[.int .i64 0, .int .u64 0, .int .i64 0, .int .i64 0, .int .i64 0] 44)) (hE.below ((Below.refl _ _).alloc (Nat.le_refl _) _)))
  rw [World.size_alloc] at HS
  have HO := Lib.hid ho; clear ho
  have HE := Lib.hid hE; clear hE
  have hsl := spl_len 32 s.data.toList
  rw [← Lib.size_eq] at hsl
  go_enter Tryz.func33, Tryz.ntmps33
  go_wp2_with (go_at_call 31; refine HS.out.mono ?_; rintro e w1 ⟨P, HP, rfl, hw1⟩; have HW1 := Lib.hid hw1; clear hw1)
  have hw1 := HW1.out
  have hz1' : w.heap.size + 1 < w1.heap.size := by rw [hw1]; simp
  have HND : Hid (w1.heap[w.heap.size]? = some (.cells #[.int .i64 0, .int .u64 0, .int .i64 0, .int .i64 0, .int .i64 0] 44 (0, 0))) := Lib.hid (by
    rw [hw1, Below.heap_alloc _ _ _ (by simp)]; exact heap_alloc_new w _)
  have HFL : Hid (w1.heap[w.heap.size + 1]? = some (.cells (P.map Value.string).toArray 9 (0, 0))) := Lib.hid (by
    have h := heap_alloc_new (w.alloc (.cells #[.int .i64 0, .int .u64 0, .int .i64 0, .int .i64 0, .int .i64 0] 44)) (.cells (P.map Value.string).toArray 9)
    rw [World.size_alloc] at h
    rw [hw1]; exact h)
  have HB1 : Hid (Below w.heap.size w w1) := Lib.hid (by rw [hw1]; exact ((Below.refl _ _).alloc (Nat.le_refl _) _).alloc (by simp) _)
  have HPL : Hid (∀ x ∈ P, x.size ≤ 65536) := Lib.hid (fun x hx => by
    have h := spl_mem (c := 32) (l := s.data.toList) (p := x.data.toList) (by rw [← HP]; exact List.mem_map.2 ⟨x, hx, rfl⟩)
    rw [← Lib.size_eq, ← Lib.size_eq] at h; omega)
  have hpl : P.length ≤ 65537 := by
    have h := congrArg List.length HP
    rw [List.length_map] at h; omega
  have hpp : 0 < P.length := by
    have h := congrArg List.length HP
    rw [List.length_map] at h
    have := List.length_pos_iff.2 (spl_ne 32 s.data.toList); omega
  have HPE := Lib.hid HP
  clear HP hw1 HS HW1
  go_loopg [6, 8, 9, 10, 17] P.length (fun q u6 _ _ _ u17 wr => ∃ k : Nat, k + q = P.length ∧ u17 = .int .i64 k ∧ ∃ ns : List Nat, pall ((P.map (·.data.toList)).take k) = some ns ∧ wr.ownsRow w1.heap.size 42 1 u6 ns.length (uV ns) ∧ Below w1.heap.size w1 wr)
  case atStart => exact ⟨0, by omega, rfl, [], rfl, World.ownsRow_nil _ _ _ _, Below.refl _ _⟩
  case round =>
    obtain ⟨k, hkq, rfl, ns, hns, hown, hbr⟩ := hrel
    have hnl := pall_len hns
    rw [List.length_take, List.length_map] at hnl
    have HNL := Lib.hid hnl; clear hnl
    obtain ⟨sp, cp, rfl⟩ := own_slice hown
    have hnd := (hbr.block w.heap.size (by omega)).trans HND.out
    have hsz := hbr.size
    have HWR := Lib.hid (HB1.out.trans (hbr.mono (by omega)))
    by_cases hlt : k < P.length
    · obtain ⟨x, hx⟩ : ∃ x, P[k] = x := ⟨_, rfl⟩
      have hxs := HPL.out P[k] (List.getElem_mem hlt)
      rw [hx] at hxs
      have cF : wr.cell? ⟨w.heap.size + 1, k, none⟩ = some (.string x) := by
        rw [hbr.cell (p := ⟨w.heap.size + 1, k, none⟩) (by simp; omega), cell_of_row w1 _ k _ _ _ HFL.out]
        simp [hlt, hx]
      have HPU := Lib.hid (parseU_any x (by omega) wr (HE.out.below HWR.out))
      have hsn : pall ((P.map (·.data.toList)).take (k + 1)) = (pnum x.data.toList).bind fun u => some (ns ++ [u]) := by
        rw [List.take_succ_eq_append_getElem (by simpa using hlt), pall_snoc, hns]
        simp [hx]
      cases hpn : pnum x.data.toList with
      | some u =>
        rw [hpn] at hsn HPU
        have HSN := Lib.hid hsn
        have HOW := Lib.hid hown
        have HBR := Lib.hid hbr
        clear hsn hpn hx hnd hown hbr hns
        go_wp2_with (first
          | (go_at_call 55; refine HPU.out.mono ?_; rintro e w2 ⟨⟨u', hu, rfl⟩ | ⟨hu, _⟩, hb2⟩; obtain rfl := Option.some.inj hu; skip)
          | (at_builtin; refine wpList_append_own _ rfl _ _ 101 rfl w1.heap.size 42 i0 (.int .u64 0) 1 8 Tryz.underlying101 hi0 hz0 hz1 hz2 rfl (by decide) _ _ _ rfl (World.ownsRow.alloc (row_below HOW.out hb2) _) ⟨w2.heap.size, 0, none⟩ 1 1 [.int .u64 u] rfl rfl ?c1 ?c2 ?c3 ?c4 ?c5 ?_))
        case c1 =>
          intro j u hj
          match j, hj with
          | 0, hj => simp at hj; subst hj; simp [Addr.add]
        case c2 => intro u hu; simp at hu; subst hu; rfl
        case c3 => have := HNL.out; unfold maxLen; omega
        case c4 => have := HNL.out; omega
        case c5 => have := hb2.size; simp; omega
        intro v3 w3 hown3 hgr3 _
        have HR : Hid (w3.ownsRow w1.heap.size 42 1 v3 (ns ++ [u]).length (uV (ns ++ [u])) ∧ Below w1.heap.size w1 w3) := Lib.hid (by
          refine ⟨by rw [uV_snoc]; simpa using hown3, ?_⟩
          have h2 : Below w1.heap.size w1 w2 := HBR.out.trans (hb2.mono HBR.out.size)
          exact (h2.alloc h2.size _).grown hgr3 (by have := h2.size; simp; omega) (fun k e => (HOW.out.lt k e).1))
        clear hown3 hgr3
        go_wp2_with fail
        go_roundg (P.length - (k + 1))
        case rel => exact ⟨k + 1, by omega, by simp, ns ++ [u], HSN.out, HR.out.1, HR.out.2⟩
        case measure => omega
      | none =>
        rw [hpn] at hsn HPU
        have HRES : Hid (pall (spl 32 s.data.toList) = none) := Lib.hid (by
          rw [← HPE.out, ← List.take_append_drop (k + 1) (P.map (·.data.toList))]
          exact pall_none hsn)
        have HND2 : Hid (∀ w2, Below wr.heap.size wr w2 → w2.heap[w.heap.size]? = some (.cells #[.int .i64 0, .int .u64 0, .int .i64 0, .int .i64 0, .int .i64 0] 44 (0, 0))) := Lib.hid (fun w2 h2 => (h2.block _ (by omega)).trans hnd)
        have HB2 : Hid (∀ w2, Below wr.heap.size wr w2 → Below w.heap.size w w2) := Lib.hid (fun w2 h2 => HWR.out.trans (h2.mono HWR.out.size))
        clear hsn hpn hx hnd hown hbr hns
        go_wp2_with (go_at_call 55; refine HPU.out.mono ?_; rintro e w2 ⟨⟨u', hu, _⟩ | ⟨_, x', te, pe, rfl⟩, hb2⟩; cases hu; obtain ⟨n0, n1, n2, n3, n4, f0, f1, f2, f3, f4⟩ := node_facts (HND2.out w2 hb2))
        refine bodyPost_ret (v := .tuple #[.agg #[.int .i64 0, .int .u64 0, .int .i64 0, .int .i64 0, .int .i64 0], .bool false]) (by simp [results, Tryz.results33, go_sem, n0, n1, n2, n3, n4]) rfl ⟨by rw [HRES.out]; rfl, ?_⟩
        exact ((((HB2.out _ hb2).setCell (Nat.le_refl _) _).setCell (Nat.le_refl _) _).setCell (Nat.le_refl _) _).setCell (Nat.le_refl _) _ |>.setCell (Nat.le_refl _) _
    · obtain rfl : k = P.length := by omega
      have hpa : pall (spl 32 s.data.toList) = some ns := by
        rw [← HPE.out, ← hns, List.take_of_length_le (by simp)]
      have hlen : ns.length = P.length := by have := HNL.out; omega
      have hns64 := pall_lt hpa
      obtain ⟨g, rfl⟩ : ∃ g, sp = some ⟨g, 0, none⟩ := by
        rcases hown.2 with ⟨h1, h2⟩ | ⟨gr, _, _, h1, _⟩
        · omega
        · exact ⟨gr, by injection h1⟩
      have hcap : ns.length ≤ cp := by
        rcases hown.2 with ⟨h1, _⟩ | ⟨gr, cap', _, h1, _, _, h2, _⟩
        · cases h1
        · injection h1 with _ _ h3; omega
      have hg := (hown.lt g rfl).2
      have cN : ∀ j, j < ns.length → wr.cell? ⟨g, j, none⟩ = some (.int .u64 (ns.getD j 0 : Nat)) := fun j hj => by
        rw [hown.cellAt j (by omega)]
        simp [uV, List.getD, List.getElem?_eq_getElem hj]
      have hEr := HE.out.below HWR.out
      have c0 := cN 0 (by omega)
      obtain ⟨k0, hk0⟩ : ∃ k0, k0 = ns.getD 0 0 := ⟨_, rfl⟩
      rw [← hk0] at c0
      have hk64 : k0 < 18446744073709551616 := by
        rw [hk0, List.getD_eq_getElem?_getD, List.getElem?_eq_getElem (show 0 < ns.length by omega)]
        exact hns64 _ (List.getElem_mem _)
      obtain ⟨n0, n1, n2, n3, n4, f0, f1, f2, f3, f4⟩ := node_facts hnd
      by_cases hk : k0 < 10
      · have cC := hEr.cnt k0 hk
        have hcp0 := hEr.cpos
        have hmr := many_range (k0 : Int)
        by_cases hm : (ns.length : Int) = 2 + many (k0 : Int)
        · have hl3 : ns.length ≤ 5 := by omega
          have hl2 : 2 ≤ ns.length := by
            have : 0 ≤ many (k0 : Int) := by unfold many; split <;> (try split) <;> (try split) <;> (try split) <;> omega
            omega
          have c1 := cN 1 (by omega)
          obtain ⟨mk, hmk⟩ : ∃ mk, mk = many (k0 : Int) := ⟨_, rfl⟩
          have HM := Lib.hid hm
          have HK0 := Lib.hid hk0
          rw [← hmk] at hm hmr cC
          obtain ⟨nl, hnl⟩ : ∃ nl, nl = ns.length := ⟨_, rfl⟩
          rw [← hnl] at hm hl3 hl2 hcap
          have HPA := Lib.hid hpa
          have HCN := Lib.hid cN
          have HOWN := Lib.hid hown
          have HBR := Lib.hid hbr
          have HND := Lib.hid hnd
          have HNLE := Lib.hid hnl
          have H64 := Lib.hid hns64
          rw [← hnl]
          have HFN : Hid (∀ wq, Below wr.heap.size wr wq → wq.heap[w.heap.size]? = some (.cells #[.int .i64 0, .int .u64 0, .int .i64 0, .int .i64 0, .int .i64 0] 44 (0, 0)) ∧ (∀ j, j < ns.length → wq.cell? ⟨g, j, none⟩ = some (.int .u64 (ns.getD j 0 : Nat))) ∧ Below w.heap.size w wq) := Lib.hid (fun wq h => by
            refine ⟨(h.block _ (by omega)).trans hnd, fun j hj => (h.cell (p := ⟨g, j, none⟩) hg).trans (cN j hj), HWR.out.trans (h.mono HWR.out.size)⟩)
          have HRF : Hid (∀ wq, Below wr.heap.size wr wq → ∀ x : Nat, x < refs.length → ∃ gr, rp = some ⟨gr, 0, none⟩ ∧ wq.cell? ⟨gr, x, none⟩ = some (.int .i64 (refs.getD x 0))) := Lib.hid (fun wq h x hx => by
            have hq := row_below HO.out (HWR.out.trans (h.mono HWR.out.size))
            obtain ⟨gr, rfl⟩ : ∃ gr, rp = some ⟨gr, 0, none⟩ := by
              rcases hq.2 with ⟨h1, h2⟩ | ⟨gr, _, _, h1, _⟩
              · omega
              · exact ⟨gr, by injection h1⟩
            refine ⟨gr, rfl, ?_⟩
            rw [hq.cellAt x (by omega)]
            simp [List.getD, List.getElem?_eq_getElem hx])
          have HB0 : Hid (Below wr.heap.size wr (wr.alloc (.cells #[.int .i64 0, .int .i64 0, .int .i64 0] 106))) := Lib.hid ((Below.refl _ _).alloc (Nat.le_refl _) _)
          have HF0 := Lib.hid (heap_alloc_new wr (.cells #[.int .i64 0, .int .i64 0, .int .i64 0] 106))
          clear hpa hns hns64 cN hEr hown hbr hk0 hnd hmk hnl hlen
          go_wp2_with fail
          all_goals
            obtain ⟨fb, hfb⟩ : ∃ fb, fb = wr.heap.size := ⟨_, rfl⟩
            rw [← hfb]
            rw [← hfb] at HFN HRF HB0 HF0
            have hfw : w.heap.size < fb := by omega
            have hfg : g ≠ fb := by omega
            have HFB := Lib.hid hfb
            clear hfb n0 n1 n2 n3 n4 f0 f1 f2 f3 f4 c0 c1 cC HWR HBR HOWN HND hg hsz hcp0
            go_loopg [12, 13, 53] (nl - 2) (fun q _ _ u53 wq => ∃ j : Nat, j + q = nl - 2 ∧ u53 = .int .i64 j ∧ wq.heap[fb]? = some (.cells #[.int .i64 (fzJ refs ns 0 j), .int .i64 (fzJ refs ns 1 j), .int .i64 (fzJ refs ns 2 j)] 106 (0, 0)) ∧ Below fb wr wq ∧ ∀ i, i < j → ns.getD (2 + i) 0 < refs.length)
            case atStart => exact ⟨0, by omega, rfl, by simpa [fzJ] using HF0.out, HB0.out, fun i hi => by omega⟩
            case round =>
              obtain ⟨j, hjq, rfl, hfq, hbq, hix⟩ := hrel
              obtain ⟨hnq, hcq, hwq⟩ := HFN.out _ hbq
              have hlf := lt_of_heap hfq
              by_cases hj : j < nl - 2
              · first
                | (exfalso; omega)
                | (obtain ⟨x, hx⟩ : ∃ x, x = ns.getD (2 + j) 0 := ⟨_, rfl⟩
                   have cXs := hcq (2 + j) (by have := HNLE.out; omega)
                   rw [← hx] at cXs
                   have hx64 : x < 18446744073709551616 := by
                     rw [hx, List.getD_eq_getElem?_getD, List.getElem?_eq_getElem (show 2 + j < ns.length by have := HNLE.out; omega)]
                     exact H64.out _ (List.getElem_mem _)
                   have HWQ := Lib.hid hwq
                   have hgl : g < wr.heap.size := World.block_lt_of_cell? wr ⟨g, 2 + j, none⟩ cXs
                   have hnl' := lt_of_heap hnq
                   by_cases hxr : x < refs.length
                   · obtain ⟨gr, hgr, cR⟩ := HRF.out _ hbq x hxr
                     subst hgr
                     have hgr := World.block_lt_of_cell? wr ⟨gr, x, none⟩ cR
                     clear hnq hcq hwq
                     rcases (show j = 0 ∨ j = 1 ∨ j = 2 by omega) with rfl | rfl | rfl
                     · have cX : wr.cell? ⟨g, 2, none⟩ = some (.int .u64 (x : Int)) := cXs
                       have cF : wr.cell? ⟨fb, 0, none⟩ = some (.int .i64 (fzJ refs ns 0 0)) := (cell_of_row wr _ 0 _ _ _ hfq).trans rfl
                       have fF : wr.frozen? ⟨fb, 0, none⟩ = false := frozen_of_row _ _ _ _ _ hfq
                       have HNX : Hid ((wr.setCell ⟨fb, 0, none⟩ (.int .i64 (refs.getD x 0))).heap[fb]? = some (.cells #[.int .i64 (fzJ refs ns 0 1), .int .i64 (fzJ refs ns 1 1), .int .i64 (fzJ refs ns 2 1)] 106 (0, 0))) := Lib.hid (by
                         rw [heap_setCell_same _ _ _ _ _ _ hfq, hx]
                         simp [fzJ])
                       have HBX : Hid (Below fb _ (wr.setCell ⟨fb, 0, none⟩ (.int .i64 (refs.getD x 0)))) := Lib.hid (hbq.setCell (Nat.le_refl _) _)
                       have HIX : Hid (∀ i, i < 0 + 1 → ns.getD (2 + i) 0 < refs.length) := Lib.hid (fun i hi => by
                         rcases Nat.lt_or_ge i 0 with h1 | h1
                         · exact hix i h1
                         · obtain rfl : i = 0 := by omega
                           rw [← hx]; exact hxr)
                       clear hfq hbq hix hx cXs
                       obtain ⟨y, hy⟩ : ∃ y, y = refs.getD x 0 := ⟨_, rfl⟩
                       rw [← hy] at cR HNX HBX
                       clear hy
                       go_wp2_with fail
                       go_roundg (nl - 2 - (0 + 1))
                       case rel => exact ⟨0 + 1, by omega, by simp, HNX.out, HBX.out, HIX.out⟩
                       case measure => omega
                     · have cX : wr.cell? ⟨g, 3, none⟩ = some (.int .u64 (x : Int)) := cXs
                       have cF : wr.cell? ⟨fb, 1, none⟩ = some (.int .i64 (fzJ refs ns 1 1)) := (cell_of_row wr _ 1 _ _ _ hfq).trans rfl
                       have fF : wr.frozen? ⟨fb, 1, none⟩ = false := frozen_of_row _ _ _ _ _ hfq
                       have HNX : Hid ((wr.setCell ⟨fb, 1, none⟩ (.int .i64 (refs.getD x 0))).heap[fb]? = some (.cells #[.int .i64 (fzJ refs ns 0 2), .int .i64 (fzJ refs ns 1 2), .int .i64 (fzJ refs ns 2 2)] 106 (0, 0))) := Lib.hid (by
                         rw [heap_setCell_same _ _ _ _ _ _ hfq, hx]
                         simp [fzJ])
                       have HBX : Hid (Below fb _ (wr.setCell ⟨fb, 1, none⟩ (.int .i64 (refs.getD x 0)))) := Lib.hid (hbq.setCell (Nat.le_refl _) _)
                       have HIX : Hid (∀ i, i < 1 + 1 → ns.getD (2 + i) 0 < refs.length) := Lib.hid (fun i hi => by
                         rcases Nat.lt_or_ge i 1 with h1 | h1
                         · exact hix i h1
                         · obtain rfl : i = 1 := by omega
                           rw [← hx]; exact hxr)
                       clear hfq hbq hix hx cXs
                       obtain ⟨y, hy⟩ : ∃ y, y = refs.getD x 0 := ⟨_, rfl⟩
                       rw [← hy] at cR HNX HBX
                       clear hy
                       go_wp2_with fail
                       go_roundg (nl - 2 - (1 + 1))
                       case rel => exact ⟨1 + 1, by omega, by simp, HNX.out, HBX.out, HIX.out⟩
                       case measure => omega
                     · have cX : wr.cell? ⟨g, 4, none⟩ = some (.int .u64 (x : Int)) := cXs
                       have cF : wr.cell? ⟨fb, 2, none⟩ = some (.int .i64 (fzJ refs ns 2 2)) := (cell_of_row wr _ 2 _ _ _ hfq).trans rfl
                       have fF : wr.frozen? ⟨fb, 2, none⟩ = false := frozen_of_row _ _ _ _ _ hfq
                       have HNX : Hid ((wr.setCell ⟨fb, 2, none⟩ (.int .i64 (refs.getD x 0))).heap[fb]? = some (.cells #[.int .i64 (fzJ refs ns 0 3), .int .i64 (fzJ refs ns 1 3), .int .i64 (fzJ refs ns 2 3)] 106 (0, 0))) := Lib.hid (by
                         rw [heap_setCell_same _ _ _ _ _ _ hfq, hx]
                         simp [fzJ])
                       have HBX : Hid (Below fb _ (wr.setCell ⟨fb, 2, none⟩ (.int .i64 (refs.getD x 0)))) := Lib.hid (hbq.setCell (Nat.le_refl _) _)
                       have HIX : Hid (∀ i, i < 2 + 1 → ns.getD (2 + i) 0 < refs.length) := Lib.hid (fun i hi => by
                         rcases Nat.lt_or_ge i 2 with h1 | h1
                         · exact hix i h1
                         · obtain rfl : i = 2 := by omega
                           rw [← hx]; exact hxr)
                       clear hfq hbq hix hx cXs
                       obtain ⟨y, hy⟩ : ∃ y, y = refs.getD x 0 := ⟨_, rfl⟩
                       rw [← hy] at cR HNX HBX
                       clear hy
                       go_wp2_with fail
                       go_roundg (nl - 2 - (2 + 1))
                       case rel => exact ⟨2 + 1, by omega, by simp, HNX.out, HBX.out, HIX.out⟩
                       case measure => omega
                   · have HRES : Hid (rowV ((pall (spl 32 s.data.toList)).bind (prow refs)) = .tuple #[.agg #[.int .i64 0, .int .u64 0, .int .i64 0, .int .i64 0, .int .i64 0], .bool false]) := Lib.hid (by
                       rw [HPA.out]; simp only [Option.bind_some]; rw [prow_idx (j := j) (by have := HNLE.out; omega) (by omega)]; rfl)
                     obtain ⟨n0, n1, n2, n3, n4, f0, f1, f2, f3, f4⟩ := node_facts hnq
                     clear hnq hcq hwq hfq hbq hix hx
                     rcases (show j = 0 ∨ j = 1 ∨ j = 2 by omega) with rfl | rfl | rfl
                     all_goals
                       simp only [Nat.reduceAdd] at cXs
                       go_wp2_with fail
                       refine bodyPost_ret (v := .tuple #[.agg #[.int .i64 0, .int .u64 0, .int .i64 0, .int .i64 0, .int .i64 0], .bool false]) (by simp [results, Tryz.results33, go_sem, n0, n1, n2, n3, n4]) rfl ⟨by rw [HRES.out], ?_⟩
                       exact ((((HWQ.out.setCell (Nat.le_refl _) _).setCell (Nat.le_refl _) _).setCell (Nat.le_refl _) _).setCell (Nat.le_refl _) _).setCell (Nat.le_refl _) _)
              · have hjn : j = nl - 2 := by omega
                have hnl := HNLE.out
                have HRES : Hid (rowV ((pall (spl 32 s.data.toList)).bind (prow refs)) = .tuple #[.agg #[.int .i64 (k0 : Int), .int .u64 (ns.getD 1 0 : Nat), .int .i64 (fzJ refs ns 0 j), .int .i64 (fzJ refs ns 1 j), .int .i64 (fzJ refs ns 2 j)], .bool true]) := Lib.hid (by
                  have e : ∀ i, fzJ refs ns i j = ptJ refs ns i := fun i => by
                    unfold fzJ ptJ
                    by_cases h : i < j
                    · rw [if_pos h, if_pos (by omega)]
                    · rw [if_neg h, if_neg (by omega)]
                  rw [HPA.out]; simp only [Option.bind_some]
                  rw [prow_ok (by rw [← HK0.out]; exact hk) (by rw [← HK0.out]; exact HM.out) (fun i hi => hix i (by omega)), e, e, e, ← HK0.out]
                  rfl)
                have c0 := hcq 0 (by omega)
                have c1 := hcq 1 (by omega)
                rw [← HK0.out] at c0
                have hn64 : ns.getD 1 0 < 18446744073709551616 := by
                  rw [List.getD_eq_getElem?_getD, List.getElem?_eq_getElem (show 1 < ns.length by omega)]
                  exact H64.out _ (List.getElem_mem _)
                obtain ⟨n1v, hn1⟩ : ∃ v, v = ns.getD 1 0 := ⟨_, rfl⟩
                rw [← hn1] at c1 HRES hn64
                obtain ⟨n0, n1, n2, n3, n4, f0, f1, f2, f3, f4⟩ := node_facts hnq
                have x0 : wr.cell? ⟨fb, 0, none⟩ = some (.int .i64 (fzJ refs ns 0 j)) := (cell_of_row wr _ 0 _ _ _ hfq).trans rfl
                have x1 : wr.cell? ⟨fb, 1, none⟩ = some (.int .i64 (fzJ refs ns 1 j)) := (cell_of_row wr _ 1 _ _ _ hfq).trans rfl
                have x2 : wr.cell? ⟨fb, 2, none⟩ = some (.int .i64 (fzJ refs ns 2 j)) := (cell_of_row wr _ 2 _ _ _ hfq).trans rfl
                obtain ⟨y0, hy0⟩ : ∃ y, y = fzJ refs ns 0 j := ⟨_, rfl⟩
                obtain ⟨y1, hy1⟩ : ∃ y, y = fzJ refs ns 1 j := ⟨_, rfl⟩
                obtain ⟨y2, hy2⟩ : ∃ y, y = fzJ refs ns 2 j := ⟨_, rfl⟩
                rw [← hy0, ← hy1, ← hy2] at HRES
                rw [← hy0] at x0
                rw [← hy1] at x1
                rw [← hy2] at x2
                have HWQ := Lib.hid hwq
                clear hnq hcq hwq hfq hbq hix hnl hy0 hy1 hy2 hn1
                go_wp2_with fail
                go_region
                go_wp2_with fail
                refine bodyPost_ret (v := .tuple #[.agg #[.int .i64 (k0 : Int), .int .u64 (n1v : Int), .int .i64 y0, .int .i64 y1, .int .i64 y2], .bool true]) (by simp [results, Tryz.results33, go_sem, n0, n1, n2, n3, n4]) rfl ⟨by rw [HRES.out], ?_⟩
                exact (((((HWQ.out.setCell (Nat.le_refl _) _).setCell (Nat.le_refl _) _).setCell (Nat.le_refl _) _).setCell (Nat.le_refl _) _).setCell (Nat.le_refl _) _).drew
        · have HRES : Hid (rowV ((pall (spl 32 s.data.toList)).bind (prow refs)) = .tuple #[.agg #[.int .i64 0, .int .u64 0, .int .i64 0, .int .i64 0, .int .i64 0], .bool false]) := Lib.hid (by
            rw [hpa]; simp only [Option.bind_some]; rw [prow_len (by rw [← hk0]; exact hm)]; rfl)
          obtain ⟨mk, hmk⟩ : ∃ mk, mk = many (k0 : Int) := ⟨_, rfl⟩
          rw [← hmk] at hm hmr cC
          obtain ⟨nl, hnl⟩ : ∃ nl, nl = ns.length := ⟨_, rfl⟩
          have hl0 : 0 < nl := by omega
          have hl9 : nl ≤ 65537 := by omega
          rw [← hnl] at hm hcap
          rw [← hnl]
          have hne : ((nl : Int) != 2 + mk) = true := by simpa using hm
          clear hpa hns hns64 cN hEr hown hbr hk0 hnd hmk hnl hlen
          go_wp2_with fail
          all_goals
            refine bodyPost_ret (v := .tuple #[.agg #[.int .i64 0, .int .u64 0, .int .i64 0, .int .i64 0, .int .i64 0], .bool false]) (by simp [results, Tryz.results33, go_sem, n0, n1, n2, n3, n4]) rfl ⟨by rw [HRES.out], ?_⟩
            exact ((((HWR.out.setCell (Nat.le_refl _) _).setCell (Nat.le_refl _) _).setCell (Nat.le_refl _) _).setCell (Nat.le_refl _) _).setCell (Nat.le_refl _) _
      · have HRES : Hid (rowV ((pall (spl 32 s.data.toList)).bind (prow refs)) = .tuple #[.agg #[.int .i64 0, .int .u64 0, .int .i64 0, .int .i64 0, .int .i64 0], .bool false]) := Lib.hid (by
          rw [hpa]; simp only [Option.bind_some]; rw [prow_big (by omega)]; rfl)
        have hk' : (10 : Int) ≤ k0 := by omega
        clear hpa hns hns64 cN hEr hown hbr hk0 hnd
        go_wp2_with fail
        refine bodyPost_ret (v := .tuple #[.agg #[.int .i64 0, .int .u64 0, .int .i64 0, .int .i64 0, .int .i64 0], .bool false]) (by simp [results, Tryz.results33, go_sem, n0, n1, n2, n3, n4]) rfl ⟨by rw [HRES.out], ?_⟩
        exact ((((HWR.out.setCell (Nat.le_refl _) _).setCell (Nat.le_refl _) _).setCell (Nat.le_refl _) _).setCell (Nat.le_refl _) _).setCell (Nat.le_refl _) _
end Go.Proofs.YtmnmjekpndeemaaGreatDoor
