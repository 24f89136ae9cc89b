/- The walk of KnowNothing: who knows nothing can make what is made of Empty, Words, and the attacker's names, and nothing else. -/
import Derived.Test.YtemigefkkjgehaaDoorLf
import Derived.Test.YtemigefkkjgehaaDoorEm
import Derived.Test.YtemigefkkjgehaaDoorYk
import Derived.Test.YtemigefkkjgehaaDoorLn
namespace Go.Proofs.YtemigefkkjgehaaDoor
open Go.RowKit Go.Maps

set_option maxRecDepth 100000 in
set_option maxHeartbeats 1000000 in
theorem nothing_long (s : Option Addr) (n c : Nat) (hn : 30 < n) (w : World) (hs : Shp w) : Calls Tryd.prog 5 #[.slice s n c] w fun e w' => e = .returned (.bool true) ∧ Below w.heap.size w w' := by
  have HA := Lib.hid (awake_any w hs)
  have hn' : (30 : Int) < n := by omega
  clear hs hn
  go_enter Tryd.func5, Tryd.ntmps5
  go_wp2_with (go_at_call 13; refine HA.out.mono ?_; rintro e w2 ⟨rfl, hb2⟩)
  go_ret
  exact ⟨rfl, hb2⟩

set_option maxRecDepth 100000 in
set_option maxHeartbeats 8000000 in
theorem nothing_good (s : Option Addr) (c : Nat) (ns : List Nd) (hn : ns.length ≤ 30) (w : World) (hs : Shp w) (hB : BuiltAt w (.slice s ns.length c) ns) : Calls Tryd.prog 5 #[.slice s ns.length c] w fun e w' => e = .returned (.bool true) ∧ Below w.heap.size w w' := by
  have hn' : ¬ (30 : Int) < ns.length := by omega
  have HLD := Lib.hid (learned_any canF s none c 0 ns [] (by decide) w hB (fun h => absurd h (Nat.lt_irrefl 0)) w (Below.refl _ _))
  have HAw := Lib.hid (fun w1 (h : Below w.heap.size w w1) => awake_any w1 (hs.below h))
  obtain ⟨L, hLe⟩ : ∃ L, L = bld 100 ns := ⟨_, rfl⟩
  rw [← hLe] at HLD
  clear hs hB hLe
  go_enter Tryd.func5, Tryd.ntmps5
  go_wp2_with fail
  go_at_call 14
  refine HLD.out.mono ?_
  rintro e w2 ⟨bk, b, g, bm, cap, gr, capr, mk, hv, K, gn, co, rfl, hKx, hag, hrow, -, -, hKl⟩
  have hL100 : L.length ≤ 100 := hKx.kn.ar.len
  have HWF := Lib.hid hKx.kn.ar.wf
  obtain ⟨kf, hkf⟩ : ∃ kf, kf = List.replicate L.length false := ⟨_, rfl⟩
  have HKF : Hid (∀ j, kf.getD j false = false) := Lib.hid (fun j => by
    rw [hkf, List.getD_eq_getElem?_getD, List.getElem?_replicate]
    split <;> rfl)
  have HKN : Hid (∀ y, K y = false) := Lib.hid (fun y => by
    rw [Bool.eq_false_iff]
    exact fun h => lrn_nil L y ((hKl y).1 h))
  obtain ⟨i0, hi0, hz0, hz1, hz2⟩ := info_parts Tryd.infoB
  have HST : Hid (Nl w ((w2.alloc (.cells #[.int .i64 100, .slice (some ⟨gr, 0, none⟩) L.length capr] 29)).alloc (.cells (madeCells #[.bool false] L.length) 4)) (w2.heap.size + 1) w2.heap.size gr capr (w2.heap.size + 1) bk b g bm cap L mk hv K (rfull L kf 0)) := Lib.hid (by
    have hb1 : Below w2.heap.size w2 (w2.alloc (.cells #[.int .i64 100, .slice (some ⟨gr, 0, none⟩) L.length capr] 29)) := (Below.refl _ _).alloc (Nat.le_refl _) _
    have hb : Below w2.heap.size w2 ((w2.alloc (.cells #[.int .i64 100, .slice (some ⟨gr, 0, none⟩) L.length capr] 29)).alloc (.cells (madeCells #[.bool false] L.length) 4)) := hb1.alloc (by simp) _
    have k := hKx.kn
    have l1 := lt_of_heap k.box
    have l2 := k.kn.lt
    have l3 := fun j e => (k.own.lt j e).2
    have l4 := k.ar.blt
    have l5 := k.ar.glt
    have l6 := k.ar.mlt
    have l7 := hag.lt
    have l8 := hKx.st.bel.size
    have hs1 := hb.size
    have hsz : ((w2.alloc (.cells #[.int .i64 100, .slice (some ⟨gr, 0, none⟩) L.length capr] 29)).alloc (.cells (madeCells #[.bool false] L.length) 4)).heap.size = w2.heap.size + 2 := by simp
    have hbx : ((w2.alloc (.cells #[.int .i64 100, .slice (some ⟨gr, 0, none⟩) L.length capr] 29)).alloc (.cells (madeCells #[.bool false] L.length) 4)).heap[w2.heap.size]? = some (.cells #[.int .i64 100, .slice (some ⟨gr, 0, none⟩) L.length capr] 29 (0, 0)) := by
      rw [Below.heap_alloc _ _ _ (by simp)]; exact heap_alloc_new _ _
    refine ⟨hKx.keep hb, ?_, hrow.keep (hb.block _ hag.lt), hbx, (hag.keep hb).1, ⟨by omega, by omega, by omega, fun e => by have := l3 _ e; omega⟩, ⟨by omega, by omega, by omega, fun e => by have := l3 _ e; omega⟩, ⟨by omega, by omega, by omega, by omega, by omega, by omega, by omega, fun j e => by have := l3 j e; omega⟩, by omega, by omega⟩
    have := heap_alloc_new (w2.alloc (.cells #[.int .i64 100, .slice (some ⟨gr, 0, none⟩) L.length capr] 29)) (.cells (madeCells #[.bool false] L.length) 4)
    rw [World.size_alloc, made_bools] at this
    rw [made_bools, rfull_zero]; exact this)
  clear hKx hag hrow hKl HLD hkf
  go_wp2_with (first
    | (at_make; refine wpList_make_row _ rfl _ _ 30 rfl 4 i0 (.bool false) Tryd.underlying30 hi0 hz0 hz1 rfl _ _ L.length rfl rfl (by rw [hz2]; omega) (by omega) ?_))
  generalize ((w2.alloc (.cells #[.int .i64 100, .slice (some ⟨gr, 0, none⟩) L.length capr] 29)).alloc (.cells (madeCells #[.bool false] L.length) 4)) = W0 at *
  generalize hgo : w2.heap.size + 1 = go at *
  obtain ⟨S, hS⟩ : ∃ S, S = go := ⟨_, rfl⟩
  generalize w2.heap.size = pb at *
  have HST' : Hid (Nl w W0 S pb gr capr go bk b g bm cap L mk hv K (rfull L kf 0)) := Lib.hid (by rw [hS]; exact HST.out)
  clear HST hgo hS
  go_loopg [8, 9, 30] L.length (fun q _ _ u30 wq => ∃ k : Nat, k + q = L.length ∧ u30 = .int .i64 k ∧ Aside (Nl w wq S pb gr capr go bk b g bm cap L mk hv K (rfull L kf k)))
  case atStart => exact ⟨0, by omega, rfl, HST'.out⟩
  case round =>
    obtain ⟨k, hkq, rfl, hcl⟩ := hrel
    have HCL := Lib.hid hcl.out
    clear hcl HST'
    by_cases hlt : k < L.length
    · have hlt' : (k : Int) < L.length := by omega
      have hhas : hasB L.length (k : Int) = true := hasB_iff.2 ⟨by omega, by omega⟩
      obtain ⟨ri0, ri1, ri2, ri3, ri4⟩ := HCL.out.row k hlt
      obtain ⟨pa, pb', pc⟩ := nd_has HWF.out hhas
      obtain ⟨gk1, _, _⟩ := nd_good HWF.out hhas
      rw [show nd L (k : Int) = L.getD k zN from rfl] at pa pb' pc gk1
      have HNC := Lib.hid (nst_can HWF.out HKF.out HKN.out hlt)
      have lg : gr < wr.heap.size := HCL.out.ag.lt
      have lo : go < wr.heap.size := HCL.out.ao.lt
      have hoa := HCL.out.br.at_
      rw [show boolsAt wr go (rfull L kf k) = ∀ m, m < (rfull L kf k).length → wr.cell? ⟨go, m, none⟩ = some (.bool ((rfull L kf k).getD m false)) from rfl, rfull_len (by omega)] at hoa
      have hof : wr.frozen? ⟨go, k, none⟩ = false := HCL.out.br.froz
      have hoc := hoa k hlt
      obtain ⟨out, hout⟩ : ∃ out, out = rfull L kf k := ⟨_, rfl⟩
      obtain ⟨d, hd⟩ : ∃ d, d = L.getD k zN := ⟨_, rfl⟩
      have HCA : Hid (∀ (v : Bool) (wq : World), v = nst out d → Below (wr.setCell ⟨go, k, none⟩ (.bool v)).heap.size (wr.setCell ⟨go, k, none⟩ (.bool v)) wq → Calls Tryd.prog 21 #[.pointer (some ⟨bk, 0, none⟩), .int .i64 (k : Int)] wq fun e w' => e = .returned (.bool v) ∧ Nl w w' S pb gr capr go bk b g bm cap L mk hv K (rfull L kf (k + 1)) ∧ w'.cell? ⟨go, k, none⟩ = some (.bool v)) := Lib.hid (fun v wq hv hb => by
        have h1 := HCL.out.set k v
        rw [hv, hd, hout, ← rstep_nil HKF.out, rfull_succ hlt, rstep_nil HKF.out, ← hout, ← hd, ← hv] at h1
        have h2 := h1.keep hb
        refine (can_any HWF.out h2.kx.kn (k : Int) hhas).mono ?_
        rintro e w' ⟨y, rfl, hy, hN, hP⟩
        have e1 : y = v := by rw [Bool.eq_iff_iff, hv, hd, hout]; exact hy.trans HNC.out.symm
        have h3 := h2.can hN hP
        refine ⟨by rw [e1], h3, ?_⟩
        have h4 := h3.br.at_ k (by rw [rfull_len (by omega)]; exact hlt)
        rw [h4]
        have h5 : (rfull L kf (k + 1)).getD k false = v := by
          rw [← rfull_succ hlt, rstep_nil HKF.out, ← hout, ← hd, ← hv, List.getD_eq_getElem?_getD, List.getElem?_set_self (by rw [hout, rfull_len (by omega)]; exact hlt)]; rfl
        rw [h5])
      have hci : ∀ (v : Bool) (o : Obj), ((wr.setCell ⟨go, k, none⟩ (.bool v)).alloc o).cell? ⟨go, k, none⟩ = some (.bool v) := fun v o => by
        rw [Below.cell ((Below.refl _ _).alloc (Nat.le_refl _) _) (p := ⟨go, k, none⟩) (by simpa using lo)]
        exact (HCL.out.br.set v).at_ k (by rw [List.length_set, rfull_len (by omega)]; exact hlt) |>.trans (by rw [List.getD_eq_getElem?_getD, List.getElem?_set_self (by rw [rfull_len (by omega)]; exact hlt)]; rfl)
      rw [← hout] at hoa hoc
      rw [← hd] at ri0 ri1 ri2 ri3 ri4 pa pb' pc gk1
      obtain ⟨kk, hkk, hk10⟩ : ∃ kk : Nat, d.k = kk ∧ kk < 10 := kindNat gk1
      obtain ⟨ja, hja⟩ : ∃ ja : Nat, d.a = ja := ⟨d.a.toNat, by have := hasB_iff.1 pa; omega⟩
      obtain ⟨jb, hjb⟩ : ∃ jb : Nat, d.b = jb := ⟨d.b.toNat, by have := hasB_iff.1 pb'; omega⟩
      obtain ⟨jc, hjc⟩ : ∃ jc : Nat, d.c = jc := ⟨d.c.toNat, by have := hasB_iff.1 pc; omega⟩
      have hla : ja < L.length := by have := hasB_iff.1 pa; omega
      have hlb : jb < L.length := by have := hasB_iff.1 pb'; omega
      have hlc : jc < L.length := by have := hasB_iff.1 pc; omega
      have ca := hoa ja hla
      have cb := hoa jb hlb
      have cc := hoa jc hlc
      have la' : (ja : Int) < L.length := by omega
      have lb' : (jb : Int) < L.length := by omega
      have lc' : (jc : Int) < L.length := by omega
      obtain ⟨nn, hnn⟩ : ∃ nn, nn = d.n := ⟨_, rfl⟩
      obtain ⟨ba, hba⟩ : ∃ ba, ba = out.getD ja false := ⟨_, rfl⟩
      obtain ⟨bb, hbb⟩ : ∃ bb, bb = out.getD jb false := ⟨_, rfl⟩
      obtain ⟨bc, hbc⟩ : ∃ bc, bc = out.getD jc false := ⟨_, rfl⟩
      have HV : Hid (nst out d = if (kk : Int) = 0 ∨ (kk : Int) = 9 then true else if (kk : Int) = 1 then decide (4294967296 ≤ nn) else if (kk : Int) = 2 then ba else if (kk : Int) = 7 then ba && bb && bc else ba && bb) := Lib.hid (by
        unfold nst
        rw [hkk, hja, hjb, hjc, hba, hbb, hbc, hnn]
        rfl)
      rw [hkk] at ri0
      rw [← hnn] at ri1
      rw [hja] at ri2
      rw [hjb] at ri3
      rw [hjc] at ri4
      rw [← hba] at ca
      rw [← hbb] at cb
      rw [← hbc] at cc
      clear hd hja hjb hjc pa pb' pc gk1 hkk hoa hout hhas hnn hba hbb hbc HNC
      match kk, hk10 with
      | 0, _ =>
        as_aux_lemma =>
          go_wp2_with fail
          go_region_held3 (fun w' => w'.cell? ⟨go, k, none⟩ = some (.bool true)) (first | exact hci _ _ | go_keep)
            (first | (go_at_call 21; refine (HCA.out true _ (by rw [HV.out]; simp) ((Below.refl _ _).alloc (Nat.le_refl _) _).drew).mono ?_; rintro e w4 ⟨rfl, hN4, hc4⟩))
          go_wp2_with fail
          go_roundg (L.length - (k + 1))
          case rel => exact ⟨k + 1, by omega, by go_num, (show Aside _ from hN4)⟩
          case measure => omega
      | 1, _ =>
        by_cases hn : 4294967296 ≤ nn
        · skip
          as_aux_lemma =>
            go_wp2_with fail
            go_region_held3 (fun w' => w'.cell? ⟨go, k, none⟩ = some (.bool true)) (first | exact hci _ _ | go_keep)
              (first | (go_at_call 21; refine (HCA.out true _ (by rw [HV.out]; simp [hn]) ((Below.refl _ _).alloc (Nat.le_refl _) _).drew).mono ?_; rintro e w4 ⟨rfl, hN4, hc4⟩))
            go_wp2_with fail
            go_roundg (L.length - (k + 1))
            case rel => exact ⟨k + 1, by omega, by go_num, (show Aside _ from hN4)⟩
            case measure => omega
        · have hn' : nn < 4294967296 := by omega
          as_aux_lemma =>
            go_wp2_with fail
            go_region_held3 (fun w' => w'.cell? ⟨go, k, none⟩ = some (.bool false)) (first | exact hci _ _ | go_keep)
              (first | (go_at_call 21; refine (HCA.out false _ (by rw [HV.out]; simp; omega) ((Below.refl _ _).alloc (Nat.le_refl _) _).drew).mono ?_; rintro e w4 ⟨rfl, hN4, hc4⟩))
            go_wp2_with fail
            go_roundg (L.length - (k + 1))
            case rel => exact ⟨k + 1, by omega, by go_num, (show Aside _ from hN4)⟩
            case measure => omega
      | 2, _ =>
        cases ba with
        | true =>
          as_aux_lemma =>
            go_wp2_with fail
            go_region_held3 (fun w' => w'.cell? ⟨go, k, none⟩ = some (.bool true)) (first | exact hci _ _ | go_keep)
              (first | (go_at_call 21; refine (HCA.out true _ (by rw [HV.out]; simp) ((Below.refl _ _).alloc (Nat.le_refl _) _).drew).mono ?_; rintro e w4 ⟨rfl, hN4, hc4⟩))
            go_wp2_with fail
            go_roundg (L.length - (k + 1))
            case rel => exact ⟨k + 1, by omega, by go_num, (show Aside _ from hN4)⟩
            case measure => omega
        | false =>
          as_aux_lemma =>
            go_wp2_with fail
            go_region_held3 (fun w' => w'.cell? ⟨go, k, none⟩ = some (.bool false)) (first | exact hci _ _ | go_keep)
              (first | (go_at_call 21; refine (HCA.out false _ (by rw [HV.out]; simp) ((Below.refl _ _).alloc (Nat.le_refl _) _).drew).mono ?_; rintro e w4 ⟨rfl, hN4, hc4⟩))
            go_wp2_with fail
            go_roundg (L.length - (k + 1))
            case rel => exact ⟨k + 1, by omega, by go_num, (show Aside _ from hN4)⟩
            case measure => omega
      | 3, _ =>
        cases ba with
        | true =>
          cases bb with
          | true =>
            as_aux_lemma =>
              go_wp2_with fail
              go_region_held3 (fun w' => w'.cell? ⟨go, k, none⟩ = some (.bool true)) (first | exact hci _ _ | go_keep)
                (first | (go_at_call 21; refine (HCA.out true _ (by rw [HV.out]; simp) ((Below.refl _ _).alloc (Nat.le_refl _) _).drew).mono ?_; rintro e w4 ⟨rfl, hN4, hc4⟩))
              go_wp2_with fail
              go_roundg (L.length - (k + 1))
              case rel => exact ⟨k + 1, by omega, by go_num, (show Aside _ from hN4)⟩
              case measure => omega
          | false =>
            as_aux_lemma =>
              go_wp2_with fail
              go_region_held3 (fun w' => w'.cell? ⟨go, k, none⟩ = some (.bool false)) (first | exact hci _ _ | go_keep)
                (first | (go_at_call 21; refine (HCA.out false _ (by rw [HV.out]; simp) ((Below.refl _ _).alloc (Nat.le_refl _) _).drew).mono ?_; rintro e w4 ⟨rfl, hN4, hc4⟩))
              go_wp2_with fail
              go_roundg (L.length - (k + 1))
              case rel => exact ⟨k + 1, by omega, by go_num, (show Aside _ from hN4)⟩
              case measure => omega
        | false =>
          as_aux_lemma =>
            go_wp2_with fail
            go_region_held3 (fun w' => w'.cell? ⟨go, k, none⟩ = some (.bool false)) (first | exact hci _ _ | go_keep)
              (first | (go_at_call 21; refine (HCA.out false _ (by rw [HV.out]; simp) ((Below.refl _ _).alloc (Nat.le_refl _) _).drew).mono ?_; rintro e w4 ⟨rfl, hN4, hc4⟩))
            go_wp2_with fail
            go_roundg (L.length - (k + 1))
            case rel => exact ⟨k + 1, by omega, by go_num, (show Aside _ from hN4)⟩
            case measure => omega
      | 4, _ =>
        cases ba with
        | true =>
          cases bb with
          | true =>
            as_aux_lemma =>
              go_wp2_with fail
              go_region_held3 (fun w' => w'.cell? ⟨go, k, none⟩ = some (.bool true)) (first | exact hci _ _ | go_keep)
                (first | (go_at_call 21; refine (HCA.out true _ (by rw [HV.out]; simp) ((Below.refl _ _).alloc (Nat.le_refl _) _).drew).mono ?_; rintro e w4 ⟨rfl, hN4, hc4⟩))
              go_wp2_with fail
              go_roundg (L.length - (k + 1))
              case rel => exact ⟨k + 1, by omega, by go_num, (show Aside _ from hN4)⟩
              case measure => omega
          | false =>
            as_aux_lemma =>
              go_wp2_with fail
              go_region_held3 (fun w' => w'.cell? ⟨go, k, none⟩ = some (.bool false)) (first | exact hci _ _ | go_keep)
                (first | (go_at_call 21; refine (HCA.out false _ (by rw [HV.out]; simp) ((Below.refl _ _).alloc (Nat.le_refl _) _).drew).mono ?_; rintro e w4 ⟨rfl, hN4, hc4⟩))
              go_wp2_with fail
              go_roundg (L.length - (k + 1))
              case rel => exact ⟨k + 1, by omega, by go_num, (show Aside _ from hN4)⟩
              case measure => omega
        | false =>
          as_aux_lemma =>
            go_wp2_with fail
            go_region_held3 (fun w' => w'.cell? ⟨go, k, none⟩ = some (.bool false)) (first | exact hci _ _ | go_keep)
              (first | (go_at_call 21; refine (HCA.out false _ (by rw [HV.out]; simp) ((Below.refl _ _).alloc (Nat.le_refl _) _).drew).mono ?_; rintro e w4 ⟨rfl, hN4, hc4⟩))
            go_wp2_with fail
            go_roundg (L.length - (k + 1))
            case rel => exact ⟨k + 1, by omega, by go_num, (show Aside _ from hN4)⟩
            case measure => omega
      | 5, _ =>
        cases ba with
        | true =>
          cases bb with
          | true =>
            as_aux_lemma =>
              go_wp2_with fail
              go_region_held3 (fun w' => w'.cell? ⟨go, k, none⟩ = some (.bool true)) (first | exact hci _ _ | go_keep)
                (first | (go_at_call 21; refine (HCA.out true _ (by rw [HV.out]; simp) ((Below.refl _ _).alloc (Nat.le_refl _) _).drew).mono ?_; rintro e w4 ⟨rfl, hN4, hc4⟩))
              go_wp2_with fail
              go_roundg (L.length - (k + 1))
              case rel => exact ⟨k + 1, by omega, by go_num, (show Aside _ from hN4)⟩
              case measure => omega
          | false =>
            as_aux_lemma =>
              go_wp2_with fail
              go_region_held3 (fun w' => w'.cell? ⟨go, k, none⟩ = some (.bool false)) (first | exact hci _ _ | go_keep)
                (first | (go_at_call 21; refine (HCA.out false _ (by rw [HV.out]; simp) ((Below.refl _ _).alloc (Nat.le_refl _) _).drew).mono ?_; rintro e w4 ⟨rfl, hN4, hc4⟩))
              go_wp2_with fail
              go_roundg (L.length - (k + 1))
              case rel => exact ⟨k + 1, by omega, by go_num, (show Aside _ from hN4)⟩
              case measure => omega
        | false =>
          as_aux_lemma =>
            go_wp2_with fail
            go_region_held3 (fun w' => w'.cell? ⟨go, k, none⟩ = some (.bool false)) (first | exact hci _ _ | go_keep)
              (first | (go_at_call 21; refine (HCA.out false _ (by rw [HV.out]; simp) ((Below.refl _ _).alloc (Nat.le_refl _) _).drew).mono ?_; rintro e w4 ⟨rfl, hN4, hc4⟩))
            go_wp2_with fail
            go_roundg (L.length - (k + 1))
            case rel => exact ⟨k + 1, by omega, by go_num, (show Aside _ from hN4)⟩
            case measure => omega
      | 6, _ =>
        cases ba with
        | true =>
          cases bb with
          | true =>
            as_aux_lemma =>
              go_wp2_with fail
              go_region_held3 (fun w' => w'.cell? ⟨go, k, none⟩ = some (.bool true)) (first | exact hci _ _ | go_keep)
                (first | (go_at_call 21; refine (HCA.out true _ (by rw [HV.out]; simp) ((Below.refl _ _).alloc (Nat.le_refl _) _).drew).mono ?_; rintro e w4 ⟨rfl, hN4, hc4⟩))
              go_wp2_with fail
              go_roundg (L.length - (k + 1))
              case rel => exact ⟨k + 1, by omega, by go_num, (show Aside _ from hN4)⟩
              case measure => omega
          | false =>
            as_aux_lemma =>
              go_wp2_with fail
              go_region_held3 (fun w' => w'.cell? ⟨go, k, none⟩ = some (.bool false)) (first | exact hci _ _ | go_keep)
                (first | (go_at_call 21; refine (HCA.out false _ (by rw [HV.out]; simp) ((Below.refl _ _).alloc (Nat.le_refl _) _).drew).mono ?_; rintro e w4 ⟨rfl, hN4, hc4⟩))
              go_wp2_with fail
              go_roundg (L.length - (k + 1))
              case rel => exact ⟨k + 1, by omega, by go_num, (show Aside _ from hN4)⟩
              case measure => omega
        | false =>
          as_aux_lemma =>
            go_wp2_with fail
            go_region_held3 (fun w' => w'.cell? ⟨go, k, none⟩ = some (.bool false)) (first | exact hci _ _ | go_keep)
              (first | (go_at_call 21; refine (HCA.out false _ (by rw [HV.out]; simp) ((Below.refl _ _).alloc (Nat.le_refl _) _).drew).mono ?_; rintro e w4 ⟨rfl, hN4, hc4⟩))
            go_wp2_with fail
            go_roundg (L.length - (k + 1))
            case rel => exact ⟨k + 1, by omega, by go_num, (show Aside _ from hN4)⟩
            case measure => omega
      | 7, _ =>
        cases ba with
        | true =>
          cases bb with
          | true =>
            cases bc with
            | true =>
              as_aux_lemma =>
                go_wp2_with fail
                go_region_held3 (fun w' => w'.cell? ⟨go, k, none⟩ = some (.bool true)) (first | exact hci _ _ | go_keep)
                  (first | (go_at_call 21; refine (HCA.out true _ (by rw [HV.out]; simp) ((Below.refl _ _).alloc (Nat.le_refl _) _).drew).mono ?_; rintro e w4 ⟨rfl, hN4, hc4⟩))
                go_wp2_with fail
                go_roundg (L.length - (k + 1))
                case rel => exact ⟨k + 1, by omega, by go_num, (show Aside _ from hN4)⟩
                case measure => omega
            | false =>
              as_aux_lemma =>
                go_wp2_with fail
                go_region_held3 (fun w' => w'.cell? ⟨go, k, none⟩ = some (.bool false)) (first | exact hci _ _ | go_keep)
                  (first | (go_at_call 21; refine (HCA.out false _ (by rw [HV.out]; simp) ((Below.refl _ _).alloc (Nat.le_refl _) _).drew).mono ?_; rintro e w4 ⟨rfl, hN4, hc4⟩))
                go_wp2_with fail
                go_roundg (L.length - (k + 1))
                case rel => exact ⟨k + 1, by omega, by go_num, (show Aside _ from hN4)⟩
                case measure => omega
          | false =>
            as_aux_lemma =>
              go_wp2_with fail
              go_region_held3 (fun w' => w'.cell? ⟨go, k, none⟩ = some (.bool false)) (first | exact hci _ _ | go_keep)
                (first | (go_at_call 21; refine (HCA.out false _ (by rw [HV.out]; simp) ((Below.refl _ _).alloc (Nat.le_refl _) _).drew).mono ?_; rintro e w4 ⟨rfl, hN4, hc4⟩))
              go_wp2_with fail
              go_roundg (L.length - (k + 1))
              case rel => exact ⟨k + 1, by omega, by go_num, (show Aside _ from hN4)⟩
              case measure => omega
        | false =>
          as_aux_lemma =>
            go_wp2_with fail
            go_region_held3 (fun w' => w'.cell? ⟨go, k, none⟩ = some (.bool false)) (first | exact hci _ _ | go_keep)
              (first | (go_at_call 21; refine (HCA.out false _ (by rw [HV.out]; simp) ((Below.refl _ _).alloc (Nat.le_refl _) _).drew).mono ?_; rintro e w4 ⟨rfl, hN4, hc4⟩))
            go_wp2_with fail
            go_roundg (L.length - (k + 1))
            case rel => exact ⟨k + 1, by omega, by go_num, (show Aside _ from hN4)⟩
            case measure => omega
      | 8, _ =>
        cases ba with
        | true =>
          cases bb with
          | true =>
            as_aux_lemma =>
              go_wp2_with fail
              go_region_held3 (fun w' => w'.cell? ⟨go, k, none⟩ = some (.bool true)) (first | exact hci _ _ | go_keep)
                (first | (go_at_call 21; refine (HCA.out true _ (by rw [HV.out]; simp) ((Below.refl _ _).alloc (Nat.le_refl _) _).drew).mono ?_; rintro e w4 ⟨rfl, hN4, hc4⟩))
              go_wp2_with fail
              go_roundg (L.length - (k + 1))
              case rel => exact ⟨k + 1, by omega, by go_num, (show Aside _ from hN4)⟩
              case measure => omega
          | false =>
            as_aux_lemma =>
              go_wp2_with fail
              go_region_held3 (fun w' => w'.cell? ⟨go, k, none⟩ = some (.bool false)) (first | exact hci _ _ | go_keep)
                (first | (go_at_call 21; refine (HCA.out false _ (by rw [HV.out]; simp) ((Below.refl _ _).alloc (Nat.le_refl _) _).drew).mono ?_; rintro e w4 ⟨rfl, hN4, hc4⟩))
              go_wp2_with fail
              go_roundg (L.length - (k + 1))
              case rel => exact ⟨k + 1, by omega, by go_num, (show Aside _ from hN4)⟩
              case measure => omega
        | false =>
          as_aux_lemma =>
            go_wp2_with fail
            go_region_held3 (fun w' => w'.cell? ⟨go, k, none⟩ = some (.bool false)) (first | exact hci _ _ | go_keep)
              (first | (go_at_call 21; refine (HCA.out false _ (by rw [HV.out]; simp) ((Below.refl _ _).alloc (Nat.le_refl _) _).drew).mono ?_; rintro e w4 ⟨rfl, hN4, hc4⟩))
            go_wp2_with fail
            go_roundg (L.length - (k + 1))
            case rel => exact ⟨k + 1, by omega, by go_num, (show Aside _ from hN4)⟩
            case measure => omega
      | 9, _ =>
        as_aux_lemma =>
          go_wp2_with fail
          go_region_held3 (fun w' => w'.cell? ⟨go, k, none⟩ = some (.bool true)) (first | exact hci _ _ | go_keep)
            (first | (go_at_call 21; refine (HCA.out true _ (by rw [HV.out]; simp) ((Below.refl _ _).alloc (Nat.le_refl _) _).drew).mono ?_; rintro e w4 ⟨rfl, hN4, hc4⟩))
          go_wp2_with fail
          go_roundg (L.length - (k + 1))
          case rel => exact ⟨k + 1, by omega, by go_num, (show Aside _ from hN4)⟩
          case measure => omega
      | m + 10, h => exact absurd h (by omega)
    · obtain rfl : k = L.length := by omega
      have hlt' : ¬ ((L.length : Nat) : Int) < ((L.length : Nat) : Int) := by omega
      have HKD := Lib.hid (known_any HCL.out.kx.kn (by omega))
      unfold KdC at HKD
      go_wp2_with fail
      go_at_call 15
      refine HKD.out.mono ?_
      rintro e w5 ⟨v, ss, rfl, -, hsm, hsr, hb5⟩
      obtain rfl : ss = [] := List.eq_nil_iff_forall_not_mem.2 (fun x hx => by
        have := (hsm x).1 hx
        rw [HKN.out] at this; cases this)
      obtain ⟨sv, cv, rfl, -, -⟩ := own_sl hsr
      have HC5 := Lib.hid (HCL.out.keep hb5)
      have HHD := Lib.hid (heard_any HC5.out.kx.kn (by simp))
      unfold HdC at HHD
      clear hsm hsr hb5 HKD HCL
      go_wp2_with fail
      go_at_call 17
      refine HHD.out.mono ?_
      rintro e w6 ⟨sh, ch, rfl, -, -, hb6⟩
      have HC6 := Lib.hid (HC5.out.keep hb6)
      clear hb6 HHD HC5
      go_wp2_with fail
      go_at_call 13
      refine (HAw.out _ HC6.out.kx.st.bel).mono ?_
      rintro e w9 ⟨rfl, hb9⟩
      have HB9 := Lib.hid (HC6.out.kx.st.bel.trans (hb9.mono HC6.out.kx.st.bel.size))
      clear hb9
      go_wp2_with fail
      go_ret
      exact ⟨rfl, HB9.out⟩
end Go.Proofs.YtemigefkkjgehaaDoor
