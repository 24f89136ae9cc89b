/- The walk of the document's own answer for layer 2: a text is read (Read). -/
import Derived.Test.YtmnmjekpndeemaaGreatDoorUg
import Derived.Test.YtmnmjekpndeemaaGreatDoorTc
import Derived.Test.YtmnmjekpndeemaaGreatDoorUd
namespace Go.Proofs.YtmnmjekpndeemaaGreatDoor
open Go.RowKit Go.Maps Go.Shelf

/-- What was read so far, and the bytes behind the last end of a row. -/
def rst (lim : Nat) (L : List Nd) (l : List UInt8) : Option (List Nd × List Int) := (spl 59 l).dropLast.foldl (rstp lim) (some (L, []))
def nw (l : List UInt8) : List UInt8 := (spl 59 l).getLastD []
theorem rst_nil (lim : Nat) (L : List Nd) : rst lim L [] = some (L, []) := by simp [rst, spl]
theorem nw_nil : nw [] = [] := by simp [nw, spl]
theorem rst_other (lim : Nat) (L : List Nd) {b : UInt8} (hb : b ≠ 59) (l : List UInt8) : rst lim L (l ++ [b]) = rst lim L l ∧ nw (l ++ [b]) = nw l ++ [b] := by
  obtain ⟨m, z, h1, h2⟩ := spl_snoc_other 59 hb l
  unfold rst nw
  rw [h1, h2]
  simp
theorem rst_same (lim : Nat) (L : List Nd) (l : List UInt8) : rst lim L (l ++ [59]) = rstp lim (rst lim L l) (nw l) ∧ nw (l ++ [59]) = [] := by
  unfold rst nw
  rw [spl_snoc_same]
  have hn := spl_ne 59 l
  obtain ⟨m, z, h⟩ : ∃ m z, spl 59 l = m ++ [z] := ⟨_, _, (List.dropLast_concat_getLast hn).symm⟩
  rw [h]
  simp [List.foldl_append]
theorem rst_none {lim : Nat} {L : List Nd} : ∀ {r l : List UInt8}, rst lim L l = none → rst lim L (l ++ r) = none
  | [], l, h => by simpa using h
  | b :: r, l, h => by
    rw [show l ++ b :: r = (l ++ [b]) ++ r by simp]
    refine rst_none ?_
    by_cases hb : b = 59
    · subst hb
      rw [(rst_same lim L l).1, h]; rfl
    · rw [(rst_other lim L hb l).1]; exact h
theorem rst_len {lim : Nat} {L : List Nd} {l : List UInt8} {M : List Nd} {R : List Int} (h : rst lim L l = some (M, R)) : R.length + 1 = (spl 59 l).length := by
  have key : ∀ (t : List (List UInt8)) (st st' : List Nd × List Int), t.foldl (rstp lim) (some st) = some st' → st'.2.length = st.2.length + t.length := by
    intro t
    induction t with
    | nil => intro st st' h; simp at h; simp [h]
    | cons x t ih =>
      intro st st' h
      rw [List.foldl_cons] at h
      cases hx : rstp lim (some st) x with
      | none => rw [hx, rstp_none] at h; cases h
      | some s1 =>
        rw [hx] at h
        have h1 := ih s1 st' h
        have h2 : s1.2.length = st.2.length + 1 := by
          unfold rstp at hx
          obtain ⟨s0, hs, h2⟩ := Option.bind_eq_some_iff.1 hx
          obtain ⟨r, hr, h3⟩ := Option.bind_eq_some_iff.1 h2
          obtain rfl := Option.some.inj hs
          unfold stn at h3
          obtain ⟨d, hd, h4⟩ := Option.bind_eq_some_iff.1 h3
          split at h4
          · obtain rfl := Option.some.inj h4; simp
          · cases h4
        simp; omega
  have := key _ _ _ h
  have hn := spl_ne 59 l
  have hp : 0 < (spl 59 l).length := List.length_pos_iff.2 hn
  simp at this
  omega
theorem rrd_rst (lim : Nat) (L : List Nd) (s : List UInt8) : rrd lim L s = if nw s = [] ∧ 1 < (spl 59 s).length then (rst lim L s).bind fun st => if txt st.1 (st.2.getLastD 0) = s then some (st.1, st.2.getLastD 0) else none else none := rfl
theorem rstp_spec (lim : Nat) (M : List Nd) (R : List Int) (row : List UInt8) : rstp lim (some (M, R)) row = (rspec R (spl 32 row)).bind fun d => if mkE lim M d = 0 then some (mkL lim M d, R ++ [mkR lim M d]) else none := by
  unfold rstp rspec
  cases h : rall (spl 32 row) with
  | none => simp [h]
  | some r => simp [h, stn]
/-- What holds of what was read so far. -/
structure Rs (lim : Nat) (M : List Nd) (R : List Int) : Prop where
  wf : WF M
  len : M.length ≤ lim
  has : ∀ x ∈ R, hasB M.length x = true
theorem Rs.step {lim : Nat} {M : List Nd} {R : List Int} (h : Rs lim M R) (hm : lim ≤ 65536) {W : List (List UInt8)} {d : Nd} (hd : rspec R W = some d) : d.ok ∧ (mkE lim M d = 0 → Rs lim (mkL lim M d) (R ++ [mkR lim M d])) := by
  obtain ⟨ns, h1, h2⟩ := Option.bind_eq_some_iff.1 hd
  have hok := (prow_node (fun x hx => by have := hasB_iff.1 (h.has x hx); have := h.len; omega) (pall_lt (rall_pall h1).1) h2).1
  refine ⟨hok, fun he => ?_⟩
  have hl := mk_len (d := d) h.len
  refine ⟨mk_wf h.wf hok, hl.2.1, fun x hx => ?_⟩
  rcases List.mem_append.1 hx with e | e
  · exact hasB_mono hl.1 (h.has x e)
  · simp only [List.mem_singleton] at e
    subst e
    unfold mkE at he
    unfold mkR mkL
    by_cases hr : right M d = true
    · rw [if_pos hr] at he ⊢
      rw [if_pos hr]
      cases hi : ix d M with
      | some i => simp only [Option.isSome_some, if_true]; exact hasB_iff.2 ⟨by omega, by have := (ix_some hi).1; omega⟩
      | none =>
        rw [hi] at he
        simp only [Option.isSome_none, Bool.false_eq_true, if_false] at he ⊢
        split at he
        · cases he
        · rename_i hlt
          rw [if_neg hlt, if_neg hlt]
          exact hasB_iff.2 ⟨by omega, by simp; omega⟩
    · rw [if_neg hr] at he; cases he

theorem rrd_bad {lim : Nat} {L : List Nd} {l : List UInt8} {k : Nat} (h : rst lim L (l.take k) = none) : rrd lim L l = none := by
  have h2 : rst lim L l = none := by rw [← List.take_append_drop k l]; exact rst_none h
  rw [rrd_rst, h2]
  split <;> rfl

/-- What lies there while a text is read. -/
structure Rm (w wr : World) (lim g cap : Nat) (M : List Nd) (hv : Value) (R : List Int) : Prop where
  bel : Below w.heap.size w wr
  abox : wr.heap[w.heap.size]? = some (.cells #[.int .i64 lim, .slice (some ⟨g, 0, none⟩) M.length cap] 27 (0, 0))
  rbox : wr.heap[w.heap.size + 1]? = some (.cells #[.int .i64 0, .slice none 0 0] 27 (0, 0))
  row : rowAt wr g M
  glt : g < wr.heap.size
  had : wr.ownsRow (w.heap.size + 2) 3 1 hv R.length (R.map (Value.int .i64))
  sep : hv.ownBlock ≠ some g
theorem Rm.keep {w wr w' : World} {lim g cap : Nat} {M : List Nd} {hv : Value} {R : List Int} (h : Rm w wr lim g cap M hv R) (hb : Below wr.heap.size wr w') : Rm w w' lim g cap M hv R :=
  ⟨h.bel.trans (hb.mono h.bel.size), (hb.block _ (lt_of_heap h.abox)).trans h.abox, (hb.block _ (lt_of_heap h.rbox)).trans h.rbox, h.row.keep (hb.block _ h.glt), Nat.lt_of_lt_of_le h.glt hb.size, row_below h.had hb, h.sep⟩

set_option maxRecDepth 100000 in
set_option maxHeartbeats 4000000 in
theorem refRead_any (s : ByteArray) (hs : s.size ≤ 16384) (lim : Nat) (hm : lim ≤ 65536) (L : List Nd) (hL : WF L) (hl : L.length ≤ lim) (gr capr : Nat) (w : World) (hrow : rowAt w gr L) (hgr : gr < w.heap.size) :
    Calls Tryz.prog 8 #[.agg #[.int .i64 lim, .slice (some ⟨gr, 0, none⟩) L.length capr], .string s] w fun e w' =>
      (∃ g n cap r, e = .returned (.tuple #[.agg #[.int .i64 lim, .slice (some ⟨g, 0, none⟩) n cap], .int .i64 r, .bool (rrd lim L s.data.toList).isSome]) ∧ ∀ x, rrd lim L s.data.toList = some x → n = x.1.length ∧ r = x.2 ∧ rowAt w' g x.1 ∧ g < w'.heap.size) ∧ Below w.heap.size w w' := by
  have HSZ := Lib.hid (Lib.size_eq s)
  have hst : ∀ o1 o2, o1 = Obj.cells #[.int .i64 lim, .slice (some ⟨gr, 0, none⟩) L.length capr] 27 → o2 = Obj.cells #[.int .i64 0, .slice none 0 0] 27 → Rm w ((w.alloc o1).alloc o2) lim gr capr L (.slice none 0 0) [] := fun o1 o2 h1 h2 => by
    have hb : Below w.heap.size w ((w.alloc o1).alloc o2) := ((Below.refl _ _).alloc (Nat.le_refl _) _).alloc (by simp) _
    refine ⟨hb, ?_, ?_, hrow.keep (hb.block gr hgr), by simp; omega, World.ownsRow_nil _ _ _ _, by simp [Value.ownBlock]⟩
    · rw [Below.heap_alloc _ _ _ (by simp), h1]; exact heap_alloc_new w _
    · rw [h2]; simpa using heap_alloc_new (w.alloc o1) _
  have HST := Lib.hid (hst _ _ rfl rfl)
  have HR0 : Hid (Rs lim L []) := Lib.hid ⟨hL, hl, by simp⟩
  clear hst hrow hL
  obtain ⟨res, hres⟩ : ∃ res, res = rrd lim L s.data.toList := ⟨_, rfl⟩
  rw [← hres]
  have HRES := Lib.hid hres
  clear hres
  go_enter Tryz.func8, Tryz.ntmps8
  go_wp2_with fail
  go_loopg [7, 8, 9, 10, 11, 12, 13, 14] (s.size + 1) (fun q u7 u8 u9 _ _ _ _ _ wr => ∃ (k : Nat) (M : List Nd) (R : List Int) (g cap : Nat) (now : ByteArray), k + q = s.size + 1 ∧ k ≤ s.size ∧ u9 = .int .i64 k ∧ u8 = .string now ∧ now.data.toList = nw (s.data.toList.take k) ∧ rst lim L (s.data.toList.take k) = some (M, R) ∧ Rs lim M R ∧ Rm w wr lim g cap M u7 R)
  case atStart => exact ⟨0, L, [], gr, capr, ⟨#[]⟩, by omega, by omega, rfl, rfl, by rw [List.take_zero, nw_nil], by rw [List.take_zero, rst_nil], HR0.out, HST.out⟩
  case round =>
    obtain ⟨k, M, R, g, cap, now, hkq, hkl, rfl, rfl, hnw, hrs, hR, hM⟩ := hrel
    have hRl : R.length ≤ 16384 := by
      have h1 := rst_len hrs
      have h2 := spl_len 59 (s.data.toList.take k)
      simp at h2
      omega
    have hns : now.size ≤ 16384 := by
      have h1 : nw (s.data.toList.take k) ∈ spl 59 (s.data.toList.take k) := by
        unfold nw
        rw [List.getLastD_eq_getLast?, List.getLast?_eq_some_getLast (spl_ne 59 _)]
        exact List.getLast_mem _
      have h2 := spl_mem h1
      rw [Lib.size_eq, hnw]
      simp at h2
      omega
    have a0 : wr.cell? ⟨w.heap.size, 0, none⟩ = some (.int .i64 lim) := (cell_of_row wr _ 0 _ _ _ hM.abox).trans rfl
    have a1 : wr.cell? ⟨w.heap.size, 1, none⟩ = some (.slice (some ⟨g, 0, none⟩) M.length cap) := (cell_of_row wr _ 1 _ _ _ hM.abox).trans rfl
    have hl0 := lt_of_heap hM.abox
    have hl1 := lt_of_heap hM.rbox
    obtain ⟨sp, cp, rfl⟩ := own_slice hM.had
    have HRR := Lib.hid hR
    have HM := Lib.hid hM
    have HNW := Lib.hid hnw
    have HRS := Lib.hid hrs
    clear hR hM hnw hrs
    by_cases hlt : k < s.size
    · by_cases hb : s[k] = 59
      · have hbn : (s[k].toNat : Int) = 59 := by rw [hb]; rfl
        have hrn := (rst_same lim L (s.data.toList.take k))
        rw [HRS.out, rstp_spec, ← HNW.out, show s.data.toList.take k ++ [59] = s.data.toList.take (k + 1) by rw [take_byte hlt, hb]] at hrn
        clear hb
        have HND : Hid (Calls Tryz.prog 21 #[.string now, .slice sp R.length cp] wr fun e w' => (∃ d : Nd, e = .returned (.tuple #[.agg #[.int .i64 d.k, .int .u64 d.n, .int .i64 d.a, .int .i64 d.b, .int .i64 d.c], .bool (rspec R (spl 32 now.data.toList)).isSome]) ∧ ∀ d', rspec R (spl 32 now.data.toList) = some d' → d = d') ∧ Below wr.heap.size wr w') := Lib.hid (node_any now hns R hRl _ _ wr HM.out.had)
        cases hsp : rspec R (spl 32 now.data.toList) with
        | none =>
          rw [hsp] at hrn HND
          have HNO : Hid (res = none) := Lib.hid (by rw [HRES.out]; exact rrd_bad hrn.1)
          clear hrn hsp a0 a1
          go_wp2_with (go_at_call 21; refine HND.out.mono ?_; rintro e w1 ⟨⟨d, rfl, hd⟩, hb1⟩; have hM1 := HM.out.keep hb1; have c0 : w1.cell? ⟨w.heap.size, 0, none⟩ = some (.int .i64 lim) := (cell_of_row w1 _ 0 _ _ _ hM1.abox).trans rfl; have c1 : w1.cell? ⟨w.heap.size, 1, none⟩ = some (.slice (some ⟨g, 0, none⟩) M.length cap) := (cell_of_row w1 _ 1 _ _ _ hM1.abox).trans rfl; have f0 : w1.frozen? ⟨w.heap.size, 0, none⟩ = false := (by simp [World.frozen?, hM1.abox]); have f1 : w1.frozen? ⟨w.heap.size, 1, none⟩ = false := (by simp [World.frozen?, hM1.abox]); have z0 : w1.cell? ⟨w.heap.size + 1, 0, none⟩ = some (.int .i64 0) := (cell_of_row w1 _ 0 _ _ _ hM1.rbox).trans rfl; have z1 : w1.cell? ⟨w.heap.size + 1, 1, none⟩ = some (.slice none 0 0) := (cell_of_row w1 _ 1 _ _ _ hM1.rbox).trans rfl; have e0 : w1.frozen? ⟨w.heap.size + 1, 0, none⟩ = false := (by simp [World.frozen?, hM1.rbox]); have e1 : w1.frozen? ⟨w.heap.size + 1, 1, none⟩ = false := (by simp [World.frozen?, hM1.rbox]); have k0 := lt_of_heap hM1.abox; have k1 := lt_of_heap hM1.rbox; have HM1 := Lib.hid hM1; clear hM1)
          refine bodyPost_ret (v := .tuple #[.agg #[.int .i64 lim, .slice (some ⟨g, 0, none⟩) M.length cap], .int .i64 0, .bool false]) (by simp [results, Tryz.results8, go_sem, z0, z1, k0, k1]) rfl ⟨⟨g, M.length, cap, 0, by rw [HNO.out]; rfl, fun x hx => by rw [HNO.out] at hx; cases hx⟩, ?_⟩
          exact (set2_below HM1.out.bel (by omega) _ _).alloc (by rw [set2_size]; have := HM1.out.bel.size; omega) _
        | some d =>
          rw [hsp] at hrn HND
          have HSP := Lib.hid hsp
          simp only [Option.bind_some] at hrn
          obtain ⟨hok, hnx⟩ := HRR.out.step hm hsp
          have HOK := Lib.hid hok
          have HNXT := Lib.hid hnx
          clear a0 a1 hsp hok hnx
          have HMK : Hid (∀ W, Below wr.heap.size wr W → Calls Tryz.prog 15 #[.agg #[.int .i64 lim, .slice (some ⟨g, 0, none⟩) M.length cap], .agg #[.int .i64 d.k, .int .u64 d.n, .int .i64 d.a, .int .i64 d.b, .int .i64 d.c]] W (RefMj g lim M d W)) := Lib.hid (fun W hW => refMj_any lim g cap M HRR.out.wf.toWFp (Nat.le_trans HRR.out.len hm) d.k d.n d.a d.b d.c W (HM.out.row.keep (hW.block g HM.out.glt)) (Nat.lt_of_lt_of_le HM.out.glt hW.size))
          unfold RefMj at HMK
          obtain ⟨ee, hee⟩ : ∃ ee, ee = mkE lim M d := ⟨_, rfl⟩
          obtain ⟨rr, hrr⟩ : ∃ rr, rr = mkR lim M d := ⟨_, rfl⟩
          obtain ⟨MM, hMM⟩ : ∃ MM, MM = mkL lim M d := ⟨_, rfl⟩
          rw [← hee, ← hrr, ← hMM] at hrn HNXT
          rw [← hee, ← hrr, ← hMM] at HMK
          clear hee hrr hMM
          by_cases he : ee = 0
          · subst he
            rw [if_pos rfl] at hrn
            have HRN := Lib.hid hrn
            obtain ⟨i0, hi0, hz0, hz1, hz2⟩ := info_parts Tryz.info3
            clear hrn
            have HOX : Hid (∀ W, Rm w W lim g cap M (.slice sp R.length cp) R → ∀ u v o1 o2, ((((W.setCell ⟨w.heap.size, 0, none⟩ u).setCell ⟨w.heap.size, 1, none⟩ v).alloc o1).alloc o2).ownsRow (w.heap.size + 2) 3 1 (.slice sp R.length cp) R.length (R.map (Value.int .i64))) := Lib.hid (fun W h u v o1 o2 => by
              have hne : (Value.slice sp R.length cp).ownBlock ≠ some w.heap.size := fun e => by have := (h.had.lt _ e).1; omega
              exact ((ownsRow_setCell_other (ownsRow_setCell_other h.had (a := ⟨w.heap.size, 0, none⟩) hne u) (a := ⟨w.heap.size, 1, none⟩) hne v).alloc o1).alloc o2)
            go_wp2_with (first
              | (at_builtin; have _hq := HM2; clear _hq; refine wpList_append_lies _ rfl _ _ 56 rfl (w.heap.size + 2) 3 i0 (.int .i64 0) 1 8 Tryz.underlying56 hi0 hz0 hz1 hz2 rfl (by decide) _ _ _ rfl (HOX.out w2 HM2.out _ _ _ _) ⟨w2.heap.size + 1, 0, none⟩ 1 1 [.int .i64 rr] rfl rfl ?c1 ?c2 (by decide) ?c3 ?c4 ?c5 _ rfl ?_)
              | (go_at_call 21; refine HND.out.mono ?_; rintro e w1 ⟨⟨d1, rfl, hd⟩, hb1⟩; obtain rfl := hd d rfl; clear hd; have hM1 := HM.out.keep hb1; have c0 : w1.cell? ⟨w.heap.size, 0, none⟩ = some (.int .i64 lim) := (cell_of_row w1 _ 0 _ _ _ hM1.abox).trans rfl; have c1 : w1.cell? ⟨w.heap.size, 1, none⟩ = some (.slice (some ⟨g, 0, none⟩) M.length cap) := (cell_of_row w1 _ 1 _ _ _ hM1.abox).trans rfl; have f0 : w1.frozen? ⟨w.heap.size, 0, none⟩ = false := (by simp [World.frozen?, hM1.abox]); have f1 : w1.frozen? ⟨w.heap.size, 1, none⟩ = false := (by simp [World.frozen?, hM1.abox]); have z0 : w1.cell? ⟨w.heap.size + 1, 0, none⟩ = some (.int .i64 0) := (cell_of_row w1 _ 0 _ _ _ hM1.rbox).trans rfl; have z1 : w1.cell? ⟨w.heap.size + 1, 1, none⟩ = some (.slice none 0 0) := (cell_of_row w1 _ 1 _ _ _ hM1.rbox).trans rfl; have e0 : w1.frozen? ⟨w.heap.size + 1, 0, none⟩ = false := (by simp [World.frozen?, hM1.rbox]); have e1 : w1.frozen? ⟨w.heap.size + 1, 1, none⟩ = false := (by simp [World.frozen?, hM1.rbox]); have k0 := lt_of_heap hM1.abox; have k1 := lt_of_heap hM1.rbox; have HM1 := Lib.hid hM1; clear hM1)
              | (go_at_call 15; refine (HMK.out _ (hb1.alloc hb1.size _)).mono ?_; rintro e w2 ⟨g2, cap2, rfl, hr2, hg2, hb2, ho2⟩; clear c0 c1 f0 f1 z0 z1 e0 e1 k0 k1; have hM2 := (HM1.out.keep ((Below.refl _ _).alloc (Nat.le_refl _) _)).keep hb2; have c0 : w2.cell? ⟨w.heap.size, 0, none⟩ = some (.int .i64 lim) := (cell_of_row w2 _ 0 _ _ _ hM2.abox).trans rfl; have c1 : w2.cell? ⟨w.heap.size, 1, none⟩ = some (.slice (some ⟨g, 0, none⟩) M.length cap) := (cell_of_row w2 _ 1 _ _ _ hM2.abox).trans rfl; have f0 : w2.frozen? ⟨w.heap.size, 0, none⟩ = false := (by simp [World.frozen?, hM2.abox]); have f1 : w2.frozen? ⟨w.heap.size, 1, none⟩ = false := (by simp [World.frozen?, hM2.abox]); have z0 : w2.cell? ⟨w.heap.size + 1, 0, none⟩ = some (.int .i64 0) := (cell_of_row w2 _ 0 _ _ _ hM2.rbox).trans rfl; have z1 : w2.cell? ⟨w.heap.size + 1, 1, none⟩ = some (.slice none 0 0) := (cell_of_row w2 _ 1 _ _ _ hM2.rbox).trans rfl; have e0 : w2.frozen? ⟨w.heap.size + 1, 0, none⟩ = false := (by simp [World.frozen?, hM2.rbox]); have e1 : w2.frozen? ⟨w.heap.size + 1, 1, none⟩ = false := (by simp [World.frozen?, hM2.rbox]); have k0 := lt_of_heap hM2.abox; have k1 := lt_of_heap hM2.rbox; have HM2 := Lib.hid hM2; clear hM2))
            case c1 =>
              intro j u hj
              match j, hj with
              | 0, hj =>
                simp at hj; subst hj; simp [Addr.add]
                have h := heap_alloc_new (((w2.setCell ⟨w.heap.size, 0, none⟩ (.int .i64 lim)).setCell ⟨w.heap.size, 1, none⟩ (.slice (some ⟨g2, 0, none⟩) MM.length cap2)).alloc (.cells #[.int .i64 lim, .slice (some ⟨g2, 0, none⟩) MM.length cap2] 27)) (.cells #[.int .i64 rr] 3)
                rw [World.size_alloc, set2_size] at h
                exact cell_of_one h
            case c2 => intro u hu; simp at hu; subst hu; rfl
            case c3 => unfold maxLen; omega
            case c4 => (try simp); omega
            case c5 => (try simp); omega
            intro g7 cap7 w7 hown7 hgr7 hat7 hlt7
            have HP : Hid (Rm w w7 lim g2 cap2 MM (.slice (some ⟨g7, 0, none⟩) (R.length + 1) cap7) (R ++ [rr])) := Lib.hid (by
              have hne := row_ne hr2 (HNXT.out trivial).wf.pos c1
              have hne1 := row_ne hr2 (HNXT.out trivial).wf.pos z1
              have hbx : ((w2.setCell ⟨w.heap.size, 0, none⟩ (.int .i64 lim)).setCell ⟨w.heap.size, 1, none⟩ (.slice (some ⟨g2, 0, none⟩) MM.length cap2)).heap[w.heap.size]? = some (.cells #[.int .i64 lim, .slice (some ⟨g2, 0, none⟩) MM.length cap2] 27 (0, 0)) := set2_box HM2.out.abox
              have hbY : Below w.heap.size w ((w2.setCell ⟨w.heap.size, 0, none⟩ (.int .i64 lim)).setCell ⟨w.heap.size, 1, none⟩ (.slice (some ⟨g2, 0, none⟩) MM.length cap2)) := set2_below HM2.out.bel (Nat.le_refl _) _ _
              have hsY := set2_size w2 w.heap.size (.int .i64 lim) (.slice (some ⟨g2, 0, none⟩) MM.length cap2)
              have hrY : ((w2.setCell ⟨w.heap.size, 0, none⟩ (.int .i64 lim)).setCell ⟨w.heap.size, 1, none⟩ (.slice (some ⟨g2, 0, none⟩) MM.length cap2)).heap[w.heap.size + 1]? = some (.cells #[.int .i64 0, .slice none 0 0] 27 (0, 0)) := by
                rw [set2_block _ _ _ _ _ (by omega)]; exact HM2.out.rbox
              have hoX := HOX.out w2 HM2.out (.int .i64 lim) (.slice (some ⟨g2, 0, none⟩) MM.length cap2) (.cells #[.int .i64 lim, .slice (some ⟨g2, 0, none⟩) MM.length cap2] 27) (.cells #[.int .i64 rr] 3)
              have hgY : ((w2.setCell ⟨w.heap.size, 0, none⟩ (.int .i64 lim)).setCell ⟨w.heap.size, 1, none⟩ (.slice (some ⟨g2, 0, none⟩) MM.length cap2)).heap[g2]? = w2.heap[g2]? := set2_block _ _ _ _ _ hne
              have hs1 := hb1.size
              have hs2 := hb2.size
              rw [World.size_alloc] at hs2 ho2
              generalize ((w2.setCell ⟨w.heap.size, 0, none⟩ (.int .i64 lim)).setCell ⟨w.heap.size, 1, none⟩ (.slice (some ⟨g2, 0, none⟩) MM.length cap2)) = Y at *
              have up : ∀ {k : Nat} {o1 o2 : Obj}, k < Y.heap.size → ((Y.alloc o1).alloc o2).heap[k]? = Y.heap[k]? := fun {k o1 o2} hk => by
                rw [Below.heap_alloc _ _ _ (by simp; omega), Below.heap_alloc _ _ _ hk]
              have hold : ∀ k, (Value.slice sp R.length cp).ownBlock = some k → k < wr.heap.size := fun k e => (HM.out.had.lt k e).2
              have hsep : (Value.slice sp R.length cp).ownBlock ≠ some g2 := fun e => by
                rcases ho2 with h | h
                · exact HM.out.sep (h ▸ e)
                · have := hold g2 e; omega
              have hgX : g2 < Y.heap.size := by omega
              refine ⟨?_, ?_, ?_, ?_, ?_, by simpa using hown7, ?_⟩
              · exact ((hbY.alloc hbY.size _).alloc (by have := hbY.size; simp; omega) _).grown hgr7 (by have := hbY.size; simp; omega) (fun k e => by have := (HM.out.had.lt k e).1; omega)
              · exact cells_grown (by rw [up (by omega)]; exact hbx) (by decide) hoX hgr7
              · exact cells_grown (by rw [up (by omega)]; exact hrY) (by decide) hoX hgr7
              · refine hr2.keep ?_
                rw [hgr7.block g2 (by simp; omega) (fun e => hsep e.symm), up hgX, hgY]
              · have := hgr7.size; simp at this; omega
              · intro e
                have e : g7 = g2 := by injection e
                rcases hat7 with h | h
                · exact hsep (e ▸ h)
                · (try simp at h); omega)
            clear hown7 hgr7 hat7
            go_wp2_with fail
            go_roundg (s.size + 1 - (k + 1))
            case rel => exact ⟨k + 1, MM, R ++ [rr], g2, cap2, ⟨#[]⟩, by omega, by omega, by simp, rfl, by rw [HRN.out.2], HRN.out.1, HNXT.out trivial, HP.out⟩
            case measure => omega
          · have he' : (ee != 0) = true := by simpa using he
            rw [if_neg he] at hrn
            have HNO : Hid (res = none) := Lib.hid (by rw [HRES.out]; exact rrd_bad hrn.1)
            clear hrn
            go_wp2_with (first
              | (go_at_call 21; refine HND.out.mono ?_; rintro e w1 ⟨⟨d1, rfl, hd⟩, hb1⟩; obtain rfl := hd d rfl; clear hd; have hM1 := HM.out.keep hb1; have c0 : w1.cell? ⟨w.heap.size, 0, none⟩ = some (.int .i64 lim) := (cell_of_row w1 _ 0 _ _ _ hM1.abox).trans rfl; have c1 : w1.cell? ⟨w.heap.size, 1, none⟩ = some (.slice (some ⟨g, 0, none⟩) M.length cap) := (cell_of_row w1 _ 1 _ _ _ hM1.abox).trans rfl; have f0 : w1.frozen? ⟨w.heap.size, 0, none⟩ = false := (by simp [World.frozen?, hM1.abox]); have f1 : w1.frozen? ⟨w.heap.size, 1, none⟩ = false := (by simp [World.frozen?, hM1.abox]); have z0 : w1.cell? ⟨w.heap.size + 1, 0, none⟩ = some (.int .i64 0) := (cell_of_row w1 _ 0 _ _ _ hM1.rbox).trans rfl; have z1 : w1.cell? ⟨w.heap.size + 1, 1, none⟩ = some (.slice none 0 0) := (cell_of_row w1 _ 1 _ _ _ hM1.rbox).trans rfl; have e0 : w1.frozen? ⟨w.heap.size + 1, 0, none⟩ = false := (by simp [World.frozen?, hM1.rbox]); have e1 : w1.frozen? ⟨w.heap.size + 1, 1, none⟩ = false := (by simp [World.frozen?, hM1.rbox]); have k0 := lt_of_heap hM1.abox; have k1 := lt_of_heap hM1.rbox; have HM1 := Lib.hid hM1; clear hM1)
              | (go_at_call 15; refine (HMK.out _ (hb1.alloc hb1.size _)).mono ?_; rintro e w2 ⟨g2, cap2, rfl, hr2, hg2, hb2, ho2⟩; clear c0 c1 f0 f1 z0 z1 e0 e1 k0 k1; have hM2 := (HM1.out.keep ((Below.refl _ _).alloc (Nat.le_refl _) _)).keep hb2; have c0 : w2.cell? ⟨w.heap.size, 0, none⟩ = some (.int .i64 lim) := (cell_of_row w2 _ 0 _ _ _ hM2.abox).trans rfl; have c1 : w2.cell? ⟨w.heap.size, 1, none⟩ = some (.slice (some ⟨g, 0, none⟩) M.length cap) := (cell_of_row w2 _ 1 _ _ _ hM2.abox).trans rfl; have f0 : w2.frozen? ⟨w.heap.size, 0, none⟩ = false := (by simp [World.frozen?, hM2.abox]); have f1 : w2.frozen? ⟨w.heap.size, 1, none⟩ = false := (by simp [World.frozen?, hM2.abox]); have z0 : w2.cell? ⟨w.heap.size + 1, 0, none⟩ = some (.int .i64 0) := (cell_of_row w2 _ 0 _ _ _ hM2.rbox).trans rfl; have z1 : w2.cell? ⟨w.heap.size + 1, 1, none⟩ = some (.slice none 0 0) := (cell_of_row w2 _ 1 _ _ _ hM2.rbox).trans rfl; have e0 : w2.frozen? ⟨w.heap.size + 1, 0, none⟩ = false := (by simp [World.frozen?, hM2.rbox]); have e1 : w2.frozen? ⟨w.heap.size + 1, 1, none⟩ = false := (by simp [World.frozen?, hM2.rbox]); have k0 := lt_of_heap hM2.abox; have k1 := lt_of_heap hM2.rbox; have HM2 := Lib.hid hM2; clear hM2))
            refine bodyPost_ret (v := .tuple #[.agg #[.int .i64 lim, .slice (some ⟨g, 0, none⟩) M.length cap], .int .i64 0, .bool false]) (by simp [results, Tryz.results8, go_sem, z0, z1, k0, k1]) rfl ⟨⟨g, M.length, cap, 0, by rw [HNO.out]; rfl, fun x hx => by rw [HNO.out] at hx; cases hx⟩, ?_⟩
            exact (set2_below HM2.out.bel (by omega) _ _).alloc (by rw [set2_size]; have := HM2.out.bel.size; omega) _
      · have hbn : ¬ (s[k].toNat : Int) = 59 := fun e => hb (by apply UInt8.toNat_inj.1; simpa using Int.ofNat.inj e)
        have HNX : Hid (now.data.toList ++ [s[k]] = nw (s.data.toList.take (k + 1)) ∧ rst lim L (s.data.toList.take (k + 1)) = some (M, R)) := Lib.hid (by
          rw [take_byte hlt, (rst_other lim L hb _).2, (rst_other lim L hb _).1, HNW.out, HRS.out]; exact ⟨rfl, rfl⟩)
        clear hb
        go_wp2_with fail
        go_roundg (s.size + 1 - (k + 1))
        case rel => exact ⟨k + 1, M, R, g, cap, now ++ s.extract k (k + 1), by omega, by omega, by simp, rfl, by rw [← HNX.out.1, ← ext_byte hlt]; simp, HNX.out.2, HRR.out, HM.out⟩
        case measure => omega
    · obtain rfl : k = s.size := by omega
      have hfull : s.data.toList.take s.size = s.data.toList := by rw [Lib.size_eq, List.take_length]
      have hrs := HRS.out
      have hnw := HNW.out
      rw [hfull] at hrs hnw
      have hsl := rst_len hrs
      have c0 := a0
      have c1 := a1
      have f0 : wr.frozen? ⟨w.heap.size, 0, none⟩ = false := by simp [World.frozen?, HM.out.abox]
      have f1 : wr.frozen? ⟨w.heap.size, 1, none⟩ = false := by simp [World.frozen?, HM.out.abox]
      have z0 : wr.cell? ⟨w.heap.size + 1, 0, none⟩ = some (.int .i64 0) := (cell_of_row wr _ 0 _ _ _ HM.out.rbox).trans rfl
      have z1 : wr.cell? ⟨w.heap.size + 1, 1, none⟩ = some (.slice none 0 0) := (cell_of_row wr _ 1 _ _ _ HM.out.rbox).trans rfl
      have e0 : wr.frozen? ⟨w.heap.size + 1, 0, none⟩ = false := by simp [World.frozen?, HM.out.rbox]
      have e1 : wr.frozen? ⟨w.heap.size + 1, 1, none⟩ = false := by simp [World.frozen?, HM.out.rbox]
      have k0 := hl0
      have k1 := hl1
      by_cases hR0 : R.length = 0
      · have HNO : Hid (res = none) := Lib.hid (by rw [HRES.out, rrd_rst, if_neg (by omega)])
        clear hrs hnw hsl hfull
        rw [hR0]
        go_wp2_with fail
        refine bodyPost_ret (v := .tuple #[.agg #[.int .i64 lim, .slice (some ⟨g, 0, none⟩) M.length cap], .int .i64 0, .bool false]) (by simp [results, Tryz.results8, go_sem, z0, z1, k0, k1]) rfl ⟨⟨g, M.length, cap, 0, by rw [HNO.out]; rfl, fun x hx => by rw [HNO.out] at hx; cases hx⟩, ?_⟩
        exact set2_below HM.out.bel (by omega) _ _
      · by_cases hne : now = ⟨#[]⟩
        · subst hne
          obtain ⟨n, hn⟩ : ∃ n, R.length = n + 1 := ⟨R.length - 1, by omega⟩
          obtain ⟨r, hr⟩ : ∃ r, r = R.getLastD 0 := ⟨_, rfl⟩
          have hrn : R.getD n 0 = r := by rw [hr, getLastD_eq R (by omega), hn, Nat.add_sub_cancel]
          have hrm : r ∈ R := by
            rw [← hrn, List.getD_eq_getElem?_getD, List.getElem?_eq_getElem (show n < R.length by omega)]
            simp
          have hrh := HRR.out.has r hrm
          have HWR0 : Hid (∀ W, Below wr.heap.size wr W → Calls Tryz.prog 22 #[.agg #[.int .i64 lim, .slice (some ⟨g, 0, none⟩) M.length cap], .int .i64 r] W fun e w' => e = .returned (.string ⟨(txt M r).toArray⟩) ∧ Below W.heap.size W w') := Lib.hid (fun W hW => refWrite_any HRR.out.wf (Nat.le_trans HRR.out.len hm) (lim : Int) g cap r hrh W (HM.out.row.keep (hW.block g HM.out.glt)) (Nat.lt_of_lt_of_le HM.out.glt hW.size))
          have hres : res = if txt M r = s.data.toList then some (M, r) else none := by
            rw [HRES.out, rrd_rst, if_pos ⟨by rw [← hnw], by omega⟩, hrs]
            simp only [Option.bind_some, ← hr]
          obtain ⟨gh, rfl⟩ : ∃ gh, sp = some ⟨gh, 0, none⟩ := by
            rcases HM.out.had.2 with ⟨h1, h2⟩ | ⟨gh, _, _, h1, _⟩
            · omega
            · exact ⟨gh, by injection h1⟩
          have cH : wr.cell? ⟨gh, n, none⟩ = some (.int .i64 r) := by
            rw [HM.out.had.cellAt n (by omega), ← hrn]
            simp [List.getD, List.getElem?_eq_getElem (show n < R.length by omega)]
          have hghl : gh < wr.heap.size := (HM.out.had.lt gh rfl).2
          have hgge : w.heap.size + 2 ≤ gh := (HM.out.had.lt gh rfl).1
          have hg1 : ¬ gh = w.heap.size + 1 := by omega
          have hg2 : ¬ w.heap.size + 1 = gh := by omega
          have hn1 : n ≤ 16384 := by omega
          have hnA : (0 : Int) ≤ (n : Int) := by omega
          have hnB : (n : Int) < (n : Int) + 1 := by omega
          have hnC : IntKind.i64.wrap (n : Int) = n := by rw [IntKind.wrap_i64]; omega
          rw [hn]
          have HR := Lib.hid hr
          clear hrs hnw hsl hfull hrn hrm hrh hR0 hRl hns a0 a1 hn hr
          by_cases ht : txt M r = s.data.toList
          · rw [if_pos ht] at hres
            have he : (⟨(txt M r).toArray⟩ : ByteArray) = s := by apply ByteArray.ext; apply Array.ext'; simpa using ht
            have HWR := HWR0
            rw [he] at HWR
            have HRE := Lib.hid hres
            clear hres ht he HWR0
            go_wp2_with fail
            go_region_held3 (fun w' => w'.cell? ⟨w.heap.size, 0, none⟩ = some (.int .i64 lim) ∧ w'.cell? ⟨w.heap.size, 1, none⟩ = some (.slice (some ⟨g, 0, none⟩) M.length cap) ∧ w'.cell? ⟨gh, n, none⟩ = some (.int .i64 r)) (first | exact ⟨c0, c1, cH⟩ | exact ⟨b0, b1, bH⟩ | go_keep)
              (first
                | (go_at_call 22; refine (HWR.out _ ((Below.refl _ _).drew)).mono ?_; rintro e w2 ⟨rfl, hb2⟩; have hb2 : Below wr.heap.size wr w2 := ((Below.refl wr.heap.size wr).drew).trans hb2; have hM2 := HM.out.keep hb2; have b0 : w2.cell? ⟨w.heap.size, 0, none⟩ = some (.int .i64 lim) := (cell_of_row w2 _ 0 _ _ _ hM2.abox).trans rfl; have b1 : w2.cell? ⟨w.heap.size, 1, none⟩ = some (.slice (some ⟨g, 0, none⟩) M.length cap) := (cell_of_row w2 _ 1 _ _ _ hM2.abox).trans rfl; have bH : w2.cell? ⟨gh, n, none⟩ = some (.int .i64 r) := (bcell hb2 gh n hghl).trans cH; have y0 : w2.cell? ⟨w.heap.size + 1, 0, none⟩ = some (.int .i64 0) := (cell_of_row w2 _ 0 _ _ _ hM2.rbox).trans rfl; have y1 : w2.cell? ⟨w.heap.size + 1, 1, none⟩ = some (.slice none 0 0) := (cell_of_row w2 _ 1 _ _ _ hM2.rbox).trans rfl; have d0 : w2.frozen? ⟨w.heap.size + 1, 0, none⟩ = false := (by simp [World.frozen?, hM2.rbox]); have d1 : w2.frozen? ⟨w.heap.size + 1, 1, none⟩ = false := (by simp [World.frozen?, hM2.rbox]); have j0 := lt_of_heap hM2.abox; have j1 := lt_of_heap hM2.rbox; have HM2 := Lib.hid hM2; clear hM2))
            go_wp2_with fail
            have hne := row_ne HM2.out.row HRR.out.wf.pos y1
            refine bodyPost_ret (v := .tuple #[.agg #[.int .i64 lim, .slice (some ⟨g, 0, none⟩) M.length cap], .int .i64 r, .bool true]) (by simp [results, Tryz.results8, go_sem, y0, y1, j0, j1]) rfl ⟨⟨g, M.length, cap, r, by rw [HRE.out]; rfl, fun x hx => ?_⟩, set2_below HM2.out.bel (by omega) _ _⟩
            rw [HRE.out] at hx
            obtain rfl := Option.some.inj hx
            exact ⟨rfl, rfl, HM2.out.row.keep (set2_block _ _ _ _ _ hne), by rw [set2_size]; exact HM2.out.glt⟩
          · rw [if_neg ht] at hres
            obtain ⟨T, hT⟩ : ∃ T : ByteArray, T = ⟨(txt M r).toArray⟩ := ⟨_, rfl⟩
            have hTs : ¬ T.toList = s.toList := by rw [ByteArray.toList_eq, ByteArray.toList_eq, hT]; simpa using ht
            have HWR := HWR0
            rw [← hT] at HWR
            have HRE := Lib.hid hres
            clear hres ht hT HWR0
            go_wp2_with fail
            go_region_held3 (fun w' => w'.cell? ⟨w.heap.size, 0, none⟩ = some (.int .i64 lim) ∧ w'.cell? ⟨w.heap.size, 1, none⟩ = some (.slice (some ⟨g, 0, none⟩) M.length cap) ∧ w'.cell? ⟨gh, n, none⟩ = some (.int .i64 r)) (first | exact ⟨c0, c1, cH⟩ | exact ⟨b0, b1, bH⟩ | go_keep)
              (first
                | (go_at_call 22; refine (HWR.out _ ((Below.refl _ _).drew)).mono ?_; rintro e w2 ⟨rfl, hb2⟩; have hb2 : Below wr.heap.size wr w2 := ((Below.refl wr.heap.size wr).drew).trans hb2; have hM2 := HM.out.keep hb2; have b0 : w2.cell? ⟨w.heap.size, 0, none⟩ = some (.int .i64 lim) := (cell_of_row w2 _ 0 _ _ _ hM2.abox).trans rfl; have b1 : w2.cell? ⟨w.heap.size, 1, none⟩ = some (.slice (some ⟨g, 0, none⟩) M.length cap) := (cell_of_row w2 _ 1 _ _ _ hM2.abox).trans rfl; have bH : w2.cell? ⟨gh, n, none⟩ = some (.int .i64 r) := (bcell hb2 gh n hghl).trans cH; have y0 : w2.cell? ⟨w.heap.size + 1, 0, none⟩ = some (.int .i64 0) := (cell_of_row w2 _ 0 _ _ _ hM2.rbox).trans rfl; have y1 : w2.cell? ⟨w.heap.size + 1, 1, none⟩ = some (.slice none 0 0) := (cell_of_row w2 _ 1 _ _ _ hM2.rbox).trans rfl; have d0 : w2.frozen? ⟨w.heap.size + 1, 0, none⟩ = false := (by simp [World.frozen?, hM2.rbox]); have d1 : w2.frozen? ⟨w.heap.size + 1, 1, none⟩ = false := (by simp [World.frozen?, hM2.rbox]); have j0 := lt_of_heap hM2.abox; have j1 := lt_of_heap hM2.rbox; have HM2 := Lib.hid hM2; clear hM2))
            go_wp2_with fail
            exact bodyPost_ret (v := .tuple #[.agg #[.int .i64 lim, .slice (some ⟨g, 0, none⟩) M.length cap], .int .i64 r, .bool false]) (by simp [results, Tryz.results8, go_sem, y0, y1, j0, j1, hTs]) rfl ⟨⟨g, M.length, cap, r, by rw [HRE.out]; rfl, fun x hx => by rw [HRE.out] at hx; cases hx⟩, set2_below HM2.out.bel (by omega) _ _⟩
        · have hne1 : ¬ now.toList = [] := by rw [ByteArray.toList_eq]; intro e; exact hne (by apply ByteArray.ext; apply Array.ext'; exact e)
          have HNO : Hid (res = none) := Lib.hid (by
            rw [HRES.out, rrd_rst, if_neg]
            intro h
            rw [← hnw] at h
            exact hne (by apply ByteArray.ext; apply Array.ext'; exact h.1))
          have hne2 : now.toList.isEmpty = false := by cases h : now.toList with | nil => exact absurd h hne1 | cons _ _ => rfl
          have hR1 : ¬ ((R.length : Int) = 0) := by omega
          have hR2 : ((R.length : Int) == 0) = false := by simpa using hR1
          clear hrs hnw hsl hfull
          go_wp2_with fail
          all_goals first
            | contradiction
            | (refine bodyPost_ret (v := .tuple #[.agg #[.int .i64 lim, .slice (some ⟨g, 0, none⟩) M.length cap], .int .i64 0, .bool false]) (by simp [results, Tryz.results8, go_sem, z0, z1, k0, k1]) rfl ⟨⟨g, M.length, cap, 0, by rw [HNO.out]; rfl, fun x hx => by rw [HNO.out] at hx; cases hx⟩, ?_⟩
               exact set2_below HM.out.bel (by omega) _ _)
end Go.Proofs.YtmnmjekpndeemaaGreatDoor
