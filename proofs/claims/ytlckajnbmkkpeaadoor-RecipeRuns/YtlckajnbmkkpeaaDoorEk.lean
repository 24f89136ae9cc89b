/- Layer 4: the walk of Run. -/
import Derived.Test.YtlckajnbmkkpeaaDoorEj
namespace Go.Proofs.YtlckajnbmkkpeaaDoor
open Go.RowKit Go.Maps

/-- Steps that came in. -/
def StepsV (w : World) (s : Option Addr) (l : List Sp) : Prop := 0 < l.length → ∃ gs os, s = some ⟨gs, os, none⟩ ∧ gs < w.heap.size ∧ ∀ i, i < l.length → w.cell? ⟨gs, os + i * 5, none⟩ = some (.int .i64 (l.getD i zSp).op) ∧ w.cell? ⟨gs, os + i * 5 + 1, none⟩ = some (.int .u64 (l.getD i zSp).n) ∧ w.cell? ⟨gs, os + i * 5 + 2, none⟩ = some (.int .i64 (l.getD i zSp).a) ∧ w.cell? ⟨gs, os + i * 5 + 3, none⟩ = some (.int .i64 (l.getD i zSp).b) ∧ w.cell? ⟨gs, os + i * 5 + 4, none⟩ = some (.int .i64 (l.getD i zSp).c)
theorem StepsV.keep {w w' : World} {s : Option Addr} {l : List Sp} (h : StepsV w s l) (hb : Below w.heap.size w w') : StepsV w' s l := fun h0 => by
  obtain ⟨gs, os, e, hlt, hc⟩ := h h0
  refine ⟨gs, os, e, Nat.lt_of_lt_of_le hlt hb.size, fun i hi => ?_⟩
  obtain ⟨c0, c1, c2, c3, c4⟩ := hc i hi
  exact ⟨(hb.cell (p := ⟨gs, _, none⟩) hlt).trans c0, (hb.cell (p := ⟨gs, _, none⟩) hlt).trans c1, (hb.cell (p := ⟨gs, _, none⟩) hlt).trans c2, (hb.cell (p := ⟨gs, _, none⟩) hlt).trans c3, (hb.cell (p := ⟨gs, _, none⟩) hlt).trans c4⟩
theorem StepsV.kept {w w' : World} {b g bm : Nat} {s : Option Addr} {l : List Sp} (h : StepsV w s l) (hn : 0 < l.length → ∀ p, s = some p → p.block ≠ b ∧ p.block ≠ g ∧ p.block ≠ bm) (hk : Kept w w' b g bm) : StepsV w' s l := fun h0 => by
  obtain ⟨gs, os, e, hlt, hc⟩ := h h0
  obtain ⟨n1, n2, n3⟩ := hn h0 _ e
  refine ⟨gs, os, e, Nat.lt_of_lt_of_le hlt hk.size, fun i hi => ?_⟩
  obtain ⟨c0, c1, c2, c3, c4⟩ := hc i hi
  have hb := hk.block gs hlt n1 n2 n3
  exact ⟨(World.cell?_of_block hb).trans c0, (World.cell?_of_block hb).trans c1, (World.cell?_of_block hb).trans c2, (World.cell?_of_block hb).trans c3, (World.cell?_of_block hb).trans c4⟩
/-- What Heard gives. -/
def HdC (w : World) (bk : Nat) (hs : List Int) : Prop := Calls Tryd.prog 17 #[.pointer (some ⟨bk, 0, none⟩)] w fun e w' => ∃ sh ch, e = .returned (.slice sh hs.length ch) ∧ IntsV w' sh hs ∧ (∀ p, sh = some p → w.heap.size ≤ p.block ∧ p.block < w'.heap.size) ∧ Below w.heap.size w w'

/-- A recipe under way, in memory. -/
structure Rm (w0 w wr : World) (rb b g bm lim : Nat) (sh : Option Addr) (ch : Nat) (hs : List Int) (g' cap' : Nat) (v : Value) (L : List Nd) (Y : List Int) : Prop where
  st : St w0 wr b g' bm cap' lim L
  hg : g' = g ∨ rb < g'
  box : wr.heap[rb]? = some (.cells #[.pointer (some ⟨b, 0, none⟩), .slice sh hs.length ch, v] 98 (0, 0))
  own : wr.ownsRow (rb + 1) 3 1 v Y.length (Y.map (Value.int .i64))
  nog : ∀ q, v.ownBlock = some q → q ≠ g'
  ih : IntsV wr sh hs
  kp : Kept w wr b g bm
  f0 : w.heap.size ≤ rb
  f1 : b < w.heap.size ∧ g < w.heap.size ∧ bm < w.heap.size
  f2 : ∀ p, sh = some p → w.heap.size ≤ p.block ∧ p.block < rb
section
variable {w0 w wr w' : World} {rb b g bm lim : Nat} {sh : Option Addr} {ch : Nat} {hs : List Int} {g' cap' : Nat} {v : Value} {L : List Nd} {Y : List Int}
theorem Rm.keep (h : Rm w0 w wr rb b g bm lim sh ch hs g' cap' v L Y) (hb : Below wr.heap.size wr w') : Rm w0 w w' rb b g bm lim sh ch hs g' cap' v L Y :=
  ⟨h.st.keep hb, h.hg, (hb.block _ (lt_of_heap h.box)).trans h.box, ownsRow_same h.own (fun k hk => hb.block k (h.own.lt k hk).2), h.nog, h.ih.keep hb,
    ⟨hb.os.trans h.kp.os, hb.tape.trans h.kp.tape, hb.output.trans h.kp.output, Nat.le_trans h.kp.size hb.size, fun k hk n1 n2 n3 => (hb.block k (Nat.lt_of_lt_of_le hk h.kp.size)).trans (h.kp.block k hk n1 n2 n3)⟩, h.f0, h.f1, h.f2⟩
theorem Rm.exec (h : Rm w0 w wr rb b g bm lim sh ch hs g' cap' v L Y) {g2 cap2 : Nat} {L2 : List Nd} (hA : Ar w' b g2 bm cap2 lim L2) (hg2 : g2 = g' ∨ wr.heap.size ≤ g2) (hk : Kept wr w' b g' bm) : Rm w0 w w' rb b g bm lim sh ch hs g2 cap2 v L2 Y := by
  obtain ⟨f0, ⟨fb, fg, fm⟩, f2⟩ := And.intro h.f0 (And.intro h.f1 h.f2)
  have hrb := lt_of_heap h.box
  have hg := h.hg
  have hr : ∀ k, k < wr.heap.size → w.heap.size ≤ k → k ≠ g' → w'.heap[k]? = wr.heap[k]? := fun k hk1 hk2 hk3 => hk.block k hk1 (by omega) hk3 (by omega)
  refine ⟨h.st.step hA hg2 hk, by omega, (hr _ hrb f0 (by omega)).trans h.box, ownsRow_same h.own (fun k hk1 => ?_), fun q hq => ?_, fun h0 => ?_, ⟨hk.os.trans h.kp.os, hk.tape.trans h.kp.tape, hk.output.trans h.kp.output, Nat.le_trans h.kp.size hk.size, fun k hk1 n1 n2 n3 => ?_⟩, f0, ⟨fb, fg, fm⟩, f2⟩
  · obtain ⟨h1, h2⟩ := h.own.lt k hk1
    exact hr k h2 (by omega) (h.nog k hk1)
  · obtain ⟨h1, h2⟩ := h.own.lt q hq
    have h3 := h.nog q hq
    omega
  · obtain ⟨gl, ol, e, h1, h2⟩ := h.ih h0
    obtain ⟨h3, h4⟩ := f2 _ e
    have h3 : w.heap.size ≤ gl := h3
    have h4 : gl < rb := h4
    exact ⟨gl, ol, e, Nat.lt_of_lt_of_le h1 hk.size, h2.keep (hr gl h1 h3 (by omega))⟩
  · have hs1 := h.kp.size
    exact (hk.block k (by omega) n1 (by omega) n3).trans (h.kp.block k hk1 n1 n2 n3)
theorem Rm.app (h : Rm w0 w wr rb b g bm lim sh ch hs g' cap' v L Y) {x w4 : World} {v' : Value} {r : Int} (hb : Below wr.heap.size wr x) (hown : w4.ownsRow (rb + 1) 3 1 v' (Y.length + 1) (Y.map (Value.int .i64) ++ [.int .i64 r])) (hgr : x.grownBy w4 v.ownBlock) (hat : ∀ k, v'.ownBlock = some k → v.ownBlock = some k ∨ wr.heap.size ≤ k) :
    w4.cell? ⟨rb, 2, none⟩ = some v ∧ w4.frozen? ⟨rb, 2, none⟩ = false ∧ Hid (Rm w0 w (w4.setCell ⟨rb, 2, none⟩ v') rb b g bm lim sh ch hs g' cap' v' L (Y ++ [r])) := by
  obtain ⟨f0, ⟨fb, fg, fm⟩, f2⟩ := And.intro h.f0 (And.intro h.f1 h.f2)
  have hrb := lt_of_heap h.box
  have hg := h.hg
  have hsz := h.kp.size
  have hbs := hb.size
  have hgs := hgr.size
  have e4 : ∀ k, k < wr.heap.size → v.ownBlock ≠ some k → w4.heap[k]? = wr.heap[k]? := fun k hk hn => (hgr.block k (by omega) (fun e => hn e.symm)).trans (hb.block k hk)
  have hnb : ∀ k, k ≤ rb → v.ownBlock ≠ some k := fun k hk e => by have := (h.own.lt k e).1; omega
  have hbx : w4.heap[rb]? = some (.cells #[.pointer (some ⟨b, 0, none⟩), .slice sh hs.length ch, v] 98 (0, 0)) := (e4 rb hrb (hnb rb (Nat.le_refl _))).trans h.box
  have set : ∀ {k : Nat}, k ≠ rb → (w4.setCell ⟨rb, 2, none⟩ v').heap[k]? = w4.heap[k]? := fun hk => heap_setCell_other _ _ _ _ (by simpa using hk)
  have hnew : (w4.setCell ⟨rb, 2, none⟩ v').heap[rb]? = some (.cells #[.pointer (some ⟨b, 0, none⟩), .slice sh hs.length ch, v'] 98 (0, 0)) := by
    simp [World.setCell, hbx, Array.getElem?_modify]
  have all : ∀ k, k < wr.heap.size → v.ownBlock ≠ some k → k ≠ rb → (w4.setCell ⟨rb, 2, none⟩ v').heap[k]? = wr.heap[k]? := fun k hk hn hr => (set hr).trans (e4 k hk hn)
  have hglt := h.st.ar.glt
  refine ⟨(cell_of_row _ _ 2 _ _ _ hbx).trans rfl, frozen_of_row _ _ _ _ _ hbx, Lib.hid ?_⟩
  have hsize : wr.heap.size ≤ (w4.setCell ⟨rb, 2, none⟩ v').heap.size := by simp; omega
  have hA : Ar (w4.setCell ⟨rb, 2, none⟩ v') b g' bm cap' lim L := h.st.ar.keep (all b h.st.ar.blt (hnb b (by omega)) (by omega)) (all g' hglt (fun e => h.nog _ e rfl) (by omega)) (all bm h.st.ar.mlt (hnb bm (by omega)) (by omega))
  have hlen : (Y ++ [r]).length = Y.length + 1 := by simp
  have hkp : Kept w (w4.setCell ⟨rb, 2, none⟩ v') b g bm := ⟨(hgr.os.trans hb.os).trans h.kp.os, (hgr.tape.trans hb.tape).trans h.kp.tape, (hgr.output.trans hb.output).trans h.kp.output, by omega, fun k hk n1 n2 n3 => (all k (by omega) (hnb k (by omega)) (by omega)).trans (h.kp.block k hk n1 n2 n3)⟩
  have hbel : Below w0.heap.size w0 (w4.setCell ⟨rb, 2, none⟩ v') := by
    have hb0 := h.st.bel
    have hl0 : w0.heap.size ≤ rb := by have := h.st.hb; omega
    refine ⟨(hgr.os.trans hb.os).trans hb0.os, (hgr.tape.trans hb.tape).trans hb0.tape, (hgr.output.trans hb.output).trans hb0.output, by have := hb0.size; omega, fun k hk => (all k (by have := hb0.size; omega) (hnb k (by omega)) (by omega)).trans (hb0.block k hk)⟩
  refine ⟨⟨hA, hbel, h.st.hb, h.st.hg, h.st.hm⟩, hg, hnew, ?_, fun q hq => ?_, fun h0 => ?_, hkp, f0, ⟨fb, fg, fm⟩, f2⟩
  · rw [hlen, List.map_append]
    exact ownsRow_same hown (fun k hk => set (by have := (hown.lt k hk).1; omega))
  · rcases hat q hq with e | e
    · exact h.nog q e
    · omega
  · obtain ⟨gl, ol, e, h1, h2⟩ := h.ih h0
    obtain ⟨h3, h4⟩ := f2 _ e
    have h4 : gl < rb := h4
    exact ⟨gl, ol, e, by omega, h2.keep (all gl h1 (hnb gl (by omega)) (by omega))⟩
end

theorem mkL_err {lim : Nat} {L : List Nd} {d : Nd} (he : mkE lim L d ≠ 0) : mkL lim L d = L := by
  unfold mkE at he
  unfold mkL
  split at he
  · rename_i h
    rw [if_pos h]
    split at he
    · exact absurd rfl he
    · rename_i h2
      rw [if_neg h2]
      split at he
      · rename_i h3; rw [if_pos h3]
      · exact absurd rfl he
  · rename_i h; rw [if_neg h]
/-- A step that can't be changes nothing. -/
theorem stepY_err {lim : Nat} {H : List Int} {L : List Nd} {Y : List Int} {s : Sp} (he : (stepY lim H L Y s).e ≠ 0) : (stepY lim H L Y s).L = L := by
  unfold stepY at *
  split
  · rename_i h1
    rw [if_pos h1] at he
    split
    · rename_i h2
      rw [if_pos h2] at he
      generalize (pickL (srcS H Y s) (idx s)).getD 0 0 = x at *
      generalize (pickL (srcS H Y s) (idx s)).getD 1 0 = y at *
      generalize (pickL (srcS H Y s) (idx s)).getD 2 0 = z at *
      unfold doY at *
      by_cases h0 : s.op = 0
      · rw [if_pos h0]
      rw [if_neg h0] at he ⊢
      by_cases h1 : s.op = 1
      · rw [if_pos h1] at he ⊢; exact mkL_err (d := ⟨1, 4294967296 + s.n, 0, 0, 0⟩) he
      rw [if_neg h1] at he ⊢
      by_cases h3 : s.op = 3
      · rw [if_pos h3] at he ⊢
        unfold shY shE at he
        unfold shY shL
        simp only at he ⊢
        split at he
        · rename_i hb; rw [if_pos hb]; exact mkL_err he
        · rename_i hb; rw [if_neg hb]
      rw [if_neg h3] at he ⊢
      by_cases h10 : s.op = 10 ∨ s.op = 11 ∨ s.op = 12
      · rw [if_pos h10] at he ⊢
        unfold outY
        split
        · rfl
        · split
          · rfl
          · split <;> rfl
      rw [if_neg h10] at he ⊢
      by_cases h13 : s.op = 13
      · rw [if_pos h13]
      rw [if_neg h13] at he ⊢
      exact mkL_err (d := ⟨s.op, s.n, x, y, z⟩) he
    · rfl
  · rfl
theorem runY_drop {lim : Nat} {H : List Int} {l : List Sp} {k : Nat} (hk : k < l.length) (L : List Nd) (Y : List Int) : runY lim H (l.drop k) L Y k = if (stepY lim H L Y (l.getD k zSp)).e = 0 then runY lim H (l.drop (k + 1)) (stepY lim H L Y (l.getD k zSp)).L (Y ++ [(stepY lim H L Y (l.getD k zSp)).r]) (k + 1) else ⟨L, [], k, (stepY lim H L Y (l.getD k zSp)).e⟩ := by
  rw [List.drop_eq_getElem_cons hk, runY, List.getD_eq_getElem?_getD, List.getElem?_eq_getElem hk]; rfl
theorem Tryd.infoI4 : (Tryd.prog.info? 3).map (fun i => (i.zero, i.size, i.bytes)) = some (some (.int .i64 0), 1, 8) := by kernel_rfl
theorem own_sl {w : World} {B : Nat} {v : Value} {l : List Int} (h : w.ownsRow B 3 1 v l.length (l.map (Value.int .i64))) : ∃ s c, v = .slice s l.length c ∧ IntsV w s l ∧ ∀ p, s = some p → v.ownBlock = some p.block ∧ B ≤ p.block := by
  rcases own_form h with ⟨s, c, rfl⟩
  refine ⟨s, c, rfl, ?_, fun p hp => ?_⟩
  · intro h0
    rcases h.2 with ⟨e, e0⟩ | ⟨g, cap, cur, e, _⟩
    · omega
    · have e1 : s = some ⟨g, 0, none⟩ := by injection e
      subst e1
      refine ⟨g, 0, rfl, (h.lt g rfl).2, fun i hi => ?_⟩
      rw [Nat.zero_add, World.ownsRow.cellAt h i (by omega), List.getElem?_map, List.getElem?_eq_getElem hi, List.getD_eq_getElem?_getD, List.getElem?_eq_getElem hi]; rfl
  · subst hp
    have e : Value.ownBlock (.slice (some p) l.length c) = some p.block := rfl
    exact ⟨e, (h.lt _ e).1⟩
set_option maxRecDepth 100000 in
set_option maxHeartbeats 8000000 in
theorem run_any {w0 w : World} {bk b g bm cap lim : Nat} {L : List Nd} {hs : List Int} (sl : Option Addr) (cl : Nat) (l : List Sp) (hSt : St w0 w b g bm cap lim L) (hsh : Shp w0) (hS : Rsh w0) (hH : HdC w bk hs) (hin : ∀ x ∈ hs, hasB L.length x = true) (hl : StepsV w sl l) (hln : 0 < l.length → ∀ p, sl = some p → p.block ≠ b ∧ p.block ≠ g ∧ p.block ≠ bm) (hll : l.length ≤ 1000) :
    Calls Tryd.prog 25 #[.pointer (some ⟨b, 0, none⟩), .pointer (some ⟨bk, 0, none⟩), .slice sl l.length cl] w fun e w' => ∃ sy cy g' cap', e = .returned (.tuple #[.slice sy (runY lim hs l L [] 0).Y.length cy, .int .i64 (runY lim hs l L [] 0).i, .int .i64 (runY lim hs l L [] 0).e]) ∧ St w0 w' b g' bm cap' lim (runY lim hs l L [] 0).L ∧ IntsV w' sy (runY lim hs l L [] 0).Y ∧ (∀ p, sy = some p → w.heap.size ≤ p.block ∧ p.block ≠ g') ∧ (g' = g ∨ w.heap.size ≤ g') ∧ Kept w w' b g bm := by
  unfold HdC at hH
  have HH := Lib.hid hH
  have HL := Lib.hid hl
  have HT := Lib.hid hSt
  have HLN := Lib.hid hln
  obtain ⟨i0, hi0, hz0, hz1, hz2⟩ := info_parts Tryd.infoI4
  clear hH hl hSt hln
  go_enter Tryd.func25, Tryd.ntmps25
  go_wp2_with (go_at_call 17; refine HH.out.mono ?_; rintro e w1 ⟨sh, ch, rfl, hi1, hap, hb1⟩)
  have HRB : Hid (Rm w0 w (w1.alloc (.cells #[.pointer (some ⟨b, 0, none⟩), .slice sh hs.length ch, .slice none 0 0] 98)) w1.heap.size b g bm lim sh ch hs g cap (.slice none 0 0) L []) := Lib.hid (by
    have hba := hb1.alloc hb1.size (.cells #[.pointer (some ⟨b, 0, none⟩), .slice sh hs.length ch, .slice none 0 0] 98)
    have h0 := HT.out
    have f1 := h0.ar.blt
    have f2 := h0.ar.glt
    have f3 := h0.ar.mlt
    refine ⟨h0.keep hba, .inl rfl, heap_alloc_new w1 _, World.ownsRow_nil _ _ _ _, fun q hq => (by cases hq), hi1.keep ((Below.refl _ _).alloc (Nat.le_refl _) _), Kept.of hba, hb1.size, ⟨f1, f2, f3⟩, hap⟩)
  clear hi1 hap HH
  generalize hrb : w1.heap.size = rb at *
  go_loopg [10, 11, 20] l.length (fun q _ _ u20 wr => ∃ k : Nat, k + q = l.length ∧ u20 = .int .i64 k ∧ ∃ g' cap' v Lk Yk, Aside (Rm w0 w wr rb b g bm lim sh ch hs g' cap' v Lk Yk ∧ runY lim hs l L [] 0 = runY lim hs (l.drop k) Lk Yk k ∧ Yk.length = k ∧ (∀ x ∈ hs, hasB Lk.length x = true) ∧ (∀ x ∈ Yk, hasB Lk.length x = true)))
  case atStart => exact ⟨0, by omega, rfl, g, cap, _, L, [], ⟨HRB.out, rfl, rfl, hin, fun x hx => by cases hx⟩⟩
  case round =>
    obtain ⟨k, hkq, rfl, g', cap', v, Lk, Yk, hAs⟩ := hrel
    obtain ⟨hM, hrun, hlen, hinL, hinY⟩ := hAs.out
    clear hAs
    obtain ⟨sy, cy, rfl, hiv, hsyo⟩ := own_sl hM.own
    by_cases hlt : k < l.length
    · obtain ⟨s, hs0⟩ : ∃ s, s = l.getD k zSp := ⟨_, rfl⟩
      rw [runY_drop hlt, ← hs0] at hrun
      obtain ⟨gs, os, rfl, hgs, hcs⟩ := HL.out.kept HLN.out hM.kp (by omega)
      obtain ⟨x0, x1, x2, x3, x4⟩ := hcs k hlt
      rw [← hs0] at x0 x1 x2 x3 x4
      have HM := Lib.hid hM
      have HEX : Hid (∀ w2, Below wr.heap.size wr w2 → Calls Tryd.prog 48 #[.pointer (some ⟨rb, 0, none⟩), aggS s] w2 (ExPost b g' bm lim (stepY lim hs Lk Yk s) w2)) := Lib.hid (fun w2 hb2 => by
        have h2 := HM.out.keep hb2
        have h3 := h2.f1
        have h4 := h2.f0
        have hr : Rb w2 rb b sh ch sy cy hs Yk := ⟨(cell_of_row _ _ 0 _ _ _ h2.box).trans rfl, (cell_of_row _ _ 1 _ _ _ h2.box).trans rfl, (cell_of_row _ _ 2 _ _ _ h2.box).trans rfl, h2.ih, hiv.keep hb2⟩
        have hg2 := h2.hg
        exact execute_any s w2 h2.st.ar hr (hS.below h2.st.bel) (hsh.below h2.st.bel) hinL hinY ⟨by omega, by omega, by omega⟩)
      have hltk : (k : Int) < l.length := by omega
      have hkl : k < l.length := hlt
      obtain ⟨y, hy⟩ : ∃ y, y = stepY lim hs Lk Yk s := ⟨_, rfl⟩
      have HGR : Hid (y.e = 0 → (∀ x ∈ hs, hasB y.L.length x = true) ∧ ∀ x ∈ Yk ++ [y.r], hasB y.L.length x = true) := Lib.hid (fun he => by
        rw [hy] at he ⊢
        obtain ⟨⟨M, hM9⟩, _, h9, _⟩ := stepY_grow hM.st.ar.wf hM.st.ar.small hinL hinY s he
        refine ⟨fun x hx => ?_, fun x hx => ?_⟩
        · rw [hM9]; exact has_ext (hinL x hx)
        · rcases List.mem_append.1 hx with h | h
          · rw [hM9]; exact has_ext (hinY x h)
          · rw [List.mem_singleton.1 h]; exact h9)
      have HLR : Hid (y.e ≠ 0 → y.L = Lk) := Lib.hid (fun he => by rw [hy] at he ⊢; exact stepY_err he)
      rw [← hy] at HEX hrun
      have HRUN := Lib.hid hrun
      have HHS := Lib.hid hs0
      have HY := Lib.hid hy
      have HIL := Lib.hid hinL
      have HIY := Lib.hid hinY
      have HLEN := Lib.hid hlen
      obtain ⟨op, n, a, b', c⟩ := s
      simp only at x0 x1 x2 x3 x4
      unfold aggS at HEX
      simp only at HEX
      clear hrun hs0 hy hinL hinY hiv hM hcs hsyo hlen
      clear HY
      obtain ⟨L2, r2, e2⟩ := y
      simp only at HEX HRUN HGR HLR
      by_cases he : e2 = 0
      · subst he
        rw [if_pos rfl] at HRUN
        have hlen9 : Yk.length ≤ 1000 := by have := HLEN.out; omega
        have HL9 := Lib.hid hlen9
        clear hlen9
        go_wp2_with (first
          | (go_at_call 48; refine (HEX.out _ ((Below.refl _ _).alloc (Nat.le_refl _) _)).mono ?_; rintro e w2 ⟨g2, cap2, rfl, hA2, hg2, hk2⟩; have HM2 := Lib.hid ((HM.out.keep ((Below.refl _ _).alloc (Nat.le_refl _) (.cells #[.int .i64 op, .int .u64 n, .int .i64 a, .int .i64 b', .int .i64 c] 60))).exec hA2 hg2 hk2); clear hA2 hg2 hk2; have z2 := (cell_of_row _ _ 2 _ _ _ HM2.out.box).trans rfl; have HO2 := Lib.hid HM2.out.own)
          | (at_builtin; refine wpList_append_lies _ rfl _ _ 23 rfl (rb + 1) 3 i0 (.int .i64 0) 1 8 Tryd.underlying23 hi0 hz0 hz1 hz2 rfl (by decide) _ _ _ rfl (HO2.out.alloc _) ⟨w2.heap.size, 0, none⟩ 1 1 [.int .i64 r2] rfl rfl ?c1 ?c2 (by decide) ?c3 ?c4 ?c5 _ rfl ?_))
        case c1 =>
          intro j u hj
          match j, hj with
          | 0, hj => simp at hj; subst hj; simp [Addr.add]
        case c2 => intro u hu; simp at hu; subst hu; rfl
        case c3 => have := HL9.out; unfold maxLen; omega
        case c4 => have := HL9.out; omega
        case c5 => have h1 := lt_of_heap HM2.out.box; simp; omega
        intro g9 cap9 w7 hown7 hgr7 hat7 hlt7
        obtain ⟨y7, f7, HN7⟩ := HM2.out.app ((Below.refl _ _).alloc (Nat.le_refl _) _) hown7 hgr7 (fun q hq => by
          have hq : some g9 = some q := hq
          obtain rfl := Option.some.inj hq
          rcases hat7 with e | e
          · exact .inl e
          · exact .inr (by rw [e]; simp))
        clear hown7 hgr7 hat7 z2
        go_wp2_with fail
        go_roundg (l.length - (k + 1))
        case rel => exact ⟨k + 1, by omega, by simp, g2, cap2, _, L2, Yk ++ [r2], ⟨HN7.out, HRUN.out, by rw [List.length_append, HLEN.out]; rfl, (HGR.out (by trivial)).1, (HGR.out (by trivial)).2⟩⟩
        case measure => omega
      · rw [if_neg he] at HRUN
        have hne : (e2 != 0) = true := by simpa using he
        have HE := Lib.hid he
        clear he
        go_wp2_with (go_at_call 48; refine (HEX.out _ ((Below.refl _ _).alloc (Nat.le_refl _) _)).mono ?_; rintro e w2 ⟨g2, cap2, rfl, hA2, hg2, hk2⟩; have HM2 := Lib.hid ((HM.out.keep ((Below.refl _ _).alloc (Nat.le_refl _) (.cells #[.int .i64 op, .int .u64 n, .int .i64 a, .int .i64 b', .int .i64 c] 60))).exec hA2 hg2 hk2); clear hA2 hg2 hk2)
        go_ret3
        rw [HRUN.out]
        refine ⟨none, 0, g2, cap2, rfl, ?_⟩
        have hm := HM2.out
        have hf := hm.f0
        have hg9 := hm.hg
        obtain rfl := HLR.out HE.out
        exact ⟨hm.st, fun h0 => absurd h0 (Nat.lt_irrefl 0), fun p hp => (by cases hp), by omega, hm.kp⟩
    · obtain rfl : k = l.length := by omega
      have c2 := (cell_of_row _ _ 2 _ _ _ hM.box).trans rfl
      rw [List.drop_length, runY] at hrun
      have HM := Lib.hid hM
      have HRUN := Lib.hid hrun
      clear hM hrun hinL hinY hlen
      have HIV := Lib.hid hiv
      have HSO := Lib.hid hsyo
      clear hiv hsyo
      go_wp2_with fail
      go_ret3
      rw [HRUN.out]
      have hm := HM.out
      have hf := hm.f0
      have hg9 := hm.hg
      exact ⟨sy, cy, g', cap', rfl, hm.st, HIV.out, fun p hp => ⟨by have := (HSO.out p hp).2; omega, hm.nog _ (HSO.out p hp).1⟩, by omega, hm.kp⟩
end Go.Proofs.YtlckajnbmkkpeaaDoor
