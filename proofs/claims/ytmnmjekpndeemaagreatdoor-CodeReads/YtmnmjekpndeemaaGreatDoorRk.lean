/- The walk of a term that is carried over (carry). -/
import Derived.Test.YtmnmjekpndeemaaGreatDoorRj
namespace Go.Proofs.YtmnmjekpndeemaaGreatDoor
open Go.RowKit Go.Maps Go.Shelf

def CrPost (b g bm lim : Nat) (L own : List Nd) (ref : Int) (w : World) (e : Ending) (w' : World) : Prop :=
  ∃ g' cap', e = .returned (.tuple #[.int .i64 (if (carry lim L own ref).2.2 = 0 then ((carry lim L own ref).2.1 ref).getD 0 else 0), .int .i64 (carry lim L own ref).2.2]) ∧ Ar w' b g' bm cap' lim (carry lim L own ref).1 ∧ (g' = g ∨ w.heap.size ≤ g') ∧ Kept w w' b g bm

theorem Kept.on {w w1 w2 : World} {b g bm g' : Nat} (h : Kept w w1 b g bm) (hg : g' = g ∨ w.heap.size ≤ g') (h' : Kept w1 w2 b g' bm) : Kept w w2 b g bm :=
  ⟨h'.os.trans h.os, h'.tape.trans h.tape, h'.output.trans h.output, Nat.le_trans h.size h'.size, fun k hk n1 n2 n3 => by
    rw [h'.block k (Nat.lt_of_lt_of_le hk h.size) n1 (by rcases hg with e | e; rw [e]; exact n2; omega) n3]
    exact h.block k hk n1 n2 n3⟩
theorem Kept.map {w w' : World} {b g bm cap lim : Nat} {L : List Nd} (hA : Ar w b g bm cap lim L) (hk : Kept w w' b g bm) {m n : Nat} {f : Int → Option Int} (hm : MapZ w m n f) (hne : m ≠ bm) : MapZ w' m n f := by
  obtain ⟨es, c, he⟩ := hm.obj
  refine hm.keep (hk.block m hm.lt ?_ ?_ hne)
  · rintro rfl; rw [hA.box] at he; cases he
  · rintro rfl
    obtain ⟨c', fz, hc⟩ := Lib.ownsRow_kind hA.own m rfl
    rw [hc] at he; cases he

/-- The loop's relation: what lies where. -/
structure Cl (w0 w wr : World) (b1 g1 bm1 cap1 lim1 b g bm lim m : Nat) (own L : List Nd) (f : Int → Option Int) (v : Value) (R : List Int) (gk cap n : Nat) : Prop where
  st : St w0 wr b gk bm cap lim L
  ar1 : Ar wr b1 g1 bm1 cap1 lim1 own
  hg : gk = g ∨ w.heap.size ≤ gk
  kept : Kept w wr b g bm
  mp : MapZ wr m n f
  rng : ∀ y x, f y = some x → 0 ≤ x ∧ x ≤ 65536
  row : wr.ownsRow w.heap.size 3 1 v R.length (R.map (Value.int .i64))
  mge : w.heap.size ≤ m

/-- What the carried term's arena is to the other one: apart. -/
structure Apart3 (w : World) (b1 g1 bm1 b g bm : Nat) : Prop where
  x1 : b1 ≠ b ∧ b1 ≠ g ∧ b1 ≠ bm
  x2 : g1 ≠ b ∧ g1 ≠ g ∧ g1 ≠ bm
  x3 : bm1 ≠ b ∧ bm1 ≠ g ∧ bm1 ≠ bm
  l1 : b1 < w.heap.size
  l2 : g1 < w.heap.size
  l3 : bm1 < w.heap.size
  l4 : bm < w.heap.size
theorem Ar.apart {w w' : World} {b1 g1 bm1 cap1 lim1 b g bm : Nat} {own : List Nd} (h : Ar w b1 g1 bm1 cap1 lim1 own) (ha : Apart3 w b1 g1 bm1 b g bm) (hk : Kept w w' b g bm) : Ar w' b1 g1 bm1 cap1 lim1 own :=
  h.keep (hk.block _ ha.l1 ha.x1.1 ha.x1.2.1 ha.x1.2.2) (hk.block _ ha.l2 ha.x2.1 ha.x2.2.1 ha.x2.2.2) (hk.block _ ha.l3 ha.x3.1 ha.x3.2.1 ha.x3.2.2)

section
variable {w0 w wr w' : World} {b1 g1 bm1 cap1 lim1 b g bm lim m gk cap n : Nat} {own L : List Nd} {f : Int → Option Int} {v : Value} {R : List Int}
theorem Cl.keep (h : Cl w0 w wr b1 g1 bm1 cap1 lim1 b g bm lim m own L f v R gk cap n) (hb : Below wr.heap.size wr w') : Cl w0 w w' b1 g1 bm1 cap1 lim1 b g bm lim m own L f v R gk cap n :=
  ⟨h.st.keep hb, h.ar1.below hb, h.hg, h.kept.on (.inl rfl) (Kept.of hb), h.mp.keep (hb.block _ h.mp.lt), h.rng, row_below h.row hb, h.mge⟩
/-- A node is made. -/
theorem Cl.made (h : Cl w0 w wr b1 g1 bm1 cap1 lim1 b g bm lim m own L f v R gk cap n) (hA0 : Ar w b1 g1 bm1 cap1 lim1 own) (ha : Apart3 w b1 g1 bm1 b g bm) {M : List Nd} {g' cap' : Nat} (hA : Ar w' b g' bm cap' lim M) (hg : g' = gk ∨ wr.heap.size ≤ g') (hk : Kept wr w' b gk bm) :
    Cl w0 w w' b1 g1 bm1 cap1 lim1 b g bm lim m own M f v R g' cap' n := by
  have hk2 := h.kept.on h.hg hk
  have hs := h.kept.size
  refine ⟨h.st.step hA hg hk, hA0.apart ha hk2, ?_, hk2, Kept.map h.st.ar hk h.mp (by have := h.mge; have := ha.l4; omega), h.rng, Kept.row h.st.ar hk h.row, h.mge⟩
  rcases hg with e | e
  · rw [e]; exact h.hg
  · exact .inr (by omega)
/-- The map is told of it. -/
theorem Cl.told (h : Cl w0 w wr b1 g1 bm1 cap1 lim1 b g bm lim m own L f v R gk cap n) (hw0 : w0.heap.size ≤ w.heap.size) (hA0 : Ar w b1 g1 bm1 cap1 lim1 own) (ha : Apart3 w b1 g1 bm1 b g bm) {x r : Int} (hr : 0 ≤ r ∧ r ≤ 65536) (hm : MapZ w' m (n + 1) (fun y => if y = x then some r else f y)) (ht : wr.mapTurned w' m) :
    Cl w0 w w' b1 g1 bm1 cap1 lim1 b g bm lim m own L (put1 f x r) v R gk cap (n + 1) := by
  have hg := ht.grown
  obtain ⟨es, c, hobj⟩ := h.mp.obj
  have ne : ∀ {k : Nat} {u : Array Value} {t : TypeId} {z : Nat × Nat}, wr.heap[k]? = some (.cells u t z) → k ≠ m := fun hk e => by subst e; rw [hk] at hobj; cases hobj
  have hbm : bm ≠ m := by have := h.mge; have := ha.l4; omega
  have hk : Kept w w' b g bm := ⟨hg.os.trans h.kept.os, hg.tape.trans h.kept.tape, hg.output.trans h.kept.output, Nat.le_trans h.kept.size hg.size, fun k hk n1 n2 n3 => by
    rw [hg.block k (Nat.lt_of_lt_of_le hk h.kept.size) (by have := h.mge; simp; omega)]
    exact h.kept.block k hk n1 n2 n3⟩
  obtain ⟨cg, fz, hcg⟩ := Lib.ownsRow_kind h.st.ar.own gk rfl
  refine ⟨⟨h.st.ar.keep (hg.block _ h.st.ar.blt (by simpa using ne h.st.ar.box)) (hg.block _ h.st.ar.glt (by simpa using ne hcg)) (hg.block _ h.st.ar.mlt (by simpa using hbm)), ?_, h.st.hb, h.st.hg, h.st.hm⟩, hA0.apart ha hk, h.hg, hk, hm, ?_, ?_, h.mge⟩
  · exact h.st.bel.grown hg h.st.bel.size (fun k e => by simp at e; have := h.mge; omega)
  · intro y z hz
    unfold put1 at hz
    split at hz
    · obtain rfl := Option.some.inj hz; exact hr
    · exact h.rng y z hz
  · refine h.row.kept hg (.inr fun e => ?_)
    obtain ⟨c', fz', hc⟩ := Lib.ownsRow_kind h.row m e
    rw [hobj] at hc; cases hc
end

theorem ownsRow_mono {w : World} {B B' n : Nat} {t : TypeId} {z : Nat} {v : Value} {xs : List Value} (h : w.ownsRow B' t z v n xs) (hB : B ≤ B') : w.ownsRow B t z v n xs := by
  obtain ⟨e, h'⟩ := h
  refine ⟨e, ?_⟩
  rcases h' with h' | ⟨g, cap, cur, hv, hb, rest⟩
  · exact .inl h'
  · exact .inr ⟨g, cap, cur, hv, Nat.le_trans hB hb, rest⟩
theorem cnode_ok {own : List Nd} (hw : WF own) {f : Int → Option Int} (hf : ∀ y x, f y = some x → 0 ≤ x ∧ x ≤ 65536) {x : Nat} (hx : x < own.length) : (cnode own f x).ok := by
  have h := hw.ok x hx
  have hv : ∀ y, i64ok ((f y).getD 0) := fun y => by
    cases e : f y with
    | none => simp [i64ok]
    | some z => have := hf y z e; simp only [Option.getD_some]; unfold i64ok; omega
  exact ⟨h.1, h.2.1, hv _, hv _, hv _⟩
theorem f0_rng : ∀ y x, f0 y = some x → 0 ≤ x ∧ x ≤ 65536 := by
  intro y x h
  unfold f0 at h
  split at h
  · obtain rfl := Option.some.inj h; omega
  · cases h
theorem car_cons {lim : Nat} {own L : List Nd} {f : Int → Option Int} {x : Int} {t : List Int} {tot : List Nd × (Int → Option Int) × Int} (h : car lim own (x :: t) L f = tot) (he : mkE lim L (cnode own f x) = 0) : car lim own t (mkL lim L (cnode own f x)) (put1 f x (mkR lim L (cnode own f x))) = tot := by
  rw [← h, car, if_pos he]

set_option maxRecDepth 100000 in
set_option maxHeartbeats 2000000 in
theorem carry_any {w0 : World} {b1 g1 bm1 cap1 lim1 b g bm cap lim : Nat} {own L : List Nd} (ref : Int) (hr : i64ok ref) (w : World) (hE : Env w0) (hS : St w0 w b g bm cap lim L) (hA1 : Ar w b1 g1 bm1 cap1 lim1 own) (ha : Apart3 w b1 g1 bm1 b g bm) :
    Calls Tryz.prog 18 #[.pointer (some ⟨b1, 0, none⟩), .int .i64 ref, .pointer (some ⟨b, 0, none⟩)] w (CrPost b g bm lim L own ref w) := by
  have hmm := @run_makeMap Tryz.prog
  obtain ⟨w1, hrun, hmap, hturn⟩ := (MapZ.made w).store (x := 0) (v := 0) (by unfold maxLen; omega) (by unfold i64ok; omega) (by unfold i64ok; omega)
  have hg1 := hturn.grown
  have hb1 : Below w.heap.size w w1 := ((Below.refl _ _).alloc (Nat.le_refl _) _).grown hg1 (by simp) (fun k e => by simp at e; omega)
  have hS1 := hS.keep hb1
  have hRW := rowsF_any (L := own) ref hr w1 (hE.below hS1.bel) (hA1.below hb1)
  have HRW := Lib.hid hRW
  have hwf := hA1.wf
  have hacc := rows_acc hwf ref
  have hRl := Nat.le_trans hacc.len hA1.small
  obtain ⟨R, hR⟩ : ∃ R, R = rows own ref := ⟨_, rfl⟩
  rw [← hR] at HRW hacc hRl
  obtain ⟨tot, htot⟩ : ∃ t, t = carry lim L own ref := ⟨_, rfl⟩
  have HTOT : Hid (car lim own R L f0 = tot) := Lib.hid (by rw [htot, hR]; rfl)
  have HPO : Hid (∀ e w', (∃ g' cap', e = .returned (.tuple #[.int .i64 (if tot.2.2 = 0 then (tot.2.1 ref).getD 0 else 0), .int .i64 tot.2.2]) ∧ Ar w' b g' bm cap' lim tot.1 ∧ (g' = g ∨ w.heap.size ≤ g') ∧ Kept w w' b g bm) → CrPost b g bm lim L own ref w e w') := Lib.hid (fun e w' h => by unfold CrPost; rw [← htot]; exact h)
  have HCL : Hid (∀ v w2, w2.ownsRow w1.heap.size 3 1 v R.length (R.map (Value.int .i64)) → Below w1.heap.size w1 w2 → Cl w0 w w2 b1 g1 bm1 cap1 lim1 b g bm lim w.heap.size own L f0 v R g cap 1) := Lib.hid (fun v w2 ho hb2 => by
    have h2 : Below w.heap.size w w2 := hb1.trans (hb2.mono hb1.size)
    exact ⟨hS.keep h2, hA1.below h2, .inl rfl, Kept.of h2, hmap.keep (hb2.block _ hmap.lt), f0_rng, ownsRow_mono ho hb1.size, Nat.le_refl _⟩)
  have HW0 := Lib.hid hS.bel.size
  have HA1 := Lib.hid hA1
  have HAP := Lib.hid ha
  have HE := Lib.hid hE
  have HACC := Lib.hid hacc
  have HWF := Lib.hid hwf
  have hcx := HA1.out.small
  clear hturn hmap hg1 hb1 hS1 hRW hE hS hA1 ha hacc hwf hR htot
  go_enter Tryz.func18, Tryz.ntmps18
  go_wp2_with (go_at_call 27; refine HRW.out.mono ?_; rintro e w2 ⟨v, rfl, ho, hb2⟩; obtain ⟨sp, cp, rfl⟩ := own_slice ho)
  have hcl := HCL.out _ w2 ho hb2
  have HC0 := Lib.hid hcl
  obtain ⟨m, hme⟩ : ∃ m, m = w.heap.size := ⟨_, rfl⟩
  rw [← hme] at HC0
  rw [← hme]
  have HME := Lib.hid hme
  clear hcl ho hb2 HCL HRW hrun hme
  go_loopg [10, 11, 12, 13, 14, 21] R.length (fun q _ _ _ _ _ u21 wr => ∃ (k : Nat) (M : List Nd) (f : Int → Option Int) (gk ck n : Nat), k + q = R.length ∧ u21 = .int .i64 k ∧ car lim own (R.drop k) M f = tot ∧ n = k + 1 ∧ Cl w0 w wr b1 g1 bm1 cap1 lim1 b g bm lim m own M f (.slice sp R.length cp) R gk ck n)
  case atStart => exact ⟨0, L, f0, g, cap, 1, by omega, rfl, HTOT.out, rfl, HC0.out⟩
  case round =>
    obtain ⟨k, M, f, gk, ck, n, hkq, rfl, hct, hn, hcl⟩ := hrel
    by_cases hlt : k < R.length
    · have hx := List.getElem_mem hlt
      obtain ⟨i, hi⟩ : ∃ i : Nat, R[k] = (i : Int) := ⟨R[k].toNat, by have := hasB_iff.1 (HACC.out.has _ hx); omega⟩
      rw [hi] at hx
      have hil : i < own.length := by have := hasB_iff.1 (HACC.out.has _ hx); omega
      obtain ⟨gr, rfl⟩ : ∃ gr, sp = some ⟨gr, 0, none⟩ := by
        rcases hcl.row.2 with ⟨h1, h2⟩ | ⟨gr, _, _, h1, _⟩
        · omega
        · exact ⟨gr, by injection h1⟩
      have cX : wr.cell? ⟨gr, k, none⟩ = some (.int .i64 (i : Int)) := by
        rw [hcl.row.cellAt k (by omega)]
        simp [hlt, hi]
      have hdr : R.drop k = (i : Int) :: R.drop (k + 1) := by rw [List.drop_eq_getElem_cons hlt, hi]
      rw [hdr] at hct
      have hG := get_yes b1 g1 bm1 cap1 lim1 own i hil wr hcl.ar1
      have hdok := cnode_ok HWF.out hcl.rng hil
      have hdo := HWF.out.ok i hil
      have hcd : cnode own f (i : Int) = ⟨(own.getD i zN).k, (own.getD i zN).n, (f (own.getD i zN).a).getD 0, (f (own.getD i zN).b).getD 0, (f (own.getD i zN).c).getD 0⟩ := rfl
      obtain ⟨d, hd⟩ : ∃ d, d = own.getD i zN := ⟨_, rfl⟩
      rw [← hd] at hG hcd hdo
      obtain ⟨k1, n1, a1, b2, c1⟩ := d
      simp only at hcd
      rw [hcd] at hdok
      have HLK : Hid (∀ w3, Below wr.heap.size wr w3 → (Instr.lookup 63 (.map (some m)) (.int .i64 a1) false).run Tryz.prog w3 = .ok (.int .i64 ((f a1).getD 0)) w3 ∧ (Instr.lookup 63 (.map (some m)) (.int .i64 b2) false).run Tryz.prog w3 = .ok (.int .i64 ((f b2).getD 0)) w3 ∧ (Instr.lookup 63 (.map (some m)) (.int .i64 c1) false).run Tryz.prog w3 = .ok (.int .i64 ((f c1).getD 0)) w3) := Lib.hid (fun w3 h => by
        have hm := (hcl.keep h).mp
        exact ⟨hm.look1 hdo.2.2.1, hm.look1 hdo.2.2.2.1, hm.look1 hdo.2.2.2.2⟩)
      obtain ⟨ya, hya⟩ : ∃ y, y = (f a1).getD 0 := ⟨_, rfl⟩
      obtain ⟨yb, hyb⟩ : ∃ y, y = (f b2).getD 0 := ⟨_, rfl⟩
      obtain ⟨yc, hyc⟩ : ∃ y, y = (f c1).getD 0 := ⟨_, rfl⟩
      rw [← hya, ← hyb, ← hyc] at HLK hdok hcd
      unfold agg at hG
      simp only at hG
      have HG := Lib.hid hG
      have HMK : Hid (∀ w3, Below wr.heap.size wr w3 → Calls Tryz.prog 14 #[.pointer (some ⟨b, 0, none⟩), .agg #[.int .i64 k1, .int .u64 n1, .int .i64 ya, .int .i64 yb, .int .i64 yc]] w3 (MkPost b gk bm lim M ⟨k1, n1, ya, yb, yc⟩ w3)) := Lib.hid (fun w3 h => by
        have h2 := (hcl.keep h).st
        exact mk_any b gk bm ck lim M k1 n1 ya yb yc w3 h2.ar (h2.shp HE.out.shp) hdok)
      have HCL := Lib.hid hcl
      have hgl := World.block_lt_of_cell? wr ⟨gr, k, none⟩ cX
      have HCT := Lib.hid hct
      have HCD := Lib.hid hcd
      have HN := Lib.hid hn
      have HOK := Lib.hid hdok
      clear hG hd hdo hdok hcd hya hyb hyc hct hcl hx hi hdr hn
      go_wp2_with (go_at_call 20; refine HG.out.mono ?_; rintro e w3 ⟨rfl, hb3⟩)
      have l1 : ∀ o, (Instr.lookup 63 (.map (some m)) (.int .i64 a1) false).run Tryz.prog (w3.alloc o).drew = .ok (.int .i64 ya) (w3.alloc o).drew := fun o => (HLK.out (w3.alloc o).drew (hb3.alloc hb3.size _).drew).1
      have l2 : ∀ o, (Instr.lookup 63 (.map (some m)) (.int .i64 b2) false).run Tryz.prog (w3.alloc o).drew = .ok (.int .i64 yb) (w3.alloc o).drew := fun o => (HLK.out (w3.alloc o).drew (hb3.alloc hb3.size _).drew).2.1
      have l3 : ∀ o, (Instr.lookup 63 (.map (some m)) (.int .i64 c1) false).run Tryz.prog (w3.alloc o).drew = .ok (.int .i64 yc) (w3.alloc o).drew := fun o => (HLK.out (w3.alloc o).drew (hb3.alloc hb3.size _).drew).2.2
      have HB3 := Lib.hid hb3
      clear hb3
      have HBX : Hid (Below wr.heap.size wr (w3.alloc (.cells #[.int .i64 k1, .int .u64 n1, .int .i64 ya, .int .i64 yb, .int .i64 yc] 44)).drew) := Lib.hid (HB3.out.alloc HB3.out.size _).drew
      go_region
      by_cases he : mkE lim M ⟨k1, n1, ya, yb, yc⟩ = 0
      · have HUP : Hid (∀ w4 g' cap', Ar w4 b g' bm cap' lim (mkL lim M ⟨k1, n1, ya, yb, yc⟩) → (g' = gk ∨ (w3.alloc (.cells #[.int .i64 k1, .int .u64 n1, .int .i64 ya, .int .i64 yb, .int .i64 yc] 44)).drew.heap.size ≤ g') → Kept (w3.alloc (.cells #[.int .i64 k1, .int .u64 n1, .int .i64 ya, .int .i64 yb, .int .i64 yc] 44)).drew w4 b gk bm → ∃ w5, (Instr.mapUpdate 63 (.map (some m)) (.int .i64 (i : Int)) (.int .i64 (mkR lim M ⟨k1, n1, ya, yb, yc⟩))).run Tryz.prog w4 = .ok () w5 ∧ Cl w0 w w5 b1 g1 bm1 cap1 lim1 b g bm lim m own (mkL lim M ⟨k1, n1, ya, yb, yc⟩) (put1 f (i : Int) (mkR lim M ⟨k1, n1, ya, yb, yc⟩)) (.slice (some ⟨gr, 0, none⟩) R.length cp) R g' cap' (n + 1)) := Lib.hid (fun w4 g' cap' hA4 hg4 hk4 => by
          have h3 := HCL.out.keep HBX.out
          have h4 := h3.made HA1.out HAP.out hA4 hg4 hk4
          have hrr := mkR_ok (d := ⟨k1, n1, ya, yb, yc⟩) h3.st.ar.wf HOK.out h3.st.ar.len h3.st.ar.max
          obtain ⟨w5, hup, hm5, ht5⟩ := h4.mp.store (by have := HN.out; unfold maxLen; omega) (x := (i : Int)) (v := mkR lim M ⟨k1, n1, ya, yb, yc⟩) (by unfold i64ok; omega) (by unfold i64ok; omega)
          exact ⟨w5, hup, h4.told HW0.out HA1.out HAP.out hrr hm5 ht5⟩)
        have HE0 := Lib.hid he
        clear he l1 l2 l3 cX
        go_wp2_with (go_at_call 14; refine (HMK.out _ HBX.out).mono ?_; rintro e w4 ⟨g', cap', rfl, hA4, hg4, hk4⟩; obtain ⟨w5, hup, hcl5⟩ := HUP.out w4 g' cap' hA4 hg4 hk4; rw [HE0.out])
        go_roundg (R.length - (k + 1))
        case rel => exact ⟨k + 1, _, _, g', cap', n + 1, by omega, by simp, by
          have h := car_cons HCT.out (by rw [HCD.out]; exact HE0.out)
          rw [HCD.out] at h; exact h, by have := HN.out; omega, hcl5⟩
        case measure => omega
      · have he' : (mkE lim M ⟨k1, n1, ya, yb, yc⟩ != 0) = true := by simpa using he
        have HPE : Hid (∀ w4 g' cap', Ar w4 b g' bm cap' lim (mkL lim M ⟨k1, n1, ya, yb, yc⟩) → (g' = gk ∨ (w3.alloc (.cells #[.int .i64 k1, .int .u64 n1, .int .i64 ya, .int .i64 yb, .int .i64 yc] 44)).drew.heap.size ≤ g') → Kept (w3.alloc (.cells #[.int .i64 k1, .int .u64 n1, .int .i64 ya, .int .i64 yb, .int .i64 yc] 44)).drew w4 b gk bm → CrPost b g bm lim L own ref w (.returned (.tuple #[.int .i64 0, .int .i64 (mkE lim M ⟨k1, n1, ya, yb, yc⟩)])) w4) := Lib.hid (fun w4 g' cap' hA4 hg4 hk4 => by
          have h3 := HCL.out.keep HBX.out
          have h4 := h3.made HA1.out HAP.out hA4 hg4 hk4
          have ht : tot = (M, f, mkE lim M ⟨k1, n1, ya, yb, yc⟩) := by rw [← HCT.out, car, HCD.out, if_neg he]
          refine HPO.out _ _ ⟨g', cap', by rw [ht]; simp only; rw [if_neg he], ?_, h4.hg, h4.kept⟩
          rw [ht]
          have h5 := h4.st.ar
          rw [(mk_err h3.st.ar.wf he).1] at h5
          exact h5)
        obtain ⟨ee, hee⟩ : ∃ ee, ee = mkE lim M ⟨k1, n1, ya, yb, yc⟩ := ⟨_, rfl⟩
        have HEE := Lib.hid hee
        rw [← hee] at he he' HPE
        clear hee l1 l2 l3 cX
        go_wp2_with (go_at_call 14; refine (HMK.out _ HBX.out).mono ?_; rintro e w4 ⟨g', cap', rfl, hA4, hg4, hk4⟩; rw [← HEE.out])
        all_goals
          go_ret2
          exact HPE.out w4 g' cap' hA4 hg4 hk4
    · obtain rfl : k = R.length := by omega
      have ht : tot = (M, f, 0) := by rw [← hct, List.drop_length]; rfl
      have hlk := hcl.mp.look1 hr
      have HFP : Hid (CrPost b g bm lim L own ref w (.returned (.tuple #[.int .i64 ((f ref).getD 0), .int .i64 0])) wr) := Lib.hid (by
        refine HPO.out _ _ ⟨gk, ck, by rw [ht]; rfl, ?_, hcl.hg, hcl.kept⟩
        rw [ht]; exact hcl.st.ar)
      clear hcl hct ht hn
      go_wp2_with fail
      go_ret2
      exact HFP.out
end Go.Proofs.YtmnmjekpndeemaaGreatDoor
