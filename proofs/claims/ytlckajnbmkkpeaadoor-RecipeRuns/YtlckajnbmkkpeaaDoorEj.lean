/- Layer 4: the walk of execute: Mine, and the other steps that make terms. -/
import Derived.Test.YtlckajnbmkkpeaaDoorEi
import Derived.IntWalk
namespace Go.Proofs.YtlckajnbmkkpeaaDoor
open Go.RowKit Go.Maps

set_option maxRecDepth 100000 in
set_option maxHeartbeats 8000000 in
theorem execute_1 {b g bm cap lim rb : Nat} {sh : Option Addr} {ch : Nat} {sy : Option Addr} {cy : Nat} {L : List Nd} {H Y : List Int} (s : Sp) (w : World) (hA : Ar w b g bm cap lim L) (hR : Rb w rb b sh ch sy cy H Y) (hS : Rsh w) (hsh : Shp w) (hH : ∀ x ∈ H, hasB L.length x = true) (hY : ∀ y ∈ Y, hasB L.length y = true) (hu : usedB s = true) (hp : pickB (srcS H Y s) (idx s) = true) (ho : s.op = 1) (hne : rb ≠ b ∧ rb ≠ g ∧ rb ≠ bm) :
    Calls Tryd.prog 48 #[.pointer (some ⟨rb, 0, none⟩), aggS s] w (ExPost b g bm lim (stepY lim H L Y s) w) := by
  have HNE := Lib.hid hne
  clear hne
  have HA := Lib.hid hA
  have HR := Lib.hid hR
  have HS := Lib.hid hS
  have HSH := Lib.hid hsh
  clear hA hR hS hsh
  have HB0 : Hid (∀ o, Below w.heap.size w (w.alloc o)) := Lib.hid (fun o => (Below.refl _ _).alloc (Nat.le_refl _) o)
  have HU := Lib.hid (fun w1 (hb : Below w.heap.size w w1) => used_yes w1 (HS.out.below hb) hu)
  obtain ⟨x, hx⟩ : ∃ x, x = (pickL (srcS H Y s) (idx s)).getD 0 0 := ⟨_, rfl⟩
  obtain ⟨y, hy⟩ : ∃ y, y = (pickL (srcS H Y s) (idx s)).getD 1 0 := ⟨_, rfl⟩
  obtain ⟨z, hz⟩ : ∃ z, z = (pickL (srcS H Y s) (idx s)).getD 2 0 := ⟨_, rfl⟩
  have bx := pick_has HA.out.wf hH hY hp 0
  have by' := pick_has HA.out.wf hH hY hp 1
  have bz := pick_has HA.out.wf hH hY hp 2
  rw [← hx] at bx
  rw [← hy] at by'
  rw [← hz] at bz
  have HV : Hid (stepY lim H L Y s = doY lim L s x y z) := Lib.hid (by unfold stepY; rw [hu, hp, hx, hy, hz]; rfl)
  have HBX := Lib.hid bx
  have HBY := Lib.hid by'
  have HBZ := Lib.hid bz
  clear bx by' bz hH hY
  have h0 : ¬ s.op = 0 := by rw [ho]; decide
  have hn := used_n hu
  have e : srcS H Y s = Y := by unfold srcS; rw [if_neg h0]
  rw [e] at hp hx hy hz
  have HPK := Lib.hid (fun w1 (hb : Below w.heap.size w w1) sl c (hi : IntsV w1 sl (idx s)) => pick_any sy cy Y sl c (idx s) w1 (HR.out.below hb).iy hi (idx_len s))
  have ep : pickV Y (idx s) = .tuple #[arrV x y z, .bool true] := by unfold pickV; rw [hp, hx, hy, hz]; rfl
  rw [ep] at HPK
  clear hu hp e ep hx hy hz
  obtain ⟨op, n, a, b', c⟩ := s
  simp only at ho
  subst ho
  obtain ⟨n0, n1, n2⟩ := hn
  have n3 : n ≤ 1048575 := n2 rfl
  simp only at n0 n1
  have hwp : IntKind.u64.wrap (4294967296 + n) = 4294967296 + n := IntWalk.u64_in _ (by omega)
  have HMK := Lib.hid (fun w3 (hb : Below w.heap.size w w3) => mk_any b g bm cap lim L 1 (4294967296 + n) 0 0 0 w3 (HA.out.below hb) (HSH.out.below hb) ⟨by unfold i64ok; simp only; omega, by unfold u64ok; simp only; omega, by unfold i64ok; simp only; omega, by unfold i64ok; simp only; omega, by unfold i64ok; simp only; omega⟩)
  have HV2 : Hid (stepY lim H L Y ⟨1, n, a, b', c⟩ = mkY lim L ⟨1, 4294967296 + n, 0, 0, 0⟩) := Lib.hid (HV.out.trans rfl)
  clear h0 n2 HV
  have HV := HV2
  clear HV2
  unfold aggS arrV at *
  generalize idx ⟨1, n, a, b', c⟩ = is at *
  go_enter Tryd.func48, Tryd.ntmps48
  go_wp2_with (first
    | (go_at_call 63; refine (HU.out _ (HB0.out _)).mono ?_; rintro e w1 ⟨sl, c1, rfl, hi1, hb1⟩; have HC1 := Lib.hid hb1; obtain ⟨⟨x0, x1, x2, x3, x4⟩, hbw⟩ := box5 hb1; have HB1 := Lib.hid hbw; have HI1 := Lib.hid hi1; clear hb1 hi1 hbw; obtain ⟨r0, r1, r2, -, -⟩ := HR.out.below HB1.out)
    | (go_at_call 64; refine (HPK.out _ HB1.out _ _ HI1.out).mono ?_; rintro e w2 ⟨rfl, hb2⟩; clear x0 x1 x2 x3 x4 r0 r1 r2; obtain ⟨⟨x0, x1, x2, x3, x4⟩, hbw⟩ := box5 (HC1.out.trans (hb2.mono HC1.out.size)); have HB2 := Lib.hid hbw; clear hb2 hbw; obtain ⟨r0, r1, r2, -, -⟩ := HR.out.below HB2.out; have lw := World.block_lt_of_cell? _ _ x0; have lr := World.block_lt_of_cell? _ _ r0))
  have HB3 := Lib.hid (HB2.out.alloc HB2.out.size (.cells #[.int .i64 x, .int .i64 y, .int .i64 z] 120))
  have hnew := heap_alloc_new w2 (.cells #[.int .i64 x, .int .i64 y, .int .i64 z] 120)
  have v0 : (w2.alloc (.cells #[.int .i64 x, .int .i64 y, .int .i64 z] 120)).cell? ⟨w2.heap.size, 0, none⟩ = some (.int .i64 x) := (cell_of_row _ _ 0 _ _ _ hnew).trans rfl
  have v1 : (w2.alloc (.cells #[.int .i64 x, .int .i64 y, .int .i64 z] 120)).cell? ⟨w2.heap.size, 1, none⟩ = some (.int .i64 y) := (cell_of_row _ _ 1 _ _ _ hnew).trans rfl
  have v2 : (w2.alloc (.cells #[.int .i64 x, .int .i64 y, .int .i64 z] 120)).cell? ⟨w2.heap.size, 2, none⟩ = some (.int .i64 z) := (cell_of_row _ _ 2 _ _ _ hnew).trans rfl
  obtain ⟨t0, t1, t2, -, -⟩ := HR.out.below HB3.out
  have kx := fun j => Below.cell ((Below.refl w2.heap.size w2).alloc (Nat.le_refl _) (.cells #[.int .i64 x, .int .i64 y, .int .i64 z] 120)) (p := ⟨w.heap.size, j, none⟩) lw
  have u0 := (kx 0).trans x0
  have u1 := (kx 1).trans x1
  have HPR : Hid (w.heap.size ≤ w2.heap.size) := Lib.hid HB2.out.size
  clear x0 x1 x2 x3 x4 r0 r1 r2 hnew kx lw lr t1 t2
  generalize w2.alloc (.cells #[.int .i64 x, .int .i64 y, .int .i64 z] 120) = W3 at *
  generalize w2.heap.size = pr at *
  have HKP : Hid (∀ w5, Kept W3.drew w5 b g bm → (w5.cell? ⟨rb, 0, none⟩ = some (.pointer (some ⟨b, 0, none⟩)) ∧ w5.cell? ⟨pr, 0, none⟩ = some (.int .i64 x) ∧ w5.cell? ⟨pr, 1, none⟩ = some (.int .i64 y) ∧ w5.cell? ⟨pr, 2, none⟩ = some (.int .i64 z) ∧ w5.cell? ⟨w.heap.size, 0, none⟩ = some (.int .i64 1) ∧ w5.cell? ⟨w.heap.size, 1, none⟩ = some (.int .u64 n))) := Lib.hid (fun w5 hk => by
    have hb := HA.out.blt
    have hg := HA.out.glt
    have hm := HA.out.mlt
    have lt : ∀ {q v}, W3.cell? q = some v → q.block < W3.heap.size := fun h => World.block_lt_of_cell? _ _ h
    have hpr := HPR.out
    have k : ∀ q j v, W3.cell? ⟨q, j, none⟩ = some v → q ≠ b → q ≠ g → q ≠ bm → w5.cell? ⟨q, j, none⟩ = some v := fun q j v h n1 n2 n3 => (World.cell?_of_block (hk.block q (lt h) n1 n2 n3)).trans h
    exact ⟨k _ _ _ t0 HNE.out.1 HNE.out.2.1 HNE.out.2.2, k _ _ _ v0 (by omega) (by omega) (by omega), k _ _ _ v1 (by omega) (by omega) (by omega), k _ _ _ v2 (by omega) (by omega) (by omega), k _ _ _ u0 (by omega) (by omega) (by omega), k _ _ _ u1 (by omega) (by omega) (by omega)⟩)
  go_region_held3 (fun w' => w'.cell? ⟨rb, 0, none⟩ = some (.pointer (some ⟨b, 0, none⟩)) ∧ w'.cell? ⟨pr, 0, none⟩ = some (.int .i64 x) ∧ w'.cell? ⟨pr, 1, none⟩ = some (.int .i64 y) ∧ w'.cell? ⟨pr, 2, none⟩ = some (.int .i64 z) ∧ w'.cell? ⟨w.heap.size, 0, none⟩ = some (.int .i64 1) ∧ w'.cell? ⟨w.heap.size, 1, none⟩ = some (.int .u64 n)) (go_keep)
    ((go_at_call 32; refine (HMK.out _ HB3.out.drew).mono ?_; rintro e w5 h5; have hk5 := h5.choose_spec.choose_spec.2.2.2; obtain ⟨z0, z1, z2, z3, z4, z5⟩ := HKP.out w5 hk5; obtain ⟨r, er, rfl, hE⟩ := ex_mk HV.out HB3.out.drew h5; clear h5 hk5))
  all_goals
    go_wp2_with fail
    go_ret2
    exact hE

set_option maxRecDepth 100000 in
set_option maxHeartbeats 8000000 in
theorem execute_mk {b g bm cap lim rb : Nat} {sh : Option Addr} {ch : Nat} {sy : Option Addr} {cy : Nat} {L : List Nd} {H Y : List Int} (s : Sp) (w : World) (hA : Ar w b g bm cap lim L) (hR : Rb w rb b sh ch sy cy H Y) (hS : Rsh w) (hsh : Shp w) (hH : ∀ x ∈ H, hasB L.length x = true) (hY : ∀ y ∈ Y, hasB L.length y = true) (hu : usedB s = true) (hp : pickB (srcS H Y s) (idx s) = true) (ho : s.op ≠ 0 ∧ s.op ≠ 1 ∧ s.op ≠ 3 ∧ s.op ≠ 10 ∧ s.op ≠ 11 ∧ s.op ≠ 12 ∧ s.op ≠ 13) (hne : rb ≠ b ∧ rb ≠ g ∧ rb ≠ bm) :
    Calls Tryd.prog 48 #[.pointer (some ⟨rb, 0, none⟩), aggS s] w (ExPost b g bm lim (stepY lim H L Y s) w) := by
  have HNE := Lib.hid hne
  clear hne
  have HA := Lib.hid hA
  have HR := Lib.hid hR
  have HS := Lib.hid hS
  have HSH := Lib.hid hsh
  clear hA hR hS hsh
  have HB0 : Hid (∀ o, Below w.heap.size w (w.alloc o)) := Lib.hid (fun o => (Below.refl _ _).alloc (Nat.le_refl _) o)
  have HU := Lib.hid (fun w1 (hb : Below w.heap.size w w1) => used_yes w1 (HS.out.below hb) hu)
  obtain ⟨x, hx⟩ : ∃ x, x = (pickL (srcS H Y s) (idx s)).getD 0 0 := ⟨_, rfl⟩
  obtain ⟨y, hy⟩ : ∃ y, y = (pickL (srcS H Y s) (idx s)).getD 1 0 := ⟨_, rfl⟩
  obtain ⟨z, hz⟩ : ∃ z, z = (pickL (srcS H Y s) (idx s)).getD 2 0 := ⟨_, rfl⟩
  have bx := pick_has HA.out.wf hH hY hp 0
  have by' := pick_has HA.out.wf hH hY hp 1
  have bz := pick_has HA.out.wf hH hY hp 2
  rw [← hx] at bx
  rw [← hy] at by'
  rw [← hz] at bz
  have HV : Hid (stepY lim H L Y s = doY lim L s x y z) := Lib.hid (by unfold stepY; rw [hu, hp, hx, hy, hz]; rfl)
  have HBX := Lib.hid bx
  have HBY := Lib.hid by'
  have HBZ := Lib.hid bz
  clear bx by' bz hH hY
  have h0 := ho.1
  have hn := used_n hu
  have ou := (used_op hu).1
  have e : srcS H Y s = Y := by unfold srcS; rw [if_neg h0]
  rw [e] at hp hx hy hz
  have HPK := Lib.hid (fun w1 (hb : Below w.heap.size w w1) sl c (hi : IntsV w1 sl (idx s)) => pick_any sy cy Y sl c (idx s) w1 (HR.out.below hb).iy hi (idx_len s))
  have ep : pickV Y (idx s) = .tuple #[arrV x y z, .bool true] := by unfold pickV; rw [hp, hx, hy, hz]; rfl
  rw [ep] at HPK
  clear hu hp e ep hx hy hz
  obtain ⟨op, n, a, b', c⟩ := s
  obtain ⟨n0, n1, n2⟩ := hn
  simp only at n0 n1 ho ou
  have f0 : (op == 0) = false := by simp; omega
  have f1 : (op == 1) = false := by simp; omega
  have f3 : (op == 3) = false := by simp; omega
  have f10 : (op == 10) = false := by simp; omega
  have f11 : (op == 11) = false := by simp; omega
  have f12 : (op == 12) = false := by simp; omega
  have f13 : (op == 13) = false := by simp; omega
  have HL : Hid (L.length ≤ 65536) := Lib.hid (Nat.le_trans HA.out.len HA.out.max)
  have HMK := Lib.hid (fun w3 (hb : Below w.heap.size w w3) => mk_any b g bm cap lim L op n x y z w3 (HA.out.below hb) (HSH.out.below hb) ⟨by unfold i64ok; simp only; omega, by unfold u64ok; simp only; omega, has_int HL.out HBX.out, has_int HL.out HBY.out, has_int HL.out HBZ.out⟩)
  have HV2 : Hid (stepY lim H L Y ⟨op, n, a, b', c⟩ = mkY lim L ⟨op, n, x, y, z⟩) := Lib.hid (HV.out.trans (by unfold doY; simp only; rw [if_neg ho.1, if_neg ho.2.1, if_neg ho.2.2.1, if_neg (by omega), if_neg ho.2.2.2.2.2.2]))
  clear h0 n2 HV ho ou
  have HV := HV2
  clear HV2
  unfold aggS arrV at *
  generalize idx ⟨op, n, a, b', c⟩ = is at *
  go_enter Tryd.func48, Tryd.ntmps48
  go_wp2_with (first
    | (go_at_call 63; refine (HU.out _ (HB0.out _)).mono ?_; rintro e w1 ⟨sl, c1, rfl, hi1, hb1⟩; have HC1 := Lib.hid hb1; obtain ⟨⟨x0, x1, x2, x3, x4⟩, hbw⟩ := box5 hb1; have HB1 := Lib.hid hbw; have HI1 := Lib.hid hi1; clear hb1 hi1 hbw; obtain ⟨r0, r1, r2, -, -⟩ := HR.out.below HB1.out)
    | (go_at_call 64; refine (HPK.out _ HB1.out _ _ HI1.out).mono ?_; rintro e w2 ⟨rfl, hb2⟩; clear x0 x1 x2 x3 x4 r0 r1 r2; obtain ⟨⟨x0, x1, x2, x3, x4⟩, hbw⟩ := box5 (HC1.out.trans (hb2.mono HC1.out.size)); have HB2 := Lib.hid hbw; clear hb2 hbw; obtain ⟨r0, r1, r2, -, -⟩ := HR.out.below HB2.out; have lw := World.block_lt_of_cell? _ _ x0; have lr := World.block_lt_of_cell? _ _ r0))
  have HB3 := Lib.hid (HB2.out.alloc HB2.out.size (.cells #[.int .i64 x, .int .i64 y, .int .i64 z] 120))
  have hnew := heap_alloc_new w2 (.cells #[.int .i64 x, .int .i64 y, .int .i64 z] 120)
  have v0 : (w2.alloc (.cells #[.int .i64 x, .int .i64 y, .int .i64 z] 120)).cell? ⟨w2.heap.size, 0, none⟩ = some (.int .i64 x) := (cell_of_row _ _ 0 _ _ _ hnew).trans rfl
  have v1 : (w2.alloc (.cells #[.int .i64 x, .int .i64 y, .int .i64 z] 120)).cell? ⟨w2.heap.size, 1, none⟩ = some (.int .i64 y) := (cell_of_row _ _ 1 _ _ _ hnew).trans rfl
  have v2 : (w2.alloc (.cells #[.int .i64 x, .int .i64 y, .int .i64 z] 120)).cell? ⟨w2.heap.size, 2, none⟩ = some (.int .i64 z) := (cell_of_row _ _ 2 _ _ _ hnew).trans rfl
  obtain ⟨t0, t1, t2, -, -⟩ := HR.out.below HB3.out
  have kx := fun j => Below.cell ((Below.refl w2.heap.size w2).alloc (Nat.le_refl _) (.cells #[.int .i64 x, .int .i64 y, .int .i64 z] 120)) (p := ⟨w.heap.size, j, none⟩) lw
  have u0 := (kx 0).trans x0
  have u1 := (kx 1).trans x1
  have HPR : Hid (w.heap.size ≤ w2.heap.size) := Lib.hid HB2.out.size
  clear x0 x1 x2 x3 x4 r0 r1 r2 hnew kx lw lr t1 t2
  generalize w2.alloc (.cells #[.int .i64 x, .int .i64 y, .int .i64 z] 120) = W3 at *
  generalize w2.heap.size = pr at *
  have HKP : Hid (∀ w5, Kept W3.drew w5 b g bm → (w5.cell? ⟨rb, 0, none⟩ = some (.pointer (some ⟨b, 0, none⟩)) ∧ w5.cell? ⟨pr, 0, none⟩ = some (.int .i64 x) ∧ w5.cell? ⟨pr, 1, none⟩ = some (.int .i64 y) ∧ w5.cell? ⟨pr, 2, none⟩ = some (.int .i64 z) ∧ w5.cell? ⟨w.heap.size, 0, none⟩ = some (.int .i64 op) ∧ w5.cell? ⟨w.heap.size, 1, none⟩ = some (.int .u64 n))) := Lib.hid (fun w5 hk => by
    have hb := HA.out.blt
    have hg := HA.out.glt
    have hm := HA.out.mlt
    have lt : ∀ {q v}, W3.cell? q = some v → q.block < W3.heap.size := fun h => World.block_lt_of_cell? _ _ h
    have hpr := HPR.out
    have k : ∀ q j v, W3.cell? ⟨q, j, none⟩ = some v → q ≠ b → q ≠ g → q ≠ bm → w5.cell? ⟨q, j, none⟩ = some v := fun q j v h n1 n2 n3 => (World.cell?_of_block (hk.block q (lt h) n1 n2 n3)).trans h
    exact ⟨k _ _ _ t0 HNE.out.1 HNE.out.2.1 HNE.out.2.2, k _ _ _ v0 (by omega) (by omega) (by omega), k _ _ _ v1 (by omega) (by omega) (by omega), k _ _ _ v2 (by omega) (by omega) (by omega), k _ _ _ u0 (by omega) (by omega) (by omega), k _ _ _ u1 (by omega) (by omega) (by omega)⟩)
  go_region_held3 (fun w' => w'.cell? ⟨rb, 0, none⟩ = some (.pointer (some ⟨b, 0, none⟩)) ∧ w'.cell? ⟨pr, 0, none⟩ = some (.int .i64 x) ∧ w'.cell? ⟨pr, 1, none⟩ = some (.int .i64 y) ∧ w'.cell? ⟨pr, 2, none⟩ = some (.int .i64 z) ∧ w'.cell? ⟨w.heap.size, 0, none⟩ = some (.int .i64 op) ∧ w'.cell? ⟨w.heap.size, 1, none⟩ = some (.int .u64 n)) (go_keep)
    ((go_at_call 32; refine (HMK.out _ HB3.out.drew).mono ?_; rintro e w5 h5; have hk5 := h5.choose_spec.choose_spec.2.2.2; obtain ⟨z0, z1, z2, z3, z4, z5⟩ := HKP.out w5 hk5; obtain ⟨r, er, rfl, hE⟩ := ex_mk HV.out HB3.out.drew h5; clear h5 hk5))
  all_goals
    go_wp2_with fail
    go_ret2
    exact hE

/-- One step, whatever it is. -/
theorem execute_any {b g bm cap lim rb : Nat} {sh : Option Addr} {ch : Nat} {sy : Option Addr} {cy : Nat} {L : List Nd} {H Y : List Int} (s : Sp) (w : World) (hA : Ar w b g bm cap lim L) (hR : Rb w rb b sh ch sy cy H Y) (hS : Rsh w) (hsh : Shp w) (hH : ∀ x ∈ H, hasB L.length x = true) (hY : ∀ y ∈ Y, hasB L.length y = true) (hne : rb ≠ b ∧ rb ≠ g ∧ rb ≠ bm) :
    Calls Tryd.prog 48 #[.pointer (some ⟨rb, 0, none⟩), aggS s] w (ExPost b g bm lim (stepY lim H L Y s) w) := by
  cases hu : usedB s with
  | false => exact execute_bad s w hA hR hS (.inl hu)
  | true =>
    cases hp : pickB (srcS H Y s) (idx s) with
    | false => exact execute_bad s w hA hR hS (.inr ⟨hu, hp⟩)
    | true =>
      by_cases h0 : s.op = 0
      · exact execute_0 s w hA hR hS hsh hH hY hu hp h0
      by_cases h1 : s.op = 1
      · exact execute_1 s w hA hR hS hsh hH hY hu hp h1 hne
      by_cases h3 : s.op = 3
      · exact execute_3 s w hA hR hS hsh hH hY hu hp h3 hne
      by_cases h10 : s.op = 10
      · exact execute_10 s w hA hR hS hsh hH hY hu hp h10
      by_cases h11 : s.op = 11
      · exact execute_11 s w hA hR hS hsh hH hY hu hp h11
      by_cases h12 : s.op = 12
      · exact execute_12 s w hA hR hS hsh hH hY hu hp h12
      by_cases h13 : s.op = 13
      · exact execute_13 s w hA hR hS hsh hH hY hu hp h13
      exact execute_mk s w hA hR hS hsh hH hY hu hp ⟨h0, h1, h3, h10, h11, h12, h13⟩ hne
end Go.Proofs.YtlckajnbmkkpeaaDoor
