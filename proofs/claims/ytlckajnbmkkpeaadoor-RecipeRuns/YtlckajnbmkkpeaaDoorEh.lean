/- Layer 4: the walk of execute, where a step can be. -/
import Derived.Test.YtlckajnbmkkpeaaDoorEg
namespace Go.Proofs.YtlckajnbmkkpeaaDoor
open Go.RowKit Go.Maps

theorem outY_eta (L : List Nd) (op x y : Int) : outY L op x y = ⟨L, (outY L op x y).r, (outY L op x y).e⟩ := by
  have := outY_L L op x y
  cases h : outY L op x y with
  | mk M r e => rw [h] at this; simp only at this; rw [this]

set_option maxRecDepth 100000 in
set_option maxHeartbeats 8000000 in
theorem execute_0 {b g bm cap lim rb : Nat} {sh : Option Addr} {ch : Nat} {sy : Option Addr} {cy : Nat} {L : List Nd} {H Y : List Int} (s : Sp) (w : World) (hA : Ar w b g bm cap lim L) (hR : Rb w rb b sh ch sy cy H Y) (hS : Rsh w) (hsh : Shp w) (hH : ∀ x ∈ H, hasB L.length x = true) (hY : ∀ y ∈ Y, hasB L.length y = true) (hu : usedB s = true) (hp : pickB (srcS H Y s) (idx s) = true) (ho : s.op = 0) :
    Calls Tryd.prog 48 #[.pointer (some ⟨rb, 0, none⟩), aggS s] w (ExPost b g bm lim (stepY lim H L Y s) w) := by
  have HA := Lib.hid hA
  have HR := Lib.hid hR
  have HS := Lib.hid hS
  have HSH := Lib.hid hsh
  clear hA hR hS hsh
  have HB0 : Hid (∀ o, Below w.heap.size w (w.alloc o)) := Lib.hid (fun o => (Below.refl _ _).alloc (Nat.le_refl _) o)
  have HU := Lib.hid (fun w1 (hb : Below w.heap.size w w1) => used_yes w1 (HS.out.below hb) hu)
  obtain ⟨x, hx⟩ : ∃ x, x = (pickL (srcS H Y s) (idx s)).getD 0 0 := ⟨_, rfl⟩
  obtain ⟨y, hy⟩ : ∃ y, y = (pickL (srcS H Y s) (idx s)).getD 1 0 := ⟨_, rfl⟩
  obtain ⟨z, hz⟩ : ∃ z, z = (pickL (srcS H Y s) (idx s)).getD 2 0 := ⟨_, rfl⟩
  have bx := pick_has HA.out.wf hH hY hp 0
  have by' := pick_has HA.out.wf hH hY hp 1
  have bz := pick_has HA.out.wf hH hY hp 2
  rw [← hx] at bx
  rw [← hy] at by'
  rw [← hz] at bz
  have HV : Hid (stepY lim H L Y s = doY lim L s x y z) := Lib.hid (by unfold stepY; rw [hu, hp, hx, hy, hz]; rfl)
  have HBX := Lib.hid bx
  have HBY := Lib.hid by'
  have HBZ := Lib.hid bz
  clear bx by' bz hH hY
  have h0 := ho
  have e : srcS H Y s = H := by unfold srcS; rw [if_pos h0]
  rw [e] at hp hx hy hz
  have HPK := Lib.hid (fun w1 (hb : Below w.heap.size w w1) sl c (hi : IntsV w1 sl (idx s)) => pick_any sh ch H sl c (idx s) w1 (HR.out.below hb).ih hi (idx_len s))
  have ep : pickV H (idx s) = .tuple #[arrV x y z, .bool true] := by unfold pickV; rw [hp, hx, hy, hz]; rfl
  rw [ep] at HPK
  clear hu hp e ep hx hy hz
  obtain ⟨op, n, a, b', c⟩ := s
  simp only at ho
  subst ho
  clear h0
  unfold aggS arrV at *
  generalize idx ⟨0, n, a, b', c⟩ = is at *
  go_enter Tryd.func48, Tryd.ntmps48
  go_wp2_with (first
    | (go_at_call 63; refine (HU.out _ (HB0.out _)).mono ?_; rintro e w1 ⟨sl, c1, rfl, hi1, hb1⟩; have HC1 := Lib.hid hb1; obtain ⟨⟨x0, x1, x2, x3, x4⟩, hbw⟩ := box5 hb1; have HB1 := Lib.hid hbw; have HI1 := Lib.hid hi1; clear hb1 hi1 hbw; obtain ⟨r0, r1, r2, -, -⟩ := HR.out.below HB1.out)
    | (go_at_call 64; refine (HPK.out _ HB1.out _ _ HI1.out).mono ?_; rintro e w2 ⟨rfl, hb2⟩; clear x0 x1 x2 x3 x4 r0 r1 r2; obtain ⟨⟨x0, x1, x2, x3, x4⟩, hbw⟩ := box5 (HC1.out.trans (hb2.mono HC1.out.size)); have HB2 := Lib.hid hbw; clear hb2 hbw; obtain ⟨r0, r1, r2, -, -⟩ := HR.out.below HB2.out; have lw := World.block_lt_of_cell? _ _ x0; have lr := World.block_lt_of_cell? _ _ r0))
  go_ret2
  exact ex_same (HV.out.trans rfl) HA.out (HB2.out.alloc HB2.out.size _)

set_option maxRecDepth 100000 in
set_option maxHeartbeats 8000000 in
theorem execute_13 {b g bm cap lim rb : Nat} {sh : Option Addr} {ch : Nat} {sy : Option Addr} {cy : Nat} {L : List Nd} {H Y : List Int} (s : Sp) (w : World) (hA : Ar w b g bm cap lim L) (hR : Rb w rb b sh ch sy cy H Y) (hS : Rsh w) (hsh : Shp w) (hH : ∀ x ∈ H, hasB L.length x = true) (hY : ∀ y ∈ Y, hasB L.length y = true) (hu : usedB s = true) (hp : pickB (srcS H Y s) (idx s) = true) (ho : s.op = 13) :
    Calls Tryd.prog 48 #[.pointer (some ⟨rb, 0, none⟩), aggS s] w (ExPost b g bm lim (stepY lim H L Y s) w) := by
  have HA := Lib.hid hA
  have HR := Lib.hid hR
  have HS := Lib.hid hS
  have HSH := Lib.hid hsh
  clear hA hR hS hsh
  have HB0 : Hid (∀ o, Below w.heap.size w (w.alloc o)) := Lib.hid (fun o => (Below.refl _ _).alloc (Nat.le_refl _) o)
  have HU := Lib.hid (fun w1 (hb : Below w.heap.size w w1) => used_yes w1 (HS.out.below hb) hu)
  obtain ⟨x, hx⟩ : ∃ x, x = (pickL (srcS H Y s) (idx s)).getD 0 0 := ⟨_, rfl⟩
  obtain ⟨y, hy⟩ : ∃ y, y = (pickL (srcS H Y s) (idx s)).getD 1 0 := ⟨_, rfl⟩
  obtain ⟨z, hz⟩ : ∃ z, z = (pickL (srcS H Y s) (idx s)).getD 2 0 := ⟨_, rfl⟩
  have bx := pick_has HA.out.wf hH hY hp 0
  have by' := pick_has HA.out.wf hH hY hp 1
  have bz := pick_has HA.out.wf hH hY hp 2
  rw [← hx] at bx
  rw [← hy] at by'
  rw [← hz] at bz
  have HV : Hid (stepY lim H L Y s = doY lim L s x y z) := Lib.hid (by unfold stepY; rw [hu, hp, hx, hy, hz]; rfl)
  have HBX := Lib.hid bx
  have HBY := Lib.hid by'
  have HBZ := Lib.hid bz
  clear bx by' bz hH hY
  have h0 : ¬ s.op = 0 := by rw [ho]; decide
  have e : srcS H Y s = Y := by unfold srcS; rw [if_neg h0]
  rw [e] at hp hx hy hz
  have HPK := Lib.hid (fun w1 (hb : Below w.heap.size w w1) sl c (hi : IntsV w1 sl (idx s)) => pick_any sy cy Y sl c (idx s) w1 (HR.out.below hb).iy hi (idx_len s))
  have ep : pickV Y (idx s) = .tuple #[arrV x y z, .bool true] := by unfold pickV; rw [hp, hx, hy, hz]; rfl
  rw [ep] at HPK
  clear hu hp e ep hx hy hz
  obtain ⟨op, n, a, b', c⟩ := s
  simp only at ho
  subst ho
  clear h0
  unfold aggS arrV at *
  generalize idx ⟨13, n, a, b', c⟩ = is at *
  go_enter Tryd.func48, Tryd.ntmps48
  go_wp2_with (first
    | (go_at_call 63; refine (HU.out _ (HB0.out _)).mono ?_; rintro e w1 ⟨sl, c1, rfl, hi1, hb1⟩; have HC1 := Lib.hid hb1; obtain ⟨⟨x0, x1, x2, x3, x4⟩, hbw⟩ := box5 hb1; have HB1 := Lib.hid hbw; have HI1 := Lib.hid hi1; clear hb1 hi1 hbw; obtain ⟨r0, r1, r2, -, -⟩ := HR.out.below HB1.out)
    | (go_at_call 64; refine (HPK.out _ HB1.out _ _ HI1.out).mono ?_; rintro e w2 ⟨rfl, hb2⟩; clear x0 x1 x2 x3 x4 r0 r1 r2; obtain ⟨⟨x0, x1, x2, x3, x4⟩, hbw⟩ := box5 (HC1.out.trans (hb2.mono HC1.out.size)); have HB2 := Lib.hid hbw; clear hb2 hbw; obtain ⟨r0, r1, r2, -, -⟩ := HR.out.below HB2.out; have lw := World.block_lt_of_cell? _ _ x0; have lr := World.block_lt_of_cell? _ _ r0))
  go_ret2
  exact ex_same (HV.out.trans rfl) HA.out (HB2.out.alloc HB2.out.size _)

set_option maxRecDepth 100000 in
set_option maxHeartbeats 8000000 in
theorem execute_10 {b g bm cap lim rb : Nat} {sh : Option Addr} {ch : Nat} {sy : Option Addr} {cy : Nat} {L : List Nd} {H Y : List Int} (s : Sp) (w : World) (hA : Ar w b g bm cap lim L) (hR : Rb w rb b sh ch sy cy H Y) (hS : Rsh w) (hsh : Shp w) (hH : ∀ x ∈ H, hasB L.length x = true) (hY : ∀ y ∈ Y, hasB L.length y = true) (hu : usedB s = true) (hp : pickB (srcS H Y s) (idx s) = true) (ho : s.op = 10) :
    Calls Tryd.prog 48 #[.pointer (some ⟨rb, 0, none⟩), aggS s] w (ExPost b g bm lim (stepY lim H L Y s) w) := by
  have HA := Lib.hid hA
  have HR := Lib.hid hR
  have HS := Lib.hid hS
  have HSH := Lib.hid hsh
  clear hA hR hS hsh
  have HB0 : Hid (∀ o, Below w.heap.size w (w.alloc o)) := Lib.hid (fun o => (Below.refl _ _).alloc (Nat.le_refl _) o)
  have HU := Lib.hid (fun w1 (hb : Below w.heap.size w w1) => used_yes w1 (HS.out.below hb) hu)
  obtain ⟨x, hx⟩ : ∃ x, x = (pickL (srcS H Y s) (idx s)).getD 0 0 := ⟨_, rfl⟩
  obtain ⟨y, hy⟩ : ∃ y, y = (pickL (srcS H Y s) (idx s)).getD 1 0 := ⟨_, rfl⟩
  obtain ⟨z, hz⟩ : ∃ z, z = (pickL (srcS H Y s) (idx s)).getD 2 0 := ⟨_, rfl⟩
  have bx := pick_has HA.out.wf hH hY hp 0
  have by' := pick_has HA.out.wf hH hY hp 1
  have bz := pick_has HA.out.wf hH hY hp 2
  rw [← hx] at bx
  rw [← hy] at by'
  rw [← hz] at bz
  have HV : Hid (stepY lim H L Y s = doY lim L s x y z) := Lib.hid (by unfold stepY; rw [hu, hp, hx, hy, hz]; rfl)
  have HBX := Lib.hid bx
  have HBY := Lib.hid by'
  have HBZ := Lib.hid bz
  clear bx by' bz hH hY
  have h0 : ¬ s.op = 0 := by rw [ho]; decide
  have e : srcS H Y s = Y := by unfold srcS; rw [if_neg h0]
  rw [e] at hp hx hy hz
  have HPK := Lib.hid (fun w1 (hb : Below w.heap.size w w1) sl c (hi : IntsV w1 sl (idx s)) => pick_any sy cy Y sl c (idx s) w1 (HR.out.below hb).iy hi (idx_len s))
  have ep : pickV Y (idx s) = .tuple #[arrV x y z, .bool true] := by unfold pickV; rw [hp, hx, hy, hz]; rfl
  rw [ep] at HPK
  clear hu hp e ep hx hy hz
  obtain ⟨op, n, a, b', c⟩ := s
  simp only at ho
  subst ho
  have HTO := Lib.hid (fun w3 (hb : Below w.heap.size w w3) => takeOut_any (rb := rb) 10 x y (by omega) HBX.out w3 (HA.out.below hb) (HR.out.below hb).c0)
  clear h0
  unfold aggS arrV at *
  generalize idx ⟨10, n, a, b', c⟩ = is at *
  go_enter Tryd.func48, Tryd.ntmps48
  go_wp2_with (first
    | (go_at_call 63; refine (HU.out _ (HB0.out _)).mono ?_; rintro e w1 ⟨sl, c1, rfl, hi1, hb1⟩; have HC1 := Lib.hid hb1; obtain ⟨⟨x0, x1, x2, x3, x4⟩, hbw⟩ := box5 hb1; have HB1 := Lib.hid hbw; have HI1 := Lib.hid hi1; clear hb1 hi1 hbw; obtain ⟨r0, r1, r2, -, -⟩ := HR.out.below HB1.out)
    | (go_at_call 64; refine (HPK.out _ HB1.out _ _ HI1.out).mono ?_; rintro e w2 ⟨rfl, hb2⟩; clear x0 x1 x2 x3 x4 r0 r1 r2; obtain ⟨⟨x0, x1, x2, x3, x4⟩, hbw⟩ := box5 (HC1.out.trans (hb2.mono HC1.out.size)); have HB2 := Lib.hid hbw; clear hb2 hbw; obtain ⟨r0, r1, r2, -, -⟩ := HR.out.below HB2.out; have lw := World.block_lt_of_cell? _ _ x0; have lr := World.block_lt_of_cell? _ _ r0)
    | (go_at_call 66; refine (HTO.out _ (HB2.out.alloc HB2.out.size _)).mono ?_; rintro e w5 ⟨rfl, hb5⟩; have HB5 := Lib.hid ((HB2.out.alloc HB2.out.size _).trans (hb5.mono (HB2.out.alloc HB2.out.size _).size)); clear hb5))
  go_ret2
  exact ex_same (HV.out.trans (show outY L 10 x y = ⟨L, _, _⟩ from outY_eta L 10 x y)) HA.out HB5.out

set_option maxRecDepth 100000 in
set_option maxHeartbeats 8000000 in
theorem execute_11 {b g bm cap lim rb : Nat} {sh : Option Addr} {ch : Nat} {sy : Option Addr} {cy : Nat} {L : List Nd} {H Y : List Int} (s : Sp) (w : World) (hA : Ar w b g bm cap lim L) (hR : Rb w rb b sh ch sy cy H Y) (hS : Rsh w) (hsh : Shp w) (hH : ∀ x ∈ H, hasB L.length x = true) (hY : ∀ y ∈ Y, hasB L.length y = true) (hu : usedB s = true) (hp : pickB (srcS H Y s) (idx s) = true) (ho : s.op = 11) :
    Calls Tryd.prog 48 #[.pointer (some ⟨rb, 0, none⟩), aggS s] w (ExPost b g bm lim (stepY lim H L Y s) w) := by
  have HA := Lib.hid hA
  have HR := Lib.hid hR
  have HS := Lib.hid hS
  have HSH := Lib.hid hsh
  clear hA hR hS hsh
  have HB0 : Hid (∀ o, Below w.heap.size w (w.alloc o)) := Lib.hid (fun o => (Below.refl _ _).alloc (Nat.le_refl _) o)
  have HU := Lib.hid (fun w1 (hb : Below w.heap.size w w1) => used_yes w1 (HS.out.below hb) hu)
  obtain ⟨x, hx⟩ : ∃ x, x = (pickL (srcS H Y s) (idx s)).getD 0 0 := ⟨_, rfl⟩
  obtain ⟨y, hy⟩ : ∃ y, y = (pickL (srcS H Y s) (idx s)).getD 1 0 := ⟨_, rfl⟩
  obtain ⟨z, hz⟩ : ∃ z, z = (pickL (srcS H Y s) (idx s)).getD 2 0 := ⟨_, rfl⟩
  have bx := pick_has HA.out.wf hH hY hp 0
  have by' := pick_has HA.out.wf hH hY hp 1
  have bz := pick_has HA.out.wf hH hY hp 2
  rw [← hx] at bx
  rw [← hy] at by'
  rw [← hz] at bz
  have HV : Hid (stepY lim H L Y s = doY lim L s x y z) := Lib.hid (by unfold stepY; rw [hu, hp, hx, hy, hz]; rfl)
  have HBX := Lib.hid bx
  have HBY := Lib.hid by'
  have HBZ := Lib.hid bz
  clear bx by' bz hH hY
  have h0 : ¬ s.op = 0 := by rw [ho]; decide
  have e : srcS H Y s = Y := by unfold srcS; rw [if_neg h0]
  rw [e] at hp hx hy hz
  have HPK := Lib.hid (fun w1 (hb : Below w.heap.size w w1) sl c (hi : IntsV w1 sl (idx s)) => pick_any sy cy Y sl c (idx s) w1 (HR.out.below hb).iy hi (idx_len s))
  have ep : pickV Y (idx s) = .tuple #[arrV x y z, .bool true] := by unfold pickV; rw [hp, hx, hy, hz]; rfl
  rw [ep] at HPK
  clear hu hp e ep hx hy hz
  obtain ⟨op, n, a, b', c⟩ := s
  simp only at ho
  subst ho
  have HTO := Lib.hid (fun w3 (hb : Below w.heap.size w w3) => takeOut_any (rb := rb) 11 x y (by omega) HBX.out w3 (HA.out.below hb) (HR.out.below hb).c0)
  clear h0
  unfold aggS arrV at *
  generalize idx ⟨11, n, a, b', c⟩ = is at *
  go_enter Tryd.func48, Tryd.ntmps48
  go_wp2_with (first
    | (go_at_call 63; refine (HU.out _ (HB0.out _)).mono ?_; rintro e w1 ⟨sl, c1, rfl, hi1, hb1⟩; have HC1 := Lib.hid hb1; obtain ⟨⟨x0, x1, x2, x3, x4⟩, hbw⟩ := box5 hb1; have HB1 := Lib.hid hbw; have HI1 := Lib.hid hi1; clear hb1 hi1 hbw; obtain ⟨r0, r1, r2, -, -⟩ := HR.out.below HB1.out)
    | (go_at_call 64; refine (HPK.out _ HB1.out _ _ HI1.out).mono ?_; rintro e w2 ⟨rfl, hb2⟩; clear x0 x1 x2 x3 x4 r0 r1 r2; obtain ⟨⟨x0, x1, x2, x3, x4⟩, hbw⟩ := box5 (HC1.out.trans (hb2.mono HC1.out.size)); have HB2 := Lib.hid hbw; clear hb2 hbw; obtain ⟨r0, r1, r2, -, -⟩ := HR.out.below HB2.out; have lw := World.block_lt_of_cell? _ _ x0; have lr := World.block_lt_of_cell? _ _ r0)
    | (go_at_call 66; refine (HTO.out _ (HB2.out.alloc HB2.out.size _)).mono ?_; rintro e w5 ⟨rfl, hb5⟩; have HB5 := Lib.hid ((HB2.out.alloc HB2.out.size _).trans (hb5.mono (HB2.out.alloc HB2.out.size _).size)); clear hb5))
  go_ret2
  exact ex_same (HV.out.trans (show outY L 11 x y = ⟨L, _, _⟩ from outY_eta L 11 x y)) HA.out HB5.out

set_option maxRecDepth 100000 in
set_option maxHeartbeats 8000000 in
theorem execute_12 {b g bm cap lim rb : Nat} {sh : Option Addr} {ch : Nat} {sy : Option Addr} {cy : Nat} {L : List Nd} {H Y : List Int} (s : Sp) (w : World) (hA : Ar w b g bm cap lim L) (hR : Rb w rb b sh ch sy cy H Y) (hS : Rsh w) (hsh : Shp w) (hH : ∀ x ∈ H, hasB L.length x = true) (hY : ∀ y ∈ Y, hasB L.length y = true) (hu : usedB s = true) (hp : pickB (srcS H Y s) (idx s) = true) (ho : s.op = 12) :
    Calls Tryd.prog 48 #[.pointer (some ⟨rb, 0, none⟩), aggS s] w (ExPost b g bm lim (stepY lim H L Y s) w) := by
  have HA := Lib.hid hA
  have HR := Lib.hid hR
  have HS := Lib.hid hS
  have HSH := Lib.hid hsh
  clear hA hR hS hsh
  have HB0 : Hid (∀ o, Below w.heap.size w (w.alloc o)) := Lib.hid (fun o => (Below.refl _ _).alloc (Nat.le_refl _) o)
  have HU := Lib.hid (fun w1 (hb : Below w.heap.size w w1) => used_yes w1 (HS.out.below hb) hu)
  obtain ⟨x, hx⟩ : ∃ x, x = (pickL (srcS H Y s) (idx s)).getD 0 0 := ⟨_, rfl⟩
  obtain ⟨y, hy⟩ : ∃ y, y = (pickL (srcS H Y s) (idx s)).getD 1 0 := ⟨_, rfl⟩
  obtain ⟨z, hz⟩ : ∃ z, z = (pickL (srcS H Y s) (idx s)).getD 2 0 := ⟨_, rfl⟩
  have bx := pick_has HA.out.wf hH hY hp 0
  have by' := pick_has HA.out.wf hH hY hp 1
  have bz := pick_has HA.out.wf hH hY hp 2
  rw [← hx] at bx
  rw [← hy] at by'
  rw [← hz] at bz
  have HV : Hid (stepY lim H L Y s = doY lim L s x y z) := Lib.hid (by unfold stepY; rw [hu, hp, hx, hy, hz]; rfl)
  have HBX := Lib.hid bx
  have HBY := Lib.hid by'
  have HBZ := Lib.hid bz
  clear bx by' bz hH hY
  have h0 : ¬ s.op = 0 := by rw [ho]; decide
  have e : srcS H Y s = Y := by unfold srcS; rw [if_neg h0]
  rw [e] at hp hx hy hz
  have HPK := Lib.hid (fun w1 (hb : Below w.heap.size w w1) sl c (hi : IntsV w1 sl (idx s)) => pick_any sy cy Y sl c (idx s) w1 (HR.out.below hb).iy hi (idx_len s))
  have ep : pickV Y (idx s) = .tuple #[arrV x y z, .bool true] := by unfold pickV; rw [hp, hx, hy, hz]; rfl
  rw [ep] at HPK
  clear hu hp e ep hx hy hz
  obtain ⟨op, n, a, b', c⟩ := s
  simp only at ho
  subst ho
  have HTO := Lib.hid (fun w3 (hb : Below w.heap.size w w3) => takeOut_any (rb := rb) 12 x y (by omega) HBX.out w3 (HA.out.below hb) (HR.out.below hb).c0)
  clear h0
  unfold aggS arrV at *
  generalize idx ⟨12, n, a, b', c⟩ = is at *
  go_enter Tryd.func48, Tryd.ntmps48
  go_wp2_with (first
    | (go_at_call 63; refine (HU.out _ (HB0.out _)).mono ?_; rintro e w1 ⟨sl, c1, rfl, hi1, hb1⟩; have HC1 := Lib.hid hb1; obtain ⟨⟨x0, x1, x2, x3, x4⟩, hbw⟩ := box5 hb1; have HB1 := Lib.hid hbw; have HI1 := Lib.hid hi1; clear hb1 hi1 hbw; obtain ⟨r0, r1, r2, -, -⟩ := HR.out.below HB1.out)
    | (go_at_call 64; refine (HPK.out _ HB1.out _ _ HI1.out).mono ?_; rintro e w2 ⟨rfl, hb2⟩; clear x0 x1 x2 x3 x4 r0 r1 r2; obtain ⟨⟨x0, x1, x2, x3, x4⟩, hbw⟩ := box5 (HC1.out.trans (hb2.mono HC1.out.size)); have HB2 := Lib.hid hbw; clear hb2 hbw; obtain ⟨r0, r1, r2, -, -⟩ := HR.out.below HB2.out; have lw := World.block_lt_of_cell? _ _ x0; have lr := World.block_lt_of_cell? _ _ r0)
    | (go_at_call 66; refine (HTO.out _ (HB2.out.alloc HB2.out.size _)).mono ?_; rintro e w5 ⟨rfl, hb5⟩; have HB5 := Lib.hid ((HB2.out.alloc HB2.out.size _).trans (hb5.mono (HB2.out.alloc HB2.out.size _).size)); clear hb5))
  go_ret2
  exact ex_same (HV.out.trans (show outY L 12 x y = ⟨L, _, _⟩ from outY_eta L 12 x y)) HA.out HB5.out

end Go.Proofs.YtlckajnbmkkpeaaDoor
