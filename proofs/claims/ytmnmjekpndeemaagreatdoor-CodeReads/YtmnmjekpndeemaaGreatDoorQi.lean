/- Walks: a copy of an arena (Copy); its two library calls by their contracts. -/
import Derived.Shelf.SlMaps.Clone
import Derived.Shelf.SlicesE.Clone
import Derived.Ground.SlgnProg
import Derived.Ground.SlmcProg
import Derived.Test.YtmnmjekpndeemaaGreatDoorQf
namespace Go.Proofs
open Go.Shelf
def Tryz.cloneM_ren : Go.Shelf.Ren := ⟨fun | 5 => 35 | 7 => 56 | n => n, fun | 23 => 60 | 25 => 44 | 3 => 3 | 4 => 4 | 20 => 20 | n => n, fun | n => n⟩
theorem Tryz.cloneM : Go.Proofs.SlLaysW.n5 Tryz.prog Tryz.cloneM_ren := {
  mixed := by kernel_rfl
  f5 := ⟨Tryz.f35.name, by decide, Tryz.func35.trans (congrArg some (by kernel_rfl))⟩
  f7 := Tryz.func56.trans (congrArg some (by kernel_rfl))
  t4 := Tryz.underlying4
  a4 := Tryz.isAgg4
  z4 := Tryz.sizeOf4
  v4 := Tryz.zeroValue4
  t20 := Tryz.underlying20
  a20 := Tryz.isAgg20
  z20 := Tryz.sizeOf20
  v20 := Tryz.zeroValue20
  t23 := Tryz.underlying60
  a23 := Tryz.isAgg60
  z23 := Tryz.sizeOf60
  v23 := Tryz.zeroValue60 }
def Tryz.cloneS_ren : Go.Shelf.Ren := ⟨fun | 41 => 34 | n => n, fun | 22 => 22 | 23 => 44 | 4 => 4 | n => n, fun | n => n⟩
theorem Tryz.cloneS : Go.Proofs.SlLaysE0.n41 Tryz.prog Tryz.cloneS_ren := {
  mixed := by kernel_rfl
  f41 := ⟨Tryz.f34.name, by decide, Tryz.func34.trans (congrArg some (by kernel_rfl))⟩
  t4 := Tryz.underlying4
  a4 := Tryz.isAgg4
  z4 := Tryz.sizeOf4
  v4 := Tryz.zeroValue4
  t22 := Tryz.underlying22
  a22 := Tryz.isAgg22
  z22 := Tryz.sizeOf22
  v22 := Tryz.zeroValue22 }
end Go.Proofs

namespace Go.Proofs.YtmnmjekpndeemaaGreatDoor
open Go.RowKit Go.Maps Go.Shelf

noncomputable def ndI : TypeInfo := (Tryz.prog.info? 44).get (by kernel_rfl)
theorem cloneS_any (g c n : Nat) (L : List Nd) (w : World) (hn : L.length = n) (hm : n ≤ 65536) (hr : rowAt w g L) :
    Calls Tryz.prog 34 #[.slice (some ⟨g, 0, none⟩) n c] w fun e w' => ∃ v', e = .returned v' ∧ w'.ownsRow w.heap.size 44 5 v' n (cells L) ∧ v' ≠ .slice none 0 0 ∧ Below w.heap.size w w' := by
  have h := AnyE.slices_Clone Tryz.cloneS ndI (.agg #[.int .i64 0, .int .u64 0, .int .i64 0, .int .i64 0, .int .i64 0]) 5 40 (by kernel_rfl) (by kernel_rfl) (by kernel_rfl) (by kernel_rfl) rfl (by decide) Tryz.sizeOf44 g 0 n c (cells L) w
    (by rw [cells_length, hn]) (by unfold maxLen; omega) (by omega) (fun j u hu => by have := hr.news j u hu; rw [add_off] at this; rw [Nat.zero_add]; exact this) (cells_oneCell L)
  exact h
theorem cloneM_any (bm n : Nat) (D : DataW Unit) (w : World) (h : w.ownsMap Tryz.prog 44 (plainElem Tryz.prog 3) bm n D) :
    Calls Tryz.prog 35 #[.map (some bm)] w fun e w' => e = .returned (.map (some w.heap.size)) ∧ w'.ownsMap Tryz.prog 44 (plainElem Tryz.prog 3) w.heap.size n D ∧ Below w.heap.size w w' :=
  (AnyW.maps_Clone_owns Tryz.cloneM 44 (plainElem Tryz.prog 3) bm n D w h).mono fun _ _ h => ⟨h.1, h.2.1, h.2.2.2⟩

def CopyPost (lim : Nat) (L : List Nd) (w : World) (e : Ending) (w' : World) : Prop :=
  ∃ b g bm cap, e = .returned (.pointer (some ⟨b, 0, none⟩)) ∧ Ar w' b g bm cap lim L ∧ w.heap.size ≤ b ∧ w.heap.size ≤ g ∧ w.heap.size ≤ bm ∧ Below w.heap.size w w'

theorem copy_close {b g bm cap lim : Nat} {L : List Nd} {w w0 w1 w2 : World} {g' cap' : Nat} {D : DataW Unit} {cur : Array Value} (hA : Ar w b g bm cap lim L) (h0 : Below w.heap.size w w0) (hb1 : Below w0.heap.size w0 w1) (hb2 : Below w1.heap.size w1 w2) (hge : w0.heap.size ≤ g')
    (hrow : w1.heap[g']? = some (.cells cur 44 (0, 0))) (hcap : L.length ≤ cap' ∧ cap' ≤ maxLen ∧ cur.size = cap' * 5 ∧ cur.toList.take (L.length * 5) = cells L) (hown : w2.ownsMap Tryz.prog 44 (plainElem Tryz.prog 3) w1.heap.size L.length D) (hreg : Reg D L) :
    CopyPost lim L w (.returned (.pointer (some ⟨w2.heap.size, 0, none⟩))) (w2.alloc (.cells #[.slice (some ⟨g', 0, none⟩) L.length cap', .map (some w1.heap.size), .int .i64 lim] 62)) := by
  have l1 := lt_of_heap hrow
  have s0 := h0.size
  have s1 := hb1.size
  have s2 := hb2.size
  have l2 := hown.lt
  have hB : Below w.heap.size w w2 := (h0.trans (hb1.mono s0)).trans (hb2.mono (by omega))
  refine ⟨w2.heap.size, g', w1.heap.size, cap', rfl, ⟨heap_alloc_new w2 _, ⟨cells_length L, .inr ⟨g', cap', cur, rfl, Nat.zero_le _, ?_, hcap⟩⟩, ?_, by omega, by omega, by omega, hA.len, hA.max, hA.wf⟩, by omega, by omega, by omega, hB.alloc hB.size _⟩
  · rw [Below.heap_alloc _ _ _ (by omega), hb2.block _ (by omega)]; exact hrow
  · obtain ⟨es, clock, hb, rest⟩ := hown
    exact ⟨D, ⟨es, clock, (Below.heap_alloc _ _ _ l2).trans hb, rest⟩, hreg⟩

set_option maxRecDepth 100000 in
set_option maxHeartbeats 4000000 in
theorem copy_any (b g bm cap lim : Nat) (L : List Nd) (w : World) (hA : Ar w b g bm cap lim L) : Calls Tryz.prog 19 #[.pointer (some ⟨b, 0, none⟩)] w (CopyPost lim L w) := by
  have c0 := hA.c0
  have c1 := hA.c1
  have c2 := hA.c2
  have hbl := hA.blt
  have hm := hA.small
  have HD0 := Lib.hid (show Below w.heap.size w w.drew from (Below.refl _ _).drew)
  have HA := Lib.hid hA; clear hA
  go_enter Tryz.func19, Tryz.ntmps19
  go_upto_region 1 with fail
  refine wp_region_held_drew (S := (fun w' => w'.cell? ⟨b, 0, none⟩ = some (.slice (some ⟨g, 0, none⟩) L.length cap) ∧ w'.cell? ⟨b, 1, none⟩ = some (.map (some bm)) ∧ w'.cell? ⟨b, 2, none⟩ = some (.int .i64 lim))) (by kernel_rfl) ?_ (fun hHeld => ?_)
  · exact ⟨c0, c1, c2⟩
  refine wpAnyH_take (i := 0) (v := ?_) rfl (by kernel_rfl) (by kernel_rfl) (by kernel_rfl) (fun _ _ _ h => h) (Or.inl ⟨by rfl, ?_⟩) (by assumption) ?_
  rotate_left
  · (intro w hSw; (try dsimp only at hSw); go_simp; try with_reducible rfl)
  try simp only [List.getElem_toArray, List.getElem_cons_zero, Act.put, List.setIfInBounds_toArray, List.set_cons_zero, List.set_cons_succ]
  refine wpAnyH_take (i := 1) (v := ?_) rfl (by kernel_rfl) (by kernel_rfl) (by kernel_rfl) (fun _ _ _ h => h) (Or.inl ⟨by rfl, ?_⟩) (by assumption) ?_
  rotate_left
  · (intro w hSw; (try dsimp only at hSw); go_simp; try with_reducible rfl)
  try simp only [List.getElem_toArray, List.getElem_cons_succ, List.getElem_cons_zero, Act.put, List.setIfInBounds_toArray, List.set_cons_zero, List.set_cons_succ]
  refine wpAnyH_take (i := 2) (v := ?_) rfl (by kernel_rfl) (by kernel_rfl) (by kernel_rfl) (fun _ _ _ h => h) (Or.inl ⟨by rfl, ?_⟩) (by assumption) ?_
  rotate_left
  · (intro w hSw; (try dsimp only at hSw); go_simp; try with_reducible rfl)
  try simp only [List.getElem_toArray, List.getElem_cons_succ, List.getElem_cons_zero, Act.put, List.setIfInBounds_toArray, List.set_cons_zero, List.set_cons_succ]
  refine wpAnyH_take (i := 3) (v := ?_) rfl (by kernel_rfl) (by kernel_rfl) (by kernel_rfl) (fun _ _ _ h => h) (Or.inl ⟨by rfl, ?_⟩) (by assumption) ?_
  rotate_left
  · (intro w hSw; (try dsimp only at hSw); go_simp; try with_reducible rfl)
  try simp only [List.getElem_toArray, List.getElem_cons_succ, List.getElem_cons_zero, Act.put, List.setIfInBounds_toArray, List.set_cons_zero, List.set_cons_succ]
  refine wpAnyH_take (i := 5) (v := ?_) rfl (by kernel_rfl) (by kernel_rfl) (by kernel_rfl) (fun _ _ _ h => h) (Or.inl ⟨by rfl, ?_⟩) (by assumption) ?_
  rotate_left
  · (intro w hSw; (try dsimp only at hSw); go_simp; try with_reducible rfl)
  try simp only [List.getElem_toArray, List.getElem_cons_succ, List.getElem_cons_zero, Act.put, List.setIfInBounds_toArray, List.set_cons_zero, List.set_cons_succ]
  refine wpAnyH_take (i := 6) (v := ?_) rfl (by kernel_rfl) (by kernel_rfl) (by kernel_rfl) (fun _ _ _ h => h) (Or.inl ⟨by rfl, ?_⟩) (by assumption) ?_
  rotate_left
  · (intro w hSw; (try dsimp only at hSw); go_simp; try with_reducible rfl)
  try simp only [List.getElem_toArray, List.getElem_cons_succ, List.getElem_cons_zero, Act.put, List.setIfInBounds_toArray, List.set_cons_zero, List.set_cons_succ]
  refine wpAnyH_take (i := 7) (v := ?_) rfl (by kernel_rfl) (by kernel_rfl) (by kernel_rfl) (fun _ _ _ h => h) (Or.inl ⟨by rfl, ?_⟩) (by assumption) ?_
  rotate_left
  · (intro w hSw; (try dsimp only at hSw); go_simp; try with_reducible rfl)
  try simp only [List.getElem_toArray, List.getElem_cons_succ, List.getElem_cons_zero, Act.put, List.setIfInBounds_toArray, List.set_cons_zero, List.set_cons_succ]
  refine wpAnyH_take (i := 8) (v := ?_) rfl (by kernel_rfl) (by kernel_rfl) (by kernel_rfl) (fun _ _ _ h => h) (Or.inl ⟨by rfl, ?_⟩) (by assumption) ?_
  rotate_left
  · (intro w hSw; (try dsimp only at hSw); go_simp; try with_reducible rfl)
  try simp only [List.getElem_toArray, List.getElem_cons_succ, List.getElem_cons_zero, Act.put, List.setIfInBounds_toArray, List.set_cons_zero, List.set_cons_succ]
  refine wpAnyH_take (i := 10) (v := ?_) rfl (by kernel_rfl) (by kernel_rfl) (by kernel_rfl) (fun _ _ _ h => h) (Or.inl ⟨by rfl, ?_⟩) (by assumption) ?_
  rotate_left
  · (intro w hSw; (try dsimp only at hSw); go_simp; try with_reducible rfl)
  try simp only [List.getElem_toArray, List.getElem_cons_succ, List.getElem_cons_zero, Act.put, List.setIfInBounds_toArray, List.set_cons_zero, List.set_cons_succ]
  refine wpAnyH_take (i := 11) (v := ?_) rfl (by kernel_rfl) (by kernel_rfl) (by kernel_rfl) (fun _ _ _ h => h) (Or.inl ⟨by rfl, ?_⟩) (by assumption) ?_
  rotate_left
  · (intro w hSw; (try dsimp only at hSw); go_simp; try with_reducible rfl)
  try simp only [List.getElem_toArray, List.getElem_cons_succ, List.getElem_cons_zero, Act.put, List.setIfInBounds_toArray, List.set_cons_zero, List.set_cons_succ]
  refine wpAnyH_take (i := 12) (v := ?_) rfl (by kernel_rfl) (by kernel_rfl) (by kernel_rfl) (fun _ _ _ h => h) (Or.inl ⟨by rfl, ?_⟩) (by assumption) ?_
  rotate_left
  · (intro w hSw; (try dsimp only at hSw); go_simp; try with_reducible rfl)
  try simp only [List.getElem_toArray, List.getElem_cons_succ, List.getElem_cons_zero, Act.put, List.setIfInBounds_toArray, List.set_cons_zero, List.set_cons_succ]
  refine wpAnyH_take (i := 13) (v := ?_) rfl (by kernel_rfl) (by kernel_rfl) (by kernel_rfl) (fun _ _ _ h => h) (Or.inl ⟨by rfl, ?_⟩) (by assumption) ?_
  rotate_left
  · (intro w hSw; (try dsimp only at hSw); go_simp; try with_reducible rfl)
  try simp only [List.getElem_toArray, List.getElem_cons_succ, List.getElem_cons_zero, Act.put, List.setIfInBounds_toArray, List.set_cons_zero, List.set_cons_succ]
  refine wpAnyH_ready (rs := [4]) (by kernel_rfl) (by simp) ?_
  refine AllReadyH.cons rfl (fun K hK => ?_) AllReadyH.nil
  go_simp
  (refine (cloneS_any g cap L.length L w.drew rfl hm (HA.out.below HD0.out).row).mono ?_; rintro e w1 ⟨v', rfl, hown, hnil, hb1⟩)
  obtain ⟨g', cap', cur, hv, hge, hrow, hcap⟩ : ∃ g' cap' cur, v' = .slice (some ⟨g', 0, none⟩) L.length cap' ∧ w.drew.heap.size ≤ g' ∧ w1.heap[g']? = some (.cells cur 44 (0, 0)) ∧ (L.length ≤ cap' ∧ cap' ≤ maxLen ∧ cur.size = cap' * 5 ∧ cur.toList.take (L.length * 5) = cells L) := hown.2.resolve_left (fun h => hnil h.1)
  subst hv
  clear hown hnil
  obtain ⟨D, hmap, hreg⟩ := ((HA.out.below HD0.out).below hb1).reg
  have HMC := Lib.hid (cloneM_any bm L.length D w1 hmap)
  have hbl1 : b < w1.heap.size := Nat.lt_of_lt_of_le hbl hb1.size
  have HREG := Lib.hid hreg
  have HB1 := Lib.hid hb1
  have HROW := Lib.hid hrow
  have HCAP := Lib.hid hcap
  have HGE := Lib.hid hge
  clear hreg hmap hrow hcap hge
  go_wp2_with fail
  refine hK.out _ _ ?_ (fun hHeld => ?_)
  · (refine ⟨(bcell hb1 b 0 hbl).trans c0, (bcell hb1 b 1 hbl).trans c1, (bcell hb1 b 2 hbl).trans c2⟩)
  clear hK K
  try simp only [List.getElem_toArray, List.getElem_cons_succ, List.getElem_cons_zero, Act.put, List.setIfInBounds_toArray, List.set_cons_zero, List.set_cons_succ]
  refine wpAnyH_ready (rs := [9]) (by kernel_rfl) (by simp) ?_
  refine AllReadyH.cons rfl (fun K hK => ?_) AllReadyH.nil
  go_simp
  (refine HMC.out.mono ?_; rintro e w2 ⟨rfl, hmap2, hb2⟩; have hbl2 : b < w2.heap.size := Nat.lt_of_lt_of_le hbl1 hb2.size; have HFIN := Lib.hid (copy_close HA.out HD0.out HB1.out hb2 HGE.out HROW.out HCAP.out hmap2 HREG.out))
  go_wp2_with fail
  refine hK.out _ _ ?_ (fun hHeld => ?_)
  · (refine ⟨(bcell hb2 b 0 hbl1).trans hHeld.1, (bcell hb2 b 1 hbl1).trans hHeld.2.1, (bcell hb2 b 2 hbl1).trans hHeld.2.2⟩)
  clear hK K
  try simp only [List.getElem_toArray, List.getElem_cons_succ, List.getElem_cons_zero, Act.put, List.setIfInBounds_toArray, List.set_cons_zero, List.set_cons_succ]
  refine wpAnyH_take (i := 14) (v := ?_) rfl (by kernel_rfl) (by kernel_rfl) (by kernel_rfl) (fun _ _ _ h => h) (Or.inl ⟨by rfl, ?_⟩) (by assumption) ?_
  rotate_left
  · (intro w hSw; (try dsimp only at hSw); go_simp; try with_reducible rfl)
  try simp only [List.getElem_toArray, List.getElem_cons_succ, List.getElem_cons_zero, Act.put, List.setIfInBounds_toArray, List.set_cons_zero, List.set_cons_succ]
  refine wpAnyH_ready (rs := [15]) (by kernel_rfl) (by simp) ?_
  refine AllReadyH.cons rfl (fun K hK => ?_) AllReadyH.nil
  go_simp
  skip
  go_wp2_with fail
  refine hK.out _ _ ?_ (fun hHeld => ?_)
  · (refine ⟨(bcell ((Below.refl _ _).alloc (Nat.le_refl _) _) b 0 hbl2).trans hHeld.1, (bcell ((Below.refl _ _).alloc (Nat.le_refl _) _) b 1 hbl2).trans hHeld.2.1, (bcell ((Below.refl _ _).alloc (Nat.le_refl _) _) b 2 hbl2).trans hHeld.2.2⟩)
  clear hK K
  try simp only [List.getElem_toArray, List.getElem_cons_succ, List.getElem_cons_zero, Act.put, List.setIfInBounds_toArray, List.set_cons_zero, List.set_cons_succ]
  refine wpAnyH_take (i := 16) (v := ?_) rfl (by kernel_rfl) (by kernel_rfl) (by kernel_rfl) (fun _ _ _ h => h) (Or.inl ⟨by rfl, ?_⟩) (by assumption) ?_
  rotate_left
  · (intro w hSw; (try dsimp only at hSw); go_simp; try with_reducible rfl)
  try simp only [List.getElem_toArray, List.getElem_cons_succ, List.getElem_cons_zero, Act.put, List.setIfInBounds_toArray, List.set_cons_zero, List.set_cons_succ]
  refine wpAnyH_done (by kernel_rfl) ?_ _
  go_wp2_with fail
  go_ret
  exact HFIN.out
end Go.Proofs.YtmnmjekpndeemaaGreatDoor
