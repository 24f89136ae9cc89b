/- Layer 3: the walk of Know's Copy. -/
import Derived.Shelf.SlMaps.Clone
import Derived.Ground.SlmcProg
import Derived.Test.YtemigefkkjgehaaDoorYe
namespace Go.Proofs
open Go.Shelf
def Tryd.cloneU_ren : Go.Shelf.Ren := ⟨fun | 5 => 40 | 7 => 57 | n => n, fun | 23 => 73 | 25 => 3 | 3 => 74 | 4 => 4 | 20 => 20 | n => n, fun | n => n⟩
theorem Tryd.cloneU : Go.Proofs.SlLaysW.n5 Tryd.prog Tryd.cloneU_ren := {
  mixed := by kernel_rfl
  f5 := ⟨Tryd.f40.name, by decide, Tryd.func40.trans (congrArg some (by kernel_rfl))⟩
  f7 := Tryd.func57.trans (congrArg some (by kernel_rfl))
  t4 := Tryd.underlying4
  a4 := Tryd.isAgg4
  z4 := Tryd.sizeOf4
  v4 := Tryd.zeroValue4
  t20 := Tryd.underlying20
  a20 := Tryd.isAgg20
  z20 := Tryd.sizeOf20
  v20 := Tryd.zeroValue20
  t23 := Tryd.underlying73
  a23 := Tryd.isAgg73
  z23 := Tryd.sizeOf73
  v23 := Tryd.zeroValue73 }
end Go.Proofs
namespace Go.Proofs.YtemigefkkjgehaaDoor
open Go.RowKit Go.Maps Go.Shelf

theorem cloneU_any {w : World} {mk n : Nat} {K : Int → Bool} (h : MapU w mk n K) : Calls Tryd.prog 40 #[.map (some mk)] w fun e w' => e = .returned (.map (some w.heap.size)) ∧ MapU w' w.heap.size n K ∧ Below w.heap.size w w' := by
  obtain ⟨D, hD, hR⟩ := h
  exact (AnyW.maps_Clone_owns Tryd.cloneU 3 (unitElem (H := Unit)) mk n D w hD).mono fun _ _ h => ⟨h.1, ⟨D, h.2.1, hR⟩, h.2.2.2⟩
/-- What Heard's row gives when it is copied. -/
theorem cloneH_any {w : World} {hv : Value} {hs : List Int} (own : w.ownsRow 0 3 1 hv hs.length (hs.map (Value.int .i64))) (hm : hs.length ≤ 1000001) : ∀ W, Below w.heap.size w W → Calls Tryd.prog 36 #[hv] W fun e w' => ∃ v', e = .returned v' ∧ w'.ownsRow W.heap.size 3 1 v' hs.length (hs.map (Value.int .i64)) ∧ Below W.heap.size W w' := fun W hW => by
  rcases own.2 with ⟨rfl, e0⟩ | ⟨gh, ch, cur, rfl, _⟩
  · have e0' : hs = [] := List.eq_nil_of_length_eq_zero e0
    subst e0'
    refine (AnyE.slices_Clone_nil Tryd.cloneI 0 0 W).mono ?_
    rintro e w' ⟨rfl, rfl⟩
    exact ⟨.slice none 0 0, rfl, ⟨by simp, .inl ⟨rfl, rfl⟩⟩, Below.refl _ _⟩
  · have own2 := ownsRow_same (w' := W) own (fun k hk => hW.block k (own.lt k hk).2)
    refine (cloneI_some gh ch hs W hm (fun i hi => by
      rw [own2.cellAt i (by omega), List.getElem?_map, List.getElem?_eq_getElem hi, List.getD_eq_getElem?_getD, List.getElem?_eq_getElem hi]; rfl)).mono ?_
    rintro e w' ⟨v', rfl, h1, _, h3⟩
    exact ⟨v', rfl, h1, h3⟩
set_option maxRecDepth 100000 in
set_option maxHeartbeats 4000000 in
theorem kcopy_any {w : World} {bk b g bm cap lim : Nat} {L : List Nd} {mk : Nat} {hv : Value} {hs : List Int} {K : Int → Bool} (h : Kno w bk b g bm cap lim L mk hv hs K) (hm : hs.length ≤ 1000001) {b2 g2 bm2 cap2 : Nat} (hA : Ar w b2 g2 bm2 cap2 lim L) :
    Calls Tryd.prog 20 #[.pointer (some ⟨bk, 0, none⟩), .pointer (some ⟨b2, 0, none⟩)] w fun e w' => ∃ bk2 mk2 hv2, e = .returned (.pointer (some ⟨bk2, 0, none⟩)) ∧ Kno w' bk2 b2 g2 bm2 cap2 lim L mk2 hv2 hs K ∧ w.heap.size ≤ bk2 ∧ w.heap.size ≤ mk2 ∧ (∀ k, hv2.ownBlock = some k → w.heap.size ≤ k) ∧ Below w.heap.size w w' := by
  have HH := Lib.hid h
  have HA := Lib.hid hA
  have HCH := Lib.hid (cloneH_any h.own hm)
  have HCU := Lib.hid (fun W (hb : Below w.heap.size w W) => cloneU_any (h.kn.keep (hb.block _ h.kn.lt)))
  have x0 : w.cell? ⟨bk, 0, none⟩ = some (.pointer (some ⟨b, 0, none⟩)) := (cell_of_row w bk 0 _ _ _ h.box).trans rfl
  have x1 : w.cell? ⟨bk, 1, none⟩ = some hv := (cell_of_row w bk 1 _ _ _ h.box).trans rfl
  have x2 : w.cell? ⟨bk, 2, none⟩ = some (.map (some mk)) := (cell_of_row w bk 2 _ _ _ h.box).trans rfl
  have lb := lt_of_heap h.box
  clear h hA
  go_enter Tryd.func20, Tryd.ntmps20
  go_wp2_with fail
  have HD : Hid (Below w.heap.size w w.drew) := Lib.hid (Below.refl _ _).drew
  refine wp_region_noPanic ?_
  refine wp_region_held_drew (S := (fun w' => w'.cell? ⟨bk, 0, none⟩ = some (.pointer (some ⟨b, 0, none⟩)) ∧ w'.cell? ⟨bk, 1, none⟩ = some hv ∧ w'.cell? ⟨bk, 2, none⟩ = some (.map (some mk)))) (by kernel_rfl) ?_ (fun hHeld => ?_)
  · ((try dsimp only); first | (go_simp; done) | (simp [*]; done))
  refine wpAnyH_take (i := 0) (v := ?_) rfl (by kernel_rfl) (by kernel_rfl) (by kernel_rfl) (fun _ _ _ h => h) (Or.inl ⟨by rfl, ?_⟩) (by assumption) ?_
  rotate_left
  · (intro w hSw; (try dsimp only at hSw); go_simp; try with_reducible rfl)
  try simp only [List.getElem_toArray, List.getElem_cons_zero, Act.put, List.setIfInBounds_toArray, List.set_cons_zero, List.set_cons_succ]
  refine wpAnyH_take (i := 1) (v := ?_) rfl (by kernel_rfl) (by kernel_rfl) (by kernel_rfl) (fun _ _ _ h => h) (Or.inl ⟨by rfl, ?_⟩) (by assumption) ?_
  rotate_left
  · (intro w hSw; (try dsimp only at hSw); go_simp; try with_reducible rfl)
  try simp only [List.getElem_toArray, List.getElem_cons_succ, List.getElem_cons_zero, Act.put, List.setIfInBounds_toArray, List.set_cons_zero, List.set_cons_succ]
  refine wpAnyH_take (i := 2) (v := ?_) rfl (by kernel_rfl) (by kernel_rfl) (by kernel_rfl) (fun _ _ _ h => h) (Or.inl ⟨by rfl, ?_⟩) (by assumption) ?_
  rotate_left
  · (intro w hSw; (try dsimp only at hSw); go_simp; try with_reducible rfl)
  try simp only [List.getElem_toArray, List.getElem_cons_succ, List.getElem_cons_zero, Act.put, List.setIfInBounds_toArray, List.set_cons_zero, List.set_cons_succ]
  refine wpAnyH_take (i := 3) (v := ?_) rfl (by kernel_rfl) (by kernel_rfl) (by kernel_rfl) (fun _ _ _ h => h) (Or.inl ⟨by rfl, ?_⟩) (by assumption) ?_
  rotate_left
  · (intro w hSw; (try dsimp only at hSw); go_simp; try with_reducible rfl)
  try simp only [List.getElem_toArray, List.getElem_cons_succ, List.getElem_cons_zero, Act.put, List.setIfInBounds_toArray, List.set_cons_zero, List.set_cons_succ]
  refine wpAnyH_take (i := 4) (v := ?_) rfl (by kernel_rfl) (by kernel_rfl) (by kernel_rfl) (fun _ _ _ h => h) (Or.inl ⟨by rfl, ?_⟩) (by assumption) ?_
  rotate_left
  · (intro w hSw; (try dsimp only at hSw); go_simp; try with_reducible rfl)
  try simp only [List.getElem_toArray, List.getElem_cons_succ, List.getElem_cons_zero, Act.put, List.setIfInBounds_toArray, List.set_cons_zero, List.set_cons_succ]
  refine wpAnyH_take (i := 6) (v := ?_) rfl (by kernel_rfl) (by kernel_rfl) (by kernel_rfl) (fun _ _ _ h => h) (Or.inl ⟨by rfl, ?_⟩) (by assumption) ?_
  rotate_left
  · (intro w hSw; (try dsimp only at hSw); go_simp; try with_reducible rfl)
  try simp only [List.getElem_toArray, List.getElem_cons_succ, List.getElem_cons_zero, Act.put, List.setIfInBounds_toArray, List.set_cons_zero, List.set_cons_succ]
  refine wpAnyH_take (i := 7) (v := ?_) rfl (by kernel_rfl) (by kernel_rfl) (by kernel_rfl) (fun _ _ _ h => h) (Or.inl ⟨by rfl, ?_⟩) (by assumption) ?_
  rotate_left
  · (intro w hSw; (try dsimp only at hSw); go_simp; try with_reducible rfl)
  try simp only [List.getElem_toArray, List.getElem_cons_succ, List.getElem_cons_zero, Act.put, List.setIfInBounds_toArray, List.set_cons_zero, List.set_cons_succ]
  refine wpAnyH_take (i := 8) (v := ?_) rfl (by kernel_rfl) (by kernel_rfl) (by kernel_rfl) (fun _ _ _ h => h) (Or.inl ⟨by rfl, ?_⟩) (by assumption) ?_
  rotate_left
  · (intro w hSw; (try dsimp only at hSw); go_simp; try with_reducible rfl)
  try simp only [List.getElem_toArray, List.getElem_cons_succ, List.getElem_cons_zero, Act.put, List.setIfInBounds_toArray, List.set_cons_zero, List.set_cons_succ]
  refine wpAnyH_take (i := 9) (v := ?_) rfl (by kernel_rfl) (by kernel_rfl) (by kernel_rfl) (fun _ _ _ h => h) (Or.inl ⟨by rfl, ?_⟩) (by assumption) ?_
  rotate_left
  · (intro w hSw; (try dsimp only at hSw); go_simp; try with_reducible rfl)
  try simp only [List.getElem_toArray, List.getElem_cons_succ, List.getElem_cons_zero, Act.put, List.setIfInBounds_toArray, List.set_cons_zero, List.set_cons_succ]
  refine wpAnyH_ready (rs := [5]) (by kernel_rfl) (by simp) ?_
  refine AllReadyH.cons rfl (fun K hK => ?_) AllReadyH.nil
  go_simp
  (refine (HCH.out _ HD.out).mono ?_; rintro e w1 ⟨v1, rfl, ho1, hb1⟩; obtain ⟨s1, c1, rfl⟩ := own_form ho1; have HO1 := Lib.hid ho1; have HB1 := Lib.hid (HD.out.trans (hb1.mono HD.out.size)); clear hb1 ho1; have x0' := (HB1.out.cell (p := ⟨bk, 0, none⟩) lb).trans x0; have x1' := (HB1.out.cell (p := ⟨bk, 1, none⟩) lb).trans x1; have x2' := (HB1.out.cell (p := ⟨bk, 2, none⟩) lb).trans x2)
  go_wp2_with fail
  refine hK.out _ _ ?_ (fun hHeld => ?_)
  · ((try dsimp only); first | (go_simp; done) | (simp [*]; done))
  clear hK K
  try simp only [List.getElem_toArray, List.getElem_cons_succ, List.getElem_cons_zero, Act.put, List.setIfInBounds_toArray, List.set_cons_zero, List.set_cons_succ]
  refine wpAnyH_ready (rs := [10]) (by kernel_rfl) (by simp) ?_
  refine AllReadyH.cons rfl (fun K hK => ?_) AllReadyH.nil
  go_simp
  (refine (HCU.out _ HB1.out).mono ?_; rintro e w2 ⟨rfl, hk2, hb2⟩; have HK2 := Lib.hid hk2; have HBB := Lib.hid hb2; have HB2 := Lib.hid (HB1.out.trans (hb2.mono HB1.out.size)); clear hb2 hk2; have y0 := (HB2.out.cell (p := ⟨bk, 0, none⟩) lb).trans x0; have y1 := (HB2.out.cell (p := ⟨bk, 1, none⟩) lb).trans x1; have y2 := (HB2.out.cell (p := ⟨bk, 2, none⟩) lb).trans x2; have HQ : Hid (∀ o j, (w2.alloc o).cell? ⟨bk, j, none⟩ = w2.cell? ⟨bk, j, none⟩) := Lib.hid (fun o j => ((Below.refl w2.heap.size w2).alloc (Nat.le_refl _) o).cell (p := ⟨bk, j, none⟩) (Nat.lt_of_lt_of_le lb HB2.out.size)))
  go_wp2_with fail
  refine hK.out _ _ ?_ (fun hHeld => ?_)
  · ((try dsimp only); first | (go_simp; done) | (simp [*]; done))
  clear hK K
  try simp only [List.getElem_toArray, List.getElem_cons_succ, List.getElem_cons_zero, Act.put, List.setIfInBounds_toArray, List.set_cons_zero, List.set_cons_succ]
  refine wpAnyH_take (i := 11) (v := ?_) rfl (by kernel_rfl) (by kernel_rfl) (by kernel_rfl) (fun _ _ _ h => h) (Or.inl ⟨by rfl, ?_⟩) (by assumption) ?_
  rotate_left
  · (intro w hSw; (try dsimp only at hSw); go_simp; try with_reducible rfl)
  try simp only [List.getElem_toArray, List.getElem_cons_succ, List.getElem_cons_zero, Act.put, List.setIfInBounds_toArray, List.set_cons_zero, List.set_cons_succ]
  refine wpAnyH_ready (rs := [12]) (by kernel_rfl) (by simp) ?_
  refine AllReadyH.cons rfl (fun K hK => ?_) AllReadyH.nil
  go_simp
  refine hK.out _ _ ?_ (fun hHeld => ?_)
  · ((try dsimp only); exact ⟨(HQ.out _ 0).trans y0, (HQ.out _ 1).trans y1, (HQ.out _ 2).trans y2⟩)
  clear hK K
  try simp only [List.getElem_toArray, List.getElem_cons_succ, List.getElem_cons_zero, Act.put, List.setIfInBounds_toArray, List.set_cons_zero, List.set_cons_succ]
  refine wpAnyH_take (i := 13) (v := ?_) rfl (by kernel_rfl) (by kernel_rfl) (by kernel_rfl) (fun _ _ _ h => h) (Or.inl ⟨by rfl, ?_⟩) (by assumption) ?_
  rotate_left
  · (intro w hSw; (try dsimp only at hSw); (try go_simp); try with_reducible rfl)
  try simp only [List.getElem_toArray, List.getElem_cons_succ, List.getElem_cons_zero, Act.put, List.setIfInBounds_toArray, List.set_cons_zero, List.set_cons_succ]
  refine wpAnyH_done (by kernel_rfl) ?_ _
  refine NoPanic.normal ?_
  go_wp2_with fail
  go_ret
  have l1 := HB1.out.size
  have l2 := HBB.out.size
  have l3 := HK2.out.lt
  have hb : Below w2.heap.size w2 (w2.alloc (.cells #[.pointer (some ⟨b2, 0, none⟩), .slice s1 hs.length c1, .map (some w1.heap.size)] 76)) := (Below.refl _ _).alloc (Nat.le_refl _) _
  have hA2 := HA.out.below (HB2.out.trans (hb.mono HB2.out.size))
  refine ⟨w2.heap.size, w1.heap.size, .slice s1 hs.length c1, rfl, ⟨hA2, heap_alloc_new w2 _, HK2.out.keep (hb.block _ l3), ?_, ?_, HH.out.kh, HH.out.sh⟩, by omega, by omega, fun k hk => ?_, HB2.out.trans (hb.mono HB2.out.size)⟩
  · have ho : w1.ownsRow 0 3 1 (.slice s1 hs.length c1) hs.length (hs.map (Value.int .i64)) := ⟨HO1.out.1, by
      rcases HO1.out.2 with h | ⟨g, c, cu, e1, _, e3⟩
      · exact .inl h
      · exact .inr ⟨g, c, cu, e1, Nat.zero_le _, e3⟩⟩
    exact ownsRow_same (ownsRow_same ho (fun k hk => HBB.out.block k (ho.lt k hk).2)) (fun k hk => hb.block k (Nat.lt_of_lt_of_le (ho.lt k hk).2 l2))
  · have := HA.out.mlt
    have := HB1.out.size
    omega
  · have := (HO1.out.lt k hk).1
    have h0 : w.drew.heap.size = w.heap.size := rfl
    omega
end Go.Proofs.YtemigefkkjgehaaDoor
