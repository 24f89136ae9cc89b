/- The walks of a term's rows: collect, Rows, Size. -/
import Derived.Test.YtmnmjekpndeemaaGreatDoorRd
import Derived.Laws.EntriesVeiled
namespace Go.Proofs.YtmnmjekpndeemaaGreatDoor
open Go.RowKit Go.Maps

/-- What collect hands back. -/
def CPost (L : List Nd) (r : Int) (w : World) (e : Ending) (w' : World) : Prop :=
  ∃ v mm, e = .returned (.tuple #[v, .map (some mm)]) ∧ w'.ownsRow w.heap.size 3 1 v (rows L r).length ((rows L r).map (Value.int .i64)) ∧ MapZ w' mm (rows L r).length (place (rows L r)) ∧ w.heap.size ≤ mm ∧ Below w.heap.size w w'

/-- The world in which collect calls its closure. -/
def cW (w : World) (b : Nat) : World :=
  ((((w.alloc (.cells #[.pointer (some ⟨b, 0, none⟩)] 24)).alloc (.cells #[.slice none 0 0] 56)).alloc (.map #[] 0)).alloc (.cells #[.map (some (w.heap.size + 1 + 1))] 63)).alloc (.cells #[fval (w.heap.size + 1 + 1 + 1) w.heap.size (w.heap.size + 1 + 1 + 1 + 1) (w.heap.size + 1)] 91)

theorem cW_vi (w : World) (b : Nat) (L : List Nd) : Vi w (cW w b) (w.heap.size + 1 + 1 + 1) w.heap.size (w.heap.size + 1 + 1 + 1 + 1) (w.heap.size + 1) (w.heap.size + 1 + 1) b L [] (.slice none 0 0) := by
  unfold cW
  refine ⟨?_, ?_, ?_, ?_, ?_, ?_, ?_, by omega, by omega, Acc.nil L⟩
  · exact (((((Below.refl _ _).alloc (Nat.le_refl _) _).alloc (by simp) _).alloc (by simp <;> omega) _).alloc (by simp <;> omega) _).alloc (by simp <;> omega) _
  · rw [Below.heap_alloc _ _ _ (by simp)]
    simpa using heap_alloc_new (((w.alloc (.cells #[.pointer (some ⟨b, 0, none⟩)] 24)).alloc (.cells #[.slice none 0 0] 56)).alloc (.map #[] 0)) (.cells #[.map (some (w.heap.size + 1 + 1))] 63)
  · rw [Below.heap_alloc _ _ _ (by simp <;> omega), Below.heap_alloc _ _ _ (by simp <;> omega), Below.heap_alloc _ _ _ (by simp <;> omega), Below.heap_alloc _ _ _ (by simp)]
    exact heap_alloc_new w _
  · simpa using heap_alloc_new ((((w.alloc (.cells #[.pointer (some ⟨b, 0, none⟩)] 24)).alloc (.cells #[.slice none 0 0] 56)).alloc (.map #[] 0)).alloc (.cells #[.map (some (w.heap.size + 1 + 1))] 63)) (.cells #[fval (w.heap.size + 1 + 1 + 1) w.heap.size (w.heap.size + 1 + 1 + 1 + 1) (w.heap.size + 1)] 91)
  · rw [Below.heap_alloc _ _ _ (by simp <;> omega), Below.heap_alloc _ _ _ (by simp <;> omega), Below.heap_alloc _ _ _ (by simp)]
    simpa using heap_alloc_new (w.alloc (.cells #[.pointer (some ⟨b, 0, none⟩)] 24)) (.cells #[.slice none 0 0] 56)
  · exact World.ownsRow_nil _ _ _ _
  · have h := MapZ.made ((w.alloc (.cells #[.pointer (some ⟨b, 0, none⟩)] 24)).alloc (.cells #[.slice none 0 0] 56))
    simp only [World.size_alloc] at h
    refine MapZ.keep h ?_
    rw [Below.heap_alloc _ _ _ (by simp <;> omega), Below.heap_alloc _ _ _ (by simp)]

set_option maxRecDepth 100000 in
set_option maxHeartbeats 1000000 in
theorem collect_any {b g bm cap lim : Nat} {L : List Nd} (r : Int) (hr : i64ok r) (w : World) (hE : Env w) (hA : Ar w b g bm cap lim L) :
    Calls Tryz.prog 23 #[.pointer (some ⟨b, 0, none⟩), .int .i64 r] w (CPost L r w) := by
  have hmf : ∀ (fn : Fn) (first cap : Array Value) (w : World), (Instr.makeFunc fn first cap).run Tryz.prog w = .ok (.func fn first cap) w := fun _ _ _ _ => rfl
  have hmm := @run_makeMap Tryz.prog
  have HC := Lib.hid (visit_any hE hA _ _ _ _ _ (r.toNat + 1) r [] (.slice none 0 0) (cW w b) (by omega) hr (cW_vi w b L))
  clear hE hA
  unfold cW fval at HC
  go_enter Tryz.func23, Tryz.ntmps23
  go_wp2_with (go_at_call 45; refine HC.out.mono ?_; rintro e w3 ⟨rfl, v3, hV3, hF3⟩)
  have cI := cell_of_one hV3.ci
  have cR := cell_of_one hV3.cr
  have HP : Hid (∀ q, CPost L r w (.returned (.tuple #[v3, .map (some (w.heap.size + 1 + 1))])) (w3.drewN q)) := Lib.hid (fun q => by
    have h := hV3.keep (belowDrewN (q := q) (Below.refl _ _))
    exact ⟨v3, _, rfl, h.own, h.mp, h.gm, h.bel⟩)
  clear hV3 hF3
  go_quiet (fail)
  go_wp2_with fail
  go_ret2
  exact HP.out _

set_option maxRecDepth 100000 in
set_option maxHeartbeats 1000000 in
theorem rowsF_any {b g bm cap lim : Nat} {L : List Nd} (r : Int) (hr : i64ok r) (w : World) (hE : Env w) (hA : Ar w b g bm cap lim L) :
    Calls Tryz.prog 27 #[.pointer (some ⟨b, 0, none⟩), .int .i64 r] w fun e w' => ∃ v, e = .returned v ∧ w'.ownsRow w.heap.size 3 1 v (rows L r).length ((rows L r).map (Value.int .i64)) ∧ Below w.heap.size w w' := by
  have HC := Lib.hid (collect_any r hr w hE hA)
  clear hE hA
  go_enter Tryz.func27, Tryz.ntmps27
  go_wp2_with (go_at_call 23; refine HC.out.mono ?_; rintro e w3 ⟨v, mm, rfl, ho, hm, hge, hb⟩)
  go_ret
  exact ⟨v, rfl, ho, hb⟩

set_option maxRecDepth 100000 in
set_option maxHeartbeats 1000000 in
theorem sizeF_any {b g bm cap lim : Nat} {L : List Nd} (r : Int) (hr : i64ok r) (w : World) (hE : Env w) (hA : Ar w b g bm cap lim L) :
    Calls Tryz.prog 12 #[.pointer (some ⟨b, 0, none⟩), .int .i64 r] w fun e w' => e = .returned (.int .i64 (rows L r).length) ∧ Below w.heap.size w w' := by
  have HC := Lib.hid (rowsF_any r hr w hE hA)
  clear hE hA
  go_enter Tryz.func12, Tryz.ntmps12
  go_wp2_with (go_at_call 27; refine HC.out.mono ?_; rintro e w3 ⟨v, rfl, ho, hb⟩; obtain ⟨sp, cp, rfl⟩ := own_slice ho)
  go_ret
  exact ⟨rfl, hb⟩
end Go.Proofs.YtmnmjekpndeemaaGreatDoor
