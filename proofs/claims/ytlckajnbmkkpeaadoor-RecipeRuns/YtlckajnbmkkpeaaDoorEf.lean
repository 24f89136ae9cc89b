/- Layer 4: the walk of takeOut. -/
import Derived.Test.YtlckajnbmkkpeaaDoorEe
namespace Go.Proofs.YtlckajnbmkkpeaaDoor
open Go.RowKit Go.Maps

set_option maxRecDepth 100000 in
set_option maxHeartbeats 4000000 in
theorem takeOut_any {b g bm cap lim rb : Nat} {L : List Nd} (op x y : Int) (hop : op = 10 ∨ op = 11 ∨ op = 12) (hx : hasB L.length x = true) (w : World) (hA : Ar w b g bm cap lim L) (hc : w.cell? ⟨rb, 0, none⟩ = some (.pointer (some ⟨b, 0, none⟩))) :
    Calls Tryd.prog 66 #[.pointer (some ⟨rb, 0, none⟩), .int .i64 op, .int .i64 x, .int .i64 y] w fun e w' => e = .returned (.tuple #[.int .i64 (outY L op x y).r, .int .i64 (outY L op x y).e]) ∧ Below w.heap.size w w' := by
  have HG := Lib.hid (get_hasL hx hA)
  obtain ⟨d, hd⟩ : ∃ d, d = nd L x := ⟨_, rfl⟩
  rw [← hd] at HG
  have HO : Hid (outY L op x y = if op = 10 ∧ d.k = 8 then ⟨L, d.a, 0⟩ else if op = 11 ∧ d.k = 8 then ⟨L, d.b, 0⟩ else if op = 12 ∧ d.k = 7 ∧ d.a = y then ⟨L, d.c, 0⟩ else bad L) := Lib.hid (by rw [hd]; rfl)
  clear hd hA hx
  have fin : ∀ r e : Int, outY L op x y = ⟨L, r, e⟩ → (Ending.returned (.tuple #[.int .i64 r, .int .i64 e]) : Ending) = .returned (.tuple #[.int .i64 (outY L op x y).r, .int .i64 (outY L op x y).e]) := fun r e h => by rw [h]
  have HFN := Lib.hid fin
  clear fin
  by_cases k8 : d.k = 8
  · rcases hop with rfl | rfl | rfl
    · have HE : Hid (outY L 10 x y = ⟨L, d.a, 0⟩) := Lib.hid (by rw [HO.out]; simp [k8])
      go_enter Tryd.func66, Tryd.ntmps66
      go_wp2_with (go_at_call 47; refine HG.out.mono ?_; rintro e w1 ⟨rfl, hb1⟩; have HB := Lib.hid hb1; clear hb1; rw [k8])
      go_ret2
      exact ⟨HFN.out _ _ HE.out, HB.out.alloc HB.out.size _⟩
    · have HE : Hid (outY L 11 x y = ⟨L, d.b, 0⟩) := Lib.hid (by rw [HO.out]; simp [k8])
      go_enter Tryd.func66, Tryd.ntmps66
      go_wp2_with (go_at_call 47; refine HG.out.mono ?_; rintro e w1 ⟨rfl, hb1⟩; have HB := Lib.hid hb1; clear hb1; rw [k8])
      go_ret2
      exact ⟨HFN.out _ _ HE.out, HB.out.alloc HB.out.size _⟩
    · have HE : Hid (outY L 12 x y = ⟨L, 0, 12⟩) := Lib.hid (by rw [HO.out]; simp [k8, bad])
      go_enter Tryd.func66, Tryd.ntmps66
      go_wp2_with (go_at_call 47; refine HG.out.mono ?_; rintro e w1 ⟨rfl, hb1⟩; have HB := Lib.hid hb1; clear hb1; rw [k8])
      go_ret2
      exact ⟨HFN.out _ _ HE.out, HB.out.alloc HB.out.size _⟩
  · have n8 : (d.k == 8) = false := by simpa using k8
    rcases hop with rfl | rfl | rfl
    · have HE : Hid (outY L 10 x y = ⟨L, 0, 12⟩) := Lib.hid (by rw [HO.out]; simp [k8, bad])
      clear k8
      go_enter Tryd.func66, Tryd.ntmps66
      go_wp2_with (go_at_call 47; refine HG.out.mono ?_; rintro e w1 ⟨rfl, hb1⟩; have HB := Lib.hid hb1; clear hb1)
      go_ret2
      exact ⟨HFN.out _ _ HE.out, HB.out.alloc HB.out.size _⟩
    · have HE : Hid (outY L 11 x y = ⟨L, 0, 12⟩) := Lib.hid (by rw [HO.out]; simp [k8, bad])
      clear k8
      go_enter Tryd.func66, Tryd.ntmps66
      go_wp2_with (go_at_call 47; refine HG.out.mono ?_; rintro e w1 ⟨rfl, hb1⟩; have HB := Lib.hid hb1; clear hb1)
      go_ret2
      exact ⟨HFN.out _ _ HE.out, HB.out.alloc HB.out.size _⟩
    · by_cases k7 : d.k = 7
      · by_cases ay : d.a = y
        · have HE : Hid (outY L 12 x y = ⟨L, d.c, 0⟩) := Lib.hid (by rw [HO.out]; simp [k7, ay])
          have ayb : (d.a == y) = true := by simpa using ay
          clear k8 n8 ay
          go_enter Tryd.func66, Tryd.ntmps66
          go_wp2_with (go_at_call 47; refine HG.out.mono ?_; rintro e w1 ⟨rfl, hb1⟩; have HB := Lib.hid hb1; clear hb1; rw [k7])
          go_ret2
          exact ⟨HFN.out _ _ HE.out, HB.out.alloc HB.out.size _⟩
        · have HE : Hid (outY L 12 x y = ⟨L, 0, 12⟩) := Lib.hid (by rw [HO.out]; simp [k7, ay, bad])
          have ayb : (d.a == y) = false := by simpa using ay
          clear k8 n8 ay
          go_enter Tryd.func66, Tryd.ntmps66
          go_wp2_with (go_at_call 47; refine HG.out.mono ?_; rintro e w1 ⟨rfl, hb1⟩; have HB := Lib.hid hb1; clear hb1; rw [k7])
          go_ret2
          exact ⟨HFN.out _ _ HE.out, HB.out.alloc HB.out.size _⟩
      · have HE : Hid (outY L 12 x y = ⟨L, 0, 12⟩) := Lib.hid (by rw [HO.out]; simp [k7, bad])
        have n7 : (d.k == 7) = false := by simpa using k7
        clear k7 k8
        go_enter Tryd.func66, Tryd.ntmps66
        go_wp2_with (go_at_call 47; refine HG.out.mono ?_; rintro e w1 ⟨rfl, hb1⟩; have HB := Lib.hid hb1; clear hb1)
        go_ret2
        exact ⟨HFN.out _ _ HE.out, HB.out.alloc HB.out.size _⟩
end Go.Proofs.YtlckajnbmkkpeaaDoor
