/- Layer 3: walks of the reference: which terms can be made. -/
import Derived.Test.YtlckajnbmkkpeaaDoorYz
import Derived.Test.YtlckajnbmkkpeaaDoorVz
namespace Go.Proofs.YtlckajnbmkkpeaaDoor
open Go.RowKit Go.Maps

/-- A row of bools in memory. -/
def boolsAt (w : World) (g : Nat) (k : List Bool) : Prop := ∀ i, i < k.length → w.cell? ⟨g, i, none⟩ = some (.bool (k.getD i false))

theorem boolsAt.keep {w w' : World} {g : Nat} {k : List Bool} (h : boolsAt w g k) (hk : w'.heap[g]? = w.heap[g]?) : boolsAt w' g k := fun i hi => by
  rw [World.cell?_of_block hk]; exact h i hi
/-- What is met by a place. -/
def pubAt (L : List Nd) (k : List Bool) (x : Int) (i : Nat) : Bool := k.getD i false && (decide ((L.getD i zN).k = 2) && decide ((L.getD i zN).a = x))
theorem rpub_eq (L : List Nd) (k out : List Bool) (x : Int) : rpub L k out x = (out.getD x.toNat false || (List.range L.length).any (pubAt L k x)) := rfl
set_option maxRecDepth 100000 in
set_option maxHeartbeats 4000000 in
theorem pubF_any {L : List Nd} {k out : List Bool} {gr capr lim gk ck go co : Nat} {x : Int} {w : World} (hrow : rowAt w gr L) (hk : boolsAt w gk k) (ho : boolsAt w go out) (hkl : k.length = L.length) (hol : out.length = L.length) (hx : hasB L.length x = true) (hg : gr < w.heap.size) (hgk : gk < w.heap.size) (hgo : go < w.heap.size) (hL : L.length ≤ 1000) :
    Calls Tryd.prog 85 #[.agg #[.int .i64 lim, .slice (some ⟨gr, 0, none⟩) L.length capr], .slice (some ⟨gk, 0, none⟩) L.length ck, .slice (some ⟨go, 0, none⟩) L.length co, .int .i64 x] w fun e w' => e = .returned (.bool (rpub L k out x)) ∧ Below w.heap.size w w' := by
  obtain ⟨h0, h1⟩ := hasB_iff.1 hx
  obtain ⟨j, rfl⟩ : ∃ j : Nat, x = j := ⟨x.toNat, by omega⟩
  have hoj := ho j (by omega)
  have hj' : (j : Int) < L.length := by omega
  have hB0 : Below w.heap.size w (w.alloc (.cells #[.int .i64 lim, .slice (some ⟨gr, 0, none⟩) L.length capr] 29)) := (Below.refl _ _).alloc (Nat.le_refl _) _
  have HR := Lib.hid (hrow.keep (hB0.block gr hg))
  have HK := Lib.hid (hk.keep (hB0.block gk hgk))
  rw [rpub_eq, Int.toNat_natCast]
  cases hout : out.getD j false with
  | true =>
    rw [hout] at hoj
    simp only [Bool.true_or]
    clear hk ho hrow hx hB0 hout
    go_enter Tryd.func85, Tryd.ntmps85
    go_wp2_with fail
    go_ret
    exact ⟨rfl, (Below.refl _ _).alloc (Nat.le_refl _) _⟩
  | false =>
    rw [hout] at hoj
    simp only [Bool.false_or]
    have HB0 := Lib.hid hB0
    clear hk ho hrow hx hout hB0
    go_enter Tryd.func85, Tryd.ntmps85
    go_wp2_with fail
    have hz0 : (w.alloc (.cells #[.int .i64 lim, .slice (some ⟨gr, 0, none⟩) L.length capr] 29)).cell? ⟨w.heap.size, 1, none⟩ = some (.slice (some ⟨gr, 0, none⟩) L.length capr) := by rw [cell_of_row _ _ 1 _ _ _ (heap_alloc_new w _)]; rfl
    clear hoj
    generalize w.alloc (.cells #[.int .i64 lim, .slice (some ⟨gr, 0, none⟩) L.length capr] 29) = W at *
    go_loopg [9] L.length (fun q u9 wr => wr = W ∧ ∃ i : Nat, i + q = L.length ∧ u9 = .int .i64 i ∧ ∀ m, m < i → pubAt L k j m = false)
    case atStart => exact ⟨rfl, 0, by omega, rfl, fun m hm => by omega⟩
    case round =>
      obtain ⟨rfl, i, hiq, rfl, hno⟩ := hrel
      by_cases hlt : i < L.length
      · obtain ⟨ri0, ri1, ri2, ri3, ri4⟩ := HR.out i hlt
        have hki := HK.out i (by omega)
        have hi' : (i : Int) < L.length := by omega
        obtain ⟨d, hd⟩ : ∃ d, d = L.getD i zN := ⟨_, rfl⟩
        rw [← hd] at ri0 ri1 ri2 ri3 ri4
        have HNO := Lib.hid hno
        clear hno
        have HPA : Hid (pubAt L k j i = (k.getD i false && (decide (d.k = 2) && decide (d.a = j)))) := Lib.hid (by unfold pubAt; rw [hd])
        clear hd
        cases hkk : k.getD i false with
        | false =>
          rw [hkk] at hki HPA
          clear hkk
          go_wp2_with fail
          go_roundg (L.length - (i + 1))
          case rel => exact ⟨rfl, i + 1, by omega, by simp, fun m hm => by
            rcases Nat.lt_or_ge m i with e | e
            · exact HNO.out m e
            · obtain rfl : m = i := by omega
              rw [HPA.out]; simp⟩
          case measure => omega
        | true =>
          rw [hkk] at hki HPA
          clear hkk
          by_cases k2 : d.k = 2
          · rw [k2] at ri0
            by_cases ka : d.a = j
            · rw [ka] at ri2
              have HAN : Hid ((List.range L.length).any (pubAt L k j) = true) := Lib.hid (List.any_eq_true.2 ⟨i, List.mem_range.2 hlt, by rw [HPA.out]; simp [k2, ka]⟩)
              clear k2 ka
              go_wp2_with fail
              go_ret
              exact ⟨by rw [HAN.out]; rfl, HB0.out⟩
            · have hna : (d.a == (j : Int)) = false := by simpa using ka
              go_wp2_with fail
              go_roundg (L.length - (i + 1))
              case rel => exact ⟨rfl, i + 1, by omega, by simp, fun m hm => by
                rcases Nat.lt_or_ge m i with e | e
                · exact HNO.out m e
                · obtain rfl : m = i := by omega
                  rw [HPA.out]; simp [ka]⟩
              case measure => omega
          · have hn2 : (d.k == 2) = false := by simpa using k2
            go_wp2_with fail
            go_roundg (L.length - (i + 1))
            case rel => exact ⟨rfl, i + 1, by omega, by simp, fun m hm => by
              rcases Nat.lt_or_ge m i with e | e
              · exact HNO.out m e
              · obtain rfl : m = i := by omega
                rw [HPA.out]; simp [k2]⟩
            case measure => omega
      · obtain rfl : i = L.length := by omega
        have HAN : Hid ((List.range L.length).any (pubAt L k j) = false) := Lib.hid (by
          rw [List.any_eq_false]
          exact fun m hm => by rw [hno m (List.mem_range.1 hm)]; simp)
        clear hno
        go_wp2_with fail
        go_ret
        exact ⟨by rw [HAN.out]; rfl, HB0.out⟩
end Go.Proofs.YtlckajnbmkkpeaaDoor
