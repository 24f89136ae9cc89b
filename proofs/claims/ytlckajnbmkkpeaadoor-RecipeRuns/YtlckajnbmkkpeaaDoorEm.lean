/- Layer 4: what was heard, whatever it is; what the document fixes of the attacker's own key (awake). -/
import Derived.Test.YtlckajnbmkkpeaaDoorEl
import Derived.Shelf.SlicesE.Clone
namespace Go.Proofs.YtlckajnbmkkpeaaDoor
open Go.RowKit Go.Maps Go.Shelf

set_option maxRecDepth 100000 in
set_option maxHeartbeats 1000000 in
theorem heard_any {w : World} {bk b g bm cap lim : Nat} {L : List Nd} {mk : Nat} {hv : Value} {hs : List Int} {K : Int → Bool} (h : Kno w bk b g bm cap lim L mk hv hs K) (hm : hs.length ≤ 1000001) : HdC w bk hs := by
  unfold HdC
  have c1 := h.kw.c1
  rcases h.own.2 with ⟨rfl, e0⟩ | ⟨gh, ch, cur, rfl, _⟩
  · have e0' : hs = [] := List.eq_nil_of_length_eq_zero e0
    subst e0'
    have HC := Lib.hid (AnyE.slices_Clone_nil Tryd.cloneI 0 0 w)
    clear h
    go_enter Tryd.func17, Tryd.ntmps17
    go_wp2_with (go_at_call 36; refine HC.out.mono ?_; rintro e w1 ⟨rfl, rfl⟩)
    go_ret
    exact ⟨none, 0, rfl, fun h0 => absurd h0 (Nat.lt_irrefl 0), fun p hp => (by cases hp), Below.refl _ _⟩
  · have HC := Lib.hid (cloneI_some gh ch hs w hm (fun i hi => by
      rw [h.own.cellAt i (by omega), List.getElem?_map, List.getElem?_eq_getElem hi, List.getD_eq_getElem?_getD, List.getElem?_eq_getElem hi]; rfl))
    clear h
    go_enter Tryd.func17, Tryd.ntmps17
    go_wp2_with (go_at_call 36; refine HC.out.mono ?_; rintro e w1 ⟨v', rfl, hown, hne, hb1⟩)
    go_ret
    obtain ⟨s, c, rfl, hi, hp⟩ := own_sl hown
    exact ⟨s, c, rfl, hi, fun p hq => ⟨(hp p hq).2, (hown.lt _ (hp p hq).1).2⟩, hb1⟩
end Go.Proofs.YtlckajnbmkkpeaaDoor
