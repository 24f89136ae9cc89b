/- Layer 6: walks of Names, copyTokens, canBePre. -/
import Derived.Test.YtobpnjjgpoompaaGreatDoorBb
import Derived.Test.YtobpnjjgpoompaaGreatDoorNb
namespace Go.Proofs.YtobpnjjgpoompaaGreatDoor
open Go.RowKit Go.Shelf

def nmVs (k : Nat) : List Value := (List.range k).map fun j => Value.string (tb (2 * j))
theorem nmVs_succ (k : Nat) : nmVs (k + 1) = nmVs k ++ [.string (tb (2 * k))] := by unfold nmVs; rw [List.range_succ, List.map_append]; rfl
theorem nmVs_at {k j : Nat} (h : j < k) : (nmVs k)[j]? = some (.string (tb (2 * j))) := by unfold nmVs; simp [h]
set_option maxRecDepth 100000 in
set_option maxHeartbeats 4000000 in
theorem copyTokens_any (s : Option Addr) (c : Nat) (l : List Int) (w : World) (hi : IntsV w s l) (hl : l.length ≤ 4096) : Calls Tryz.prog 51 #[.slice s l.length c] w fun e w' => ∃ s' c', e = .returned (.slice s' l.length c') ∧ w'.ownsRow w.heap.size 3 1 (.slice s' l.length c') l.length (l.map (Value.int .i64)) ∧ Below w.heap.size w w' := by
  obtain ⟨i0, hi0, hz0, hz1, hz2⟩ := info_parts Tryz.infoI
  by_cases h0 : l = []
  · subst h0
    clear hi
    simp only [List.length_nil]
    rcases s with _ | ⟨ab, ao, asp⟩
    all_goals
      go_enter Tryz.func51, Tryz.ntmps51
      go_wp2
      go_ret
      exact ⟨_, _, rfl, World.ownsRow_nil _ _ _ _, Below.refl _ _⟩
  · obtain ⟨g, o, rfl, hia⟩ := hi (List.length_pos_iff.2 h0)
    have HI := Lib.hid hia; clear hia
    have HL := Lib.hid hl
    go_enter Tryz.func51, Tryz.ntmps51
    go_wp2_with (at_builtin; refine wpList_append_own _ rfl _ _ 22 rfl w.heap.size 3 i0 (.int .i64 0) 1 8 Tryz.underlying22 hi0 hz0 hz1 hz2 rfl (by decide) _ _ _ rfl (World.ownsRow_nil _ _ _ _) ⟨g, o, none⟩ l.length c (l.map (Value.int .i64)) rfl (by simp) ?c1 ?c2 ?c3 ?c4 ?c5 ?_)
    case c1 =>
      intro j u hj
      simp only [List.getElem?_map, Option.map_eq_some_iff] at hj
      obtain ⟨x, hx, rfl⟩ := hj
      obtain ⟨hj', e⟩ := List.getElem?_eq_some_iff.1 hx
      have := HI.out j hj'
      rw [List.getD_eq_getElem?_getD, hx] at this
      rw [Addr.add_lit]; simpa using this
    case c2 => intro u hu; simp at hu; obtain ⟨a, _, rfl⟩ := hu; rfl
    case c3 => unfold maxLen; omega
    case c4 => omega
    case c5 => simp
    intro v3 w3 hown3 hgr3 _
    have HR : Hid (w3.ownsRow w.heap.size 3 1 v3 l.length (l.map (Value.int .i64)) ∧ Below w.heap.size w w3) := Lib.hid ⟨by simpa using hown3, (Below.refl w.heap.size w).grown hgr3 (Nat.le_refl _) (fun k e => by cases e)⟩
    clear hown3 hgr3
    obtain ⟨sp, cp, rfl⟩ := own_slice HR.out.1
    go_wp2_with fail
    go_ret
    exact ⟨sp, cp, rfl, HR.out.1, HR.out.2⟩

end Go.Proofs.YtobpnjjgpoompaaGreatDoor
