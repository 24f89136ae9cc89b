/- Layer 6: walks of Names, copyTokens, canBePre. -/
import Derived.Test.YtjnijppghgemeaaDoorBb
import Derived.Test.YtjnijppghgemeaaDoorNb
namespace Go.Proofs.YtjnijppghgemeaaDoor
open Go.RowKit Go.Shelf

def nmVs (k : Nat) : List Value := (List.range k).map fun j => Value.string (tb (2 * j))
theorem nmVs_succ (k : Nat) : nmVs (k + 1) = nmVs k ++ [.string (tb (2 * k))] := by unfold nmVs; rw [List.range_succ, List.map_append]; rfl
theorem nmVs_at {k j : Nat} (h : j < k) : (nmVs k)[j]? = some (.string (tb (2 * j))) := by unfold nmVs; simp [h]
set_option maxRecDepth 100000 in
set_option maxHeartbeats 4000000 in
theorem names_any (w : World) (hE : Eb w) : Calls Tryd.prog 21 #[] w fun e w' => ∃ s c, e = .returned (.slice s 15 c) ∧ w'.ownsRow w.heap.size 9 1 (.slice s 15 c) 15 (nmVs 15) ∧ Below w.heap.size w w' := by
  obtain ⟨i0, hi0, hz0, hz1, hz2⟩ := info_parts Tryd.infoS
  have HE := Lib.hid hE; clear hE
  go_enter Tryd.func21, Tryd.ntmps21
  go_wp2_with (refine wpList_load_tbl rfl _ rfl rfl HE.out ?_)
  go_loopg [1, 3, 5] 15 (fun q u1 _ u5 wr => ∃ k : Nat, k + q = 15 ∧ u5 = .int .i64 k ∧ Aside (wr.ownsRow w.heap.size 9 1 u1 k (nmVs k)) ∧ Aside (Below w.heap.size w wr))
  case atStart => exact ⟨0, by omega, rfl, World.ownsRow_nil _ _ _ _, Below.refl _ _⟩
  case round =>
    obtain ⟨k, hkq, rfl, hown, hbr⟩ := hrel
    obtain ⟨sp, cp, rfl⟩ := own_slice hown.out
    by_cases hlt : k < 15
    · have hk2 : (k : Int) < 15 := by omega
      have hix := tbl_idx k hlt
      go_wp2_with (at_builtin; refine wpList_append_own _ rfl _ _ 50 rfl w.heap.size 9 i0 (.string ByteArray.empty) 1 16 Tryd.underlying50 hi0 hz0 hz1 hz2 rfl (by decide) _ _ _ rfl (World.ownsRow.alloc (World.ownsRow.alloc hown.out _) _) ⟨wr.heap.size + 1, 0, none⟩ 1 1 [.string (tb (2 * k))] rfl rfl ?c1 ?c2 ?c3 ?c4 ?c5 ?_)
      case c1 =>
        intro j u hj
        match j, hj with
        | 0, hj => simp at hj; subst hj; simp [Addr.add]
      case c2 => intro u hu; simp at hu; subst hu; rfl
      case c3 => unfold maxLen; omega
      case c4 => omega
      case c5 => have := hbr.out.size; simp; omega
      intro v3 w3 hown3 hgr3 _
      have HR : Hid (w3.ownsRow w.heap.size 9 1 v3 (k + 1) (nmVs (k + 1)) ∧ Below w.heap.size w w3) := Lib.hid (by
        refine ⟨by rw [nmVs_succ]; exact hown3, ?_⟩
        exact ((hbr.out.alloc hbr.out.size _).alloc (by have := hbr.out.size; simp; omega) _).grown hgr3 (by have := hbr.out.size; simp; omega) (fun k e => (hown.out.lt k e).1))
      clear hown3 hgr3
      go_wp2_with fail
      go_roundg (15 - (k + 1))
      case rel => exact ⟨k + 1, by omega, by go_num, HR.out.1, HR.out.2⟩
      case measure => omega
    · have hk2 : ¬ (k : Int) < 15 := by omega
      obtain rfl : k = 15 := by omega
      go_wp2_with fail
      go_ret
      exact ⟨sp, cp, rfl, hown.out, hbr.out⟩

set_option maxRecDepth 100000 in
set_option maxHeartbeats 4000000 in
theorem copyTokens_any (s : Option Addr) (c : Nat) (l : List Int) (w : World) (hi : IntsV w s l) (hl : l.length ≤ 4096) : Calls Tryd.prog 46 #[.slice s l.length c] w fun e w' => ∃ s' c', e = .returned (.slice s' l.length c') ∧ w'.ownsRow w.heap.size 3 1 (.slice s' l.length c') l.length (l.map (Value.int .i64)) ∧ Below w.heap.size w w' := by
  obtain ⟨i0, hi0, hz0, hz1, hz2⟩ := info_parts Tryd.infoI
  by_cases h0 : l = []
  · subst h0
    clear hi
    simp only [List.length_nil]
    rcases s with _ | ⟨ab, ao, asp⟩
    all_goals
      go_enter Tryd.func46, Tryd.ntmps46
      go_wp2
      go_ret
      exact ⟨_, _, rfl, World.ownsRow_nil _ _ _ _, Below.refl _ _⟩
  · obtain ⟨g, o, rfl, hia⟩ := hi (List.length_pos_iff.2 h0)
    have HI := Lib.hid hia; clear hia
    have HL := Lib.hid hl
    go_enter Tryd.func46, Tryd.ntmps46
    go_wp2_with (at_builtin; refine wpList_append_own _ rfl _ _ 22 rfl w.heap.size 3 i0 (.int .i64 0) 1 8 Tryd.underlying22 hi0 hz0 hz1 hz2 rfl (by decide) _ _ _ rfl (World.ownsRow_nil _ _ _ _) ⟨g, o, none⟩ l.length c (l.map (Value.int .i64)) rfl (by simp) ?c1 ?c2 ?c3 ?c4 ?c5 ?_)
    case c1 =>
      intro j u hj
      simp only [List.getElem?_map, Option.map_eq_some_iff] at hj
      obtain ⟨x, hx, rfl⟩ := hj
      obtain ⟨hj', e⟩ := List.getElem?_eq_some_iff.1 hx
      have := HI.out j hj'
      rw [List.getD_eq_getElem?_getD, hx] at this
      rw [Addr.add_lit]; simpa using this
    case c2 => intro u hu; simp at hu; obtain ⟨a, _, rfl⟩ := hu; rfl
    case c3 => unfold maxLen; omega
    case c4 => omega
    case c5 => simp
    intro v3 w3 hown3 hgr3 _
    have HR : Hid (w3.ownsRow w.heap.size 3 1 v3 l.length (l.map (Value.int .i64)) ∧ Below w.heap.size w w3) := Lib.hid ⟨by simpa using hown3, (Below.refl w.heap.size w).grown hgr3 (Nat.le_refl _) (fun k e => by cases e)⟩
    clear hown3 hgr3
    obtain ⟨sp, cp, rfl⟩ := own_slice HR.out.1
    go_wp2_with fail
    go_ret
    exact ⟨sp, cp, rfl, HR.out.1, HR.out.2⟩

end Go.Proofs.YtjnijppghgemeaaDoor
