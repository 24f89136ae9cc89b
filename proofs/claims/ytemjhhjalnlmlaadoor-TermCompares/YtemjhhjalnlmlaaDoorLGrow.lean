/- The walk of TermGrows: each term is made of terms ahead of it; Empty is the first one. -/
import Derived.Test.YtemjhhjalnlmlaaDoorWr
namespace Go.Proofs.YtemjhhjalnlmlaaDoor
open Go.RowKit Go.Maps

/-- What a law asks of its list of nodes: Built's contract at it, in whatever later world. -/
def BuiltAt (w : World) (v : Value) (ns : List Nd) : Prop := ∀ (x : Int) (lim : Nat), limZ x = lim → ∀ W, Below w.heap.size w W → Calls Tryd.prog 12 #[.int .i64 x, v] W (BuiltPost lim ns W)

theorem Pair.pos {w wr : World} {b g bm cap gr capr lim : Nat} {L : List Nd} (h : Pair w wr b g bm cap gr capr lim L) : 0 < L.length := h.st.ar.wf.pos

set_option maxHeartbeats 1000000 in
theorem grows_long (s : Option Addr) (n c : Nat) (hn : 40 < n) (hm : n ≤ maxLen) (w : World) (hs : Shp w) :
    Calls Tryd.prog 8 #[.slice s n c] w fun e w' => e = .returned (.bool true) ∧ Below w.heap.size w w' := by
  unfold maxLen at hm
  have HW := Lib.hid (awake_any w hs)
  have hn1 : (40 : Int) < (n : Int) := by omega
  go_enter Tryd.func8, Tryd.ntmps8
  go_wp2_with (go_at_call 11; refine HW.out.mono ?_; rintro e w5 ⟨rfl, hb5⟩)
  go_ret
  exact ⟨rfl, hb5⟩

set_option maxHeartbeats 4000000 in
theorem grows_good (s : Option Addr) (c : Nat) (ns : List Nd) (hn : ns.length ≤ 40) (w : World) (hs : Shp w) (hB : BuiltAt w (.slice s ns.length c) ns) :
    Calls Tryd.prog 8 #[.slice s ns.length c] w fun e w' => e = .returned (.bool true) ∧ Below w.heap.size w w' := by
  have HS := Lib.hid hs; clear hs
  have HB := Lib.hid (hB 1000 1000 (by decide) w (Below.refl _ _)); clear hB
  have hn1 : decide ((40 : Int) < (ns.length : Int)) = false := by simp; omega
  go_enter Tryd.func8, Tryd.ntmps8
  go_wp2_with fail
  refine HB.out.mono ?_
  rintro e w1 ⟨b, g, bm, cap, gr, capr, rfl, hP⟩
  obtain ⟨L, hL⟩ : ∃ L, L = bld 1000 ns := ⟨_, rfl⟩
  rw [← hL] at hP ⊢
  clear hL
  have HP := Lib.hid hP; clear hP
  have hm : L.length ≤ 65536 := HP.out.st.ar.small
  have hpos := HP.out.pos
  go_wp2_with fail
  go_loopg [6, 7, 8] L.length (fun r u6 _ _ wr => ∃ k : Nat, 1 ≤ k ∧ k ≤ L.length ∧ k + r = L.length + 1 ∧ u6 = .int .i64 k ∧ Below w1.heap.size w1 wr)
  case atStart => exact ⟨1, by omega, by omega, by omega, rfl, (Below.refl _ _).alloc (Nat.le_refl _) _⟩
  case round =>
    obtain ⟨k, hk1, hkl, hkr, rfl, hbel⟩ := hrel
    have HPr := Lib.hid (HP.out.below hbel)
    have HLEN := Lib.hid (len_any b (some ⟨g, 0, none⟩) L.length cap wr HPr.out.st.ar.c0)
    by_cases hlt : k < L.length
    · have HG := Lib.hid (get_yes b g bm cap 1000 L k hlt wr HPr.out.st.ar)
      have hpt := HP.out.st.ar.wf.parts k hlt
      have hnz : L.getD k zN ≠ zN := fun e => by
        have h0 : L.getD 0 zN = zN := by rw [List.getD_eq_getElem?_getD, HP.out.st.ar.wf.head]; rfl
        have := HP.out.st.ar.wf.nodup k 0 hlt (by omega) (e.trans h0.symm)
        omega
      obtain ⟨m, hmm⟩ : ∃ m, m = L.getD k zN := ⟨_, rfl⟩
      rw [← hmm] at hpt hnz
      have HG2 : Hid (Calls Tryd.prog 16 #[.pointer (some ⟨b, 0, none⟩), .int .i64 k] wr fun e w' => e = .returned (.tuple #[agg m, .bool true]) ∧ Below wr.heap.size wr w') := Lib.hid (by rw [hmm]; exact HG.out)
      clear hmm HG
      obtain ⟨k1, n1, a1, b1, e1⟩ := m
      unfold agg at HG2
      simp only at hpt HG2
      unfold inAt at hpt
      have p1 : a1 < (k : Int) := by omega
      have p2 : b1 < (k : Int) := by omega
      have p3 : e1 < (k : Int) := by omega
      have g1 : ¬ (k : Int) ≤ a1 := by omega
      have g2 : ¬ (k : Int) ≤ b1 := by omega
      have g3 : ¬ (k : Int) ≤ e1 := by omega
      have d1 : decide ((k : Int) ≤ a1) = false := by simpa using g1
      have d2 : decide ((k : Int) ≤ b1) = false := by simpa using g2
      have d3 : decide ((k : Int) ≤ e1) = false := by simpa using g3
      clear hpt g1 g2 g3 p1 p2 p3
      have hcase : k1 ≠ 0 ∨ (k1 = 0 ∧ n1 ≠ 0) ∨ (k1 = 0 ∧ n1 = 0 ∧ a1 ≠ 0) ∨ (k1 = 0 ∧ n1 = 0 ∧ a1 = 0 ∧ b1 ≠ 0) ∨ (k1 = 0 ∧ n1 = 0 ∧ a1 = 0 ∧ b1 = 0 ∧ e1 ≠ 0) := by
        by_cases q1 : k1 = 0
        · by_cases q2 : n1 = 0
          · by_cases q3 : a1 = 0
            · by_cases q4 : b1 = 0
              · by_cases q5 : e1 = 0
                · exact absurd (Nd.ext5 q1 q2 q3 q4 q5) hnz
                · exact .inr (.inr (.inr (.inr ⟨q1, q2, q3, q4, q5⟩)))
              · exact .inr (.inr (.inr (.inl ⟨q1, q2, q3, q4⟩)))
            · exact .inr (.inr (.inl ⟨q1, q2, q3⟩))
          · exact .inr (.inl ⟨q1, q2⟩)
        · exact .inl q1
      clear hnz
      rcases hcase with h | ⟨rfl, h⟩ | ⟨rfl, rfl, h⟩ | ⟨rfl, rfl, rfl, h⟩ | ⟨rfl, rfl, rfl, rfl, h⟩
      all_goals
        have hq := beq_eq_false_iff_ne.2 h
        clear h
        go_wp2_with (first
          | (go_at_call 17; refine HLEN.out.mono ?_; rintro e w' ⟨rfl, rfl⟩)
          | (go_at_call 16; refine HG2.out.mono ?_; rintro e w3 ⟨rfl, hb3⟩))
        go_roundg (L.length - k)
        case measure => omega
        case rel => exact ⟨k + 1, by omega, by omega, by omega, by go_num, (hbel.trans (hb3.mono hbel.size)).alloc (Nat.le_trans hbel.size hb3.size) _⟩
    · obtain rfl : k = L.length := by omega
      have hlt1 : decide ((L.length : Int) < (L.length : Int)) = false := by simp
      have HG := Lib.hid (get_yes b g bm cap 1000 L 0 hpos wr HPr.out.st.ar)
      have h0 : agg (L.getD 0 zN) = .agg #[.int .i64 0, .int .u64 0, .int .i64 0, .int .i64 0, .int .i64 0] := by rw [List.getD_eq_getElem?_getD, HP.out.st.ar.wf.head]; rfl
      rw [h0] at HG
      clear h0
      have HAW := Lib.hid (fun W (hW : Below w1.heap.size w1 W) => awake_any W ((HP.out.below hW).st.shp HS.out))
      go_wp2_with (first
        | (go_at_call 17; refine HLEN.out.mono ?_; rintro e w' ⟨rfl, rfl⟩)
        | (go_at_call 16; refine HG.out.mono ?_; rintro e w3 ⟨rfl, hb3⟩; have hb4 := (hbel.trans (hb3.mono hbel.size)))
        | (go_at_call 11; refine (HAW.out _ (hb4.alloc hb4.size _)).mono ?_; rintro e w5 ⟨rfl, hb5⟩))
      go_ret
      have hb6 := (hb4.alloc hb4.size _).trans (hb5.mono (hb4.alloc hb4.size _).size)
      exact ⟨rfl, HP.out.st.bel.trans (hb6.mono HP.out.st.bel.size)⟩
end Go.Proofs.YtemjhhjalnlmlaaDoor
