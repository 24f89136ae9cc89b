/- The walk of KnowCans: which terms can be made of what is known is the document's. -/
import Derived.Test.YtmnmjekpndeemaaDoorZe
import Derived.Test.YtmnmjekpndeemaaDoorZb1
namespace Go.Proofs.YtmnmjekpndeemaaDoor
open Go.RowKit Go.Maps

set_option maxRecDepth 100000 in
set_option maxHeartbeats 1000000 in
theorem few_any (s sr : Option Addr) (n m c cr : Nat) (w : World) : Calls Tryd.prog 8 #[.slice s n c, .slice sr m cr] w fun e w' => e = .returned (.bool (decide (n ≤ 30) && decide (m ≤ 30))) ∧ w = w' := by
  by_cases h1 : (n : Int) ≤ 30
  · by_cases h2 : (m : Int) ≤ 30
    · go_enter Tryd.func8, Tryd.ntmps8
      go_wp2_with fail
      go_ret
      exact ⟨by rw [show decide (n ≤ 30) = true by simp; omega, show decide (m ≤ 30) = true by simp; omega]; rfl, rfl⟩
    · have h2' : (30 : Int) < m := by omega
      go_enter Tryd.func8, Tryd.ntmps8
      go_wp2_with fail
      go_ret
      exact ⟨by rw [show decide (m ≤ 30) = false by simp; omega]; simp, rfl⟩
  · have h1' : (30 : Int) < n := by omega
    go_enter Tryd.func8, Tryd.ntmps8
    go_wp2_with fail
    go_ret
    exact ⟨by rw [show decide (n ≤ 30) = false by simp; omega]; simp, rfl⟩
theorem few_no {n m : Nat} (h : 30 < n ∨ 30 < m) : (decide (n ≤ 30) && decide (m ≤ 30)) = false := by
  rcases h with h | h
  · rw [show decide (n ≤ 30) = false by simp; omega]; rfl
  · rw [show decide (m ≤ 30) = false by simp; omega, Bool.and_false]
theorem few_yes {n m : Nat} (h1 : n ≤ 30) (h2 : m ≤ 30) : (decide (n ≤ 30) && decide (m ≤ 30)) = true := by simp [h1, h2]
set_option maxRecDepth 100000 in
set_option maxHeartbeats 1000000 in
theorem cans_long (s sr : Option Addr) (n m c cr : Nat) (hn : 30 < n ∨ 30 < m) (w : World) (hs : Shp w) : Calls Tryd.prog 4 #[.slice s n c, .slice sr m cr] w fun e w' => e = .returned (.bool true) ∧ Below w.heap.size w w' := by
  have HA := Lib.hid (awake_any w hs)
  have HF := Lib.hid (few_any s sr n m c cr w)
  rw [few_no hn] at HF
  clear hs hn
  go_enter Tryd.func4, Tryd.ntmps4
  go_wp2_with (first
    | (go_at_call 8; refine HF.out.mono ?_; rintro e w1 ⟨rfl, rfl⟩)
    | (go_at_call 9; refine HA.out.mono ?_; rintro e w2 ⟨rfl, hb2⟩))
  go_ret
  exact ⟨rfl, hb2⟩
/-- Where the loop over the answers stands. -/
structure Kc (w wv : World) (pb gr capr gc bk b g bm cap : Nat) (L : List Nd) (mk : Nat) (hv : Value) (hs : List Int) (K : Int → Bool) (rc : List Bool) : Prop where
  kx : Kx w wv bk b g bm cap 100 L mk hv hs K
  ap : Apart wv bk mk hv pb
  box : wv.heap[pb]? = some (.cells #[.int .i64 100, .slice (some ⟨gr, 0, none⟩) L.length capr] 29 (0, 0))
  ac : Apart wv bk mk hv gc
  br : BR wv gc rc
section
variable {w wv w' : World} {pb gr capr gc bk b g bm cap : Nat} {L : List Nd} {mk : Nat} {hv : Value} {hs : List Int} {K : Int → Bool} {rc : List Bool}
theorem Kc.keep (h : Kc w wv pb gr capr gc bk b g bm cap L mk hv hs K rc) (hb : Below wv.heap.size wv w') : Kc w w' pb gr capr gc bk b g bm cap L mk hv hs K rc :=
  ⟨h.kx.keep hb, (h.ap.keep hb).1, (h.ap.keep hb).2.trans h.box, (h.ac.keep hb).1, h.br.keep (h.ac.keep hb).2⟩
theorem Kc.can (h : Kc w wv pb gr capr gc bk b g bm cap L mk hv hs K rc) (hk : Kno w' bk b g bm cap 100 L mk hv hs K) (hp : Kp wv w' mk) : Kc w w' pb gr capr gc bk b g bm cap L mk hv hs K rc :=
  ⟨h.kx.can hk hp, (h.ap.can hp).1, (h.ap.can hp).2.trans h.box, (h.ac.can hp).1, h.br.keep (h.ac.can hp).2⟩
theorem Kc.z1 (h : Kc w wv pb gr capr gc bk b g bm cap L mk hv hs K rc) : wv.cell? ⟨pb, 1, none⟩ = some (.slice (some ⟨gr, 0, none⟩) L.length capr) := by rw [cell_of_row wv _ 1 _ _ _ h.box]; rfl
end
theorem rcan_known {L : List Nd} (hL : WF L) {refs : List Int} {K : Int → Bool} (hK : ∀ y, K y = true ↔ lrn L refs y) {i : Nat} (hi : i < L.length) : (rcan L (rlearn L refs (List.replicate L.length false)) L.length).getD i false = true ↔ Can L (fun x => K x = true) i := by
  rw [rcan_iff hL _ _ (Nat.le_refl _) i hi]
  have e : knB (rlearn L refs (List.replicate L.length false)) = fun x => K x = true := funext fun x => propext ((rlearn_any hL refs x).trans (hK x).symm)
  rw [e]
set_option maxRecDepth 100000 in
set_option maxHeartbeats 8000000 in
theorem cans_good (s sr : Option Addr) (c cr : Nat) (ns : List Nd) (refs : List Int) (hn : ns.length ≤ 30) (hm : refs.length ≤ 30) (w : World) (hs : Shp w) (hB : BuiltAt w (.slice s ns.length c) ns) (hI : IntsV w sr refs) : Calls Tryd.prog 4 #[.slice s ns.length c, .slice sr refs.length cr] w fun e w' => e = .returned (.bool true) ∧ Below w.heap.size w w' := by
  have HF := Lib.hid (few_any s sr ns.length refs.length c cr w)
  rw [few_yes hn hm] at HF
  have HLD := Lib.hid (learned_any canF s sr c cr ns refs hm w hB hI w (Below.refl _ _))
  have HAw := Lib.hid (fun w1 (h : Below w.heap.size w w1) => awake_any w1 (hs.below h))
  obtain ⟨L, hLe⟩ : ∃ L, L = bld 100 ns := ⟨_, rfl⟩
  rw [← hLe] at HLD
  clear hs hB hI hLe
  go_enter Tryd.func4, Tryd.ntmps4
  go_wp2_with (first
    | (go_at_call 8; refine HF.out.mono ?_; rintro e w1 ⟨rfl, rfl⟩)
    | (go_at_call 10; refine HLD.out.mono ?_; rintro e w2 ⟨bk, b, g, bm, cap, gr, capr, mk, hv, K, gn, co, rfl, hKx, hag, hrow, han, hob, hKl⟩
       have hL100 : L.length ≤ 100 := hKx.kn.ar.len
       have HWF := Lib.hid hKx.kn.ar.wf
       have HKL := Lib.hid hKl
       have hB2 : Below w2.heap.size w2 (w2.alloc (.cells #[.int .i64 100, .slice (some ⟨gr, 0, none⟩) L.length capr] 29)) := (Below.refl _ _).alloc (Nat.le_refl _) _
       have HCN := Lib.hid (canF L (rlearn L refs (List.replicate L.length false)) gr capr 100 gn co (w2.alloc (.cells #[.int .i64 100, .slice (some ⟨gr, 0, none⟩) L.length capr] 29)) HWF.out (hrow.keep (hB2.block _ hag.lt)) ((hob.keep (hB2.block _ han.lt)).at_) (Nat.lt_of_lt_of_le han.lt hB2.size) (by rw [rlearn_len, List.length_replicate]) (Nat.lt_of_lt_of_le hag.lt hB2.size) (by omega))
       have HST : Hid (∀ w3 gc, (w2.alloc (.cells #[.int .i64 100, .slice (some ⟨gr, 0, none⟩) L.length capr] 29)).heap.size ≤ gc → BR w3 gc (rcan L (rlearn L refs (List.replicate L.length false)) L.length) → Below (w2.alloc (.cells #[.int .i64 100, .slice (some ⟨gr, 0, none⟩) L.length capr] 29)).heap.size (w2.alloc (.cells #[.int .i64 100, .slice (some ⟨gr, 0, none⟩) L.length capr] 29)) w3 → Kc w w3 w2.heap.size gr capr gc bk b g bm cap L mk hv (refs.filter fun x => hasB L.length x) K (rcan L (rlearn L refs (List.replicate L.length false)) L.length)) := Lib.hid (fun w3 gc hgc hbr hb3 => by
         have hb4 := hB2.trans (hb3.mono hB2.size)
         have l1 := lt_of_heap hKx.kn.box
         have l2 := hKx.kn.kn.lt
         have l3 := fun k e => (hKx.kn.own.lt k e).2
         have hsz := World.size_alloc w2 (.cells #[.int .i64 100, .slice (some ⟨gr, 0, none⟩) L.length capr] 29)
         have hs3 := hb3.size
         refine ⟨hKx.keep hb4, ⟨by omega, by omega, by omega, fun e => by have := l3 _ e; omega⟩, (hb3.block _ (by omega)).trans (heap_alloc_new _ _), ⟨hbr.lt, by omega, by omega, fun e => by have := l3 _ e; omega⟩, hbr⟩)
       clear hKx hag hrow han hob hKl hB2)
    | (go_at_call 15; refine HCN.out.mono ?_; rintro e w3 ⟨gc, rfl, hgc, hbr, hb3⟩; have HK3 := Lib.hid (HST.out w3 gc hgc hbr hb3); clear hgc hbr hb3))
  have HRL : Hid ((rcan L (rlearn L refs (List.replicate L.length false)) L.length).length = L.length) := Lib.hid (rcan_len _ _ _)
  have HRK : Hid (∀ i : Nat, i < L.length → ((rcan L (rlearn L refs (List.replicate L.length false)) L.length).getD i false = true ↔ Can L (fun x => K x = true) i)) := Lib.hid (fun i hi => rcan_known HWF.out HKL.out hi)
  clear HST HCN
  generalize rcan L (rlearn L refs (List.replicate L.length false)) L.length = rc at *
  generalize w2.heap.size = pb at *
  generalize refs.filter (fun x => hasB L.length x) = hs at *
  go_loopg [9, 10, 30] L.length (fun q _ _ u30 wv => ∃ k : Nat, k + q = L.length ∧ u30 = .int .i64 k ∧ Kc w wv pb gr capr gc bk b g bm cap L mk hv hs K rc)
  case atStart => exact ⟨0, by omega, rfl, HK3.out⟩
  case round =>
    obtain ⟨k, hkq, rfl, hKc⟩ := hrel
    by_cases hlt : k < L.length
    · have hhas : hasB L.length (k : Int) = true := hasB_iff.2 ⟨by omega, by omega⟩
      have hlt' : (k : Int) < L.length := by omega
      have hgc : gc < wr.heap.size := hKc.br.lt
      have hcell := hKc.br.at_ k (by rw [HRL.out]; exact hlt)
      have hiff := HRK.out k hlt
      have HKC := Lib.hid hKc
      obtain ⟨y, hy⟩ : ∃ y, y = rc.getD k false := ⟨_, rfl⟩
      rw [← hy] at hcell hiff
      have HCA : Hid (Calls Tryd.prog 16 #[.pointer (some ⟨bk, 0, none⟩), .int .i64 (k : Int)] wr fun e w' => e = .returned (.bool y) ∧ Kno w' bk b g bm cap 100 L mk hv hs K ∧ Kp wr w' mk) := Lib.hid ((can_any HWF.out hKc.kx.kn (k : Int) hhas).mono (by
        rintro e w' ⟨d, rfl, hd, hN, hP⟩
        have e1 : d = y := by rw [Bool.eq_iff_iff]; exact hd.trans hiff.symm
        exact ⟨by rw [e1], hN, hP⟩))
      clear hKc hhas hiff hy
      cases y with
      | false =>
        go_wp2_with (go_at_call 16; refine HCA.out.mono ?_; rintro e w4 ⟨rfl, hN4, hP4⟩)
        go_roundg (L.length - (k + 1))
        case rel => exact ⟨k + 1, by omega, by simp, HKC.out.can hN4 hP4⟩
        case measure => omega
      | true =>
        go_wp2_with (go_at_call 16; refine HCA.out.mono ?_; rintro e w4 ⟨rfl, hN4, hP4⟩)
        go_roundg (L.length - (k + 1))
        case rel => exact ⟨k + 1, by omega, by simp, HKC.out.can hN4 hP4⟩
        case measure => omega
    · obtain rfl : k = L.length := by omega
      have z1 := hKc.z1
      have hpl : pb < wr.heap.size := lt_of_heap hKc.box
      have HKC := Lib.hid hKc
      have hno : hasB L.length (L.length : Int) = false := by
        cases e : hasB L.length (L.length : Int) with
        | false => rfl
        | true => have := hasB_iff.1 e; omega
      have HKn : Hid (K (L.length : Int) = false) := Lib.hid (by
        cases e : K (L.length : Int) with
        | false => rfl
        | true => have := hKc.kx.kn.kh _ e; rw [hno] at this; cases this)
      have HC1 : Hid (Calls Tryd.prog 16 #[.pointer (some ⟨bk, 0, none⟩), .int .i64 (-1)] wr fun e w' => e = .returned (.bool false) ∧ Below wr.heap.size wr w') := Lib.hid (can_out hKc.kx.kn (-1) (hasB_not.2 (by omega)) ⟨by omega, by omega⟩)
      have HC2 : Hid (∀ w', Below wr.heap.size wr w' → Calls Tryd.prog 16 #[.pointer (some ⟨bk, 0, none⟩), .int .i64 (L.length : Int)] w' fun e w'' => e = .returned (.bool false) ∧ Below w'.heap.size w' w'') := Lib.hid (fun w' hb => can_out (HKC.out.keep hb).kx.kn _ hno ⟨by omega, by omega⟩)
      have HKN : Hid (∀ w', Below wr.heap.size wr w' → Calls Tryd.prog 12 #[.pointer (some ⟨bk, 0, none⟩), .int .i64 (L.length : Int)] w' fun e w'' => e = .returned (.bool false) ∧ Below w'.heap.size w' w'') := Lib.hid (fun w' hb => by
        have := knows_any (L.length : Int) ⟨by omega, by omega⟩ w' (HKC.out.keep hb).kx.kn.kw
        rw [HKn.out] at this
        exact this)
      have HZ : Hid (∀ w', Below wr.heap.size wr w' → w'.cell? ⟨pb, 1, none⟩ = some (.slice (some ⟨gr, 0, none⟩) L.length capr) ∧ pb < w'.heap.size) := Lib.hid (fun w' hb => ⟨(HKC.out.keep hb).z1, lt_of_heap (HKC.out.keep hb).box⟩)
      have HA5 : Hid (∀ w', Below wr.heap.size wr w' → Calls Tryd.prog 9 #[] w' fun e w'' => e = .returned (.bool true) ∧ Below w'.heap.size w' w'') := Lib.hid (fun w' hb => HAw.out _ (HKC.out.keep hb).kx.st.bel)
      clear hKc
      go_wp2_with (first
        | (go_at_call 9; refine (HA5.out _ hb6).mono ?_; rintro e w7 ⟨rfl, hb7⟩)
        | (go_at_call 12; refine (HKN.out _ hb5).mono ?_; rintro e w6 ⟨rfl, hb6'⟩; have hb6 := hb5.trans (hb6'.mono hb5.size); clear hb6')
        | (go_at_call 16; have _k := hb4; refine (HC2.out _ hb4).mono ?_; rintro e w5 ⟨rfl, hb5'⟩; have hb5 := hb4.trans (hb5'.mono hb4.size); obtain ⟨z5, hp5⟩ := HZ.out _ hb5; clear hb5')
        | (go_at_call 16; refine HC1.out.mono ?_; rintro e w4 ⟨rfl, hb4⟩; obtain ⟨z4, hp4⟩ := HZ.out _ hb4))
      go_ret
      exact ⟨rfl, (HKC.out.keep (hb6.trans (hb7.mono hb6.size))).kx.st.bel⟩
end Go.Proofs.YtmnmjekpndeemaaDoor
