/- Layer 4: the walk of kitchen: an arena, the reference's, what is known behind refs that are learned. -/
import Derived.Test.YtlckajnbmkkpeaaDoorEk
import Derived.Test.YtlckajnbmkkpeaaDoorZe
namespace Go.Proofs.YtlckajnbmkkpeaaDoor
open Go.RowKit Go.Maps

/-- What kitchen leaves. -/
def KtPost (x : Int) (lim : Nat) (L : List Nd) (refs : List Int) (w : World) (e : Ending) (w' : World) : Prop :=
  ∃ bk b g bm cap gr capr mk hv K, e = .returned (.tuple #[.pointer (some ⟨b, 0, none⟩), .agg #[.int .i64 lim, .slice (some ⟨gr, 0, none⟩) L.length capr], .pointer (some ⟨bk, 0, none⟩)]) ∧
    Kx w w' bk b g bm cap lim L mk hv (refs.filter fun x => hasB L.length x) K ∧ Apart w' bk mk hv gr ∧ rowAt w' gr L ∧ (∀ y, K y = true ↔ lrn L refs y)

set_option maxRecDepth 100000 in
set_option maxHeartbeats 8000000 in
theorem kitchen_any (s sr : Option Addr) (c cr : Nat) (ns : List Nd) (refs : List Int) (x : Int) (lim : Nat) (hx : limZ x = lim) (hn : refs.length ≤ 30) (w : World) (hB : BuiltAt w (.slice s ns.length c) ns) (hI : IntsV w sr refs) (W : World) (hW : Below w.heap.size w W) :
    Calls Tryd.prog 24 #[.int .i64 x, .slice s ns.length c, .slice sr refs.length cr] W (KtPost x lim (bld lim ns) refs W) := by
  obtain ⟨L, hLe, HBu⟩ : ∃ L, L = bld lim ns ∧ Hid (Calls Tryd.prog 19 #[.int .i64 x, .slice s ns.length c] (W.alloc (.cells #[.int .i64 0, .slice none 0 0] 29)) fun e w' => ∃ b g bm cap gr capr, e = .returned (.tuple #[.pointer (some ⟨b, 0, none⟩), .agg #[.int .i64 lim, .slice (some ⟨gr, 0, none⟩) L.length capr], .bool true]) ∧ Pair (W.alloc (.cells #[.int .i64 0, .slice none 0 0] 29)) w' b g bm cap gr capr lim L) := ⟨bld lim ns, rfl, Lib.hid (hB x lim hx _ (hW.alloc hW.size _))⟩
  rw [← hLe]
  have HIV := Lib.hid (hI.keep hW)
  clear hB hI hLe hW hx
  have hn' : ¬ (30 : Int) < (refs.length : Int) := by omega
  go_enter Tryd.func24, Tryd.ntmps24
  go_wp2_with (first
    | (go_at_call 19; refine HBu.out.mono ?_; rintro e w1 ⟨b, g, bm, cap, gr, capr, rfl, hP⟩)
    | (go_at_call 30; refine (ky_new hP).mono ?_; rintro e w2 ⟨bk, mk, rfl, hK2⟩; have HK2 := Lib.hid hK2; clear hK2))
  have hW1 : (W.alloc (.cells #[.int .i64 0, .slice none 0 0] 29)).heap.size = W.heap.size + 1 := by simp
  have HWB : Hid (Below W.heap.size W (W.alloc (.cells #[.int .i64 0, .slice none 0 0] 29))) := Lib.hid ((Below.refl _ _).alloc (Nat.le_refl _) _)
  have HRB : Hid ((W.alloc (.cells #[.int .i64 0, .slice none 0 0] 29)).heap[W.heap.size]? = some (.cells #[.int .i64 0, .slice none 0 0] 29 (0, 0))) := Lib.hid (heap_alloc_new _ _)
  clear hP HBu
  generalize W.alloc (.cells #[.int .i64 0, .slice none 0 0] 29) = W1 at *
  generalize w1.heap.size = pb at *
  have hlen9 : refs.length ≤ 30 := hn
  go_loopg [14, 37] refs.length (fun q _ u37 wr => ∃ i : Nat, i + q = refs.length ∧ u37 = .int .i64 i ∧ ∃ hv K, Aside (Ky W1 wr pb gr capr bk b g bm cap lim L mk hv ((refs.take i).filter fun x => hasB L.length x) K ∧ ∀ y, K y = true ↔ lrn L (refs.take i) y))
  case atStart => exact ⟨0, by omega, rfl, _, _, ⟨HK2.out, fun y => ⟨fun h => (by cases h), fun h => absurd h (lrn_nil L y)⟩⟩⟩
  case round =>
    obtain ⟨i, hiq, rfl, hv, K, hAs⟩ := hrel
    obtain ⟨hKy, hKl⟩ := hAs.out
    clear hAs
    have z0 := hKy.z0
    have z1 := hKy.z1
    have lz := hKy.ap.lt
    by_cases hlt : i < refs.length
    · obtain ⟨gl, ol, rfl, hgl, hia⟩ := HIV.out (by omega)
      have hbw : Below W.heap.size W wr := HWB.out.trans (hKy.kx.st.bel.mono (by omega))
      have hx0 : wr.cell? ⟨gl, ol + i, none⟩ = some (.int .i64 (refs.getD i 0)) := (hia.keep (hbw.block _ hgl)) i hlt
      have hi' : (i : Int) < refs.length := by omega
      have htk : refs.take (i + 1) = refs.take i ++ [refs.getD i 0] := by
        rw [List.take_succ_eq_append_getElem hlt, List.getD_eq_getElem?_getD, List.getElem?_eq_getElem hlt]; rfl
      obtain ⟨x, hx⟩ : ∃ x, x = refs.getD i 0 := ⟨_, rfl⟩
      rw [← hx] at hx0 htk
      have HTK := Lib.hid htk
      have hlen : ((refs.take i).filter fun x => hasB L.length x).length ≤ 1000000 := Nat.le_trans (List.length_filter_le _ _) (by rw [List.length_take]; omega)
      have HKY := Lib.hid hKy
      have HKL := Lib.hid hKl
      clear hKl hia hx htk hbw
      cases hh : hasB L.length x with
      | true =>
        have HLE := Lib.hid (learn_any hKy.kx.kn hlen x hh)
        have HNX : Hid (∀ w3 hv3 K3, Ky W1 w3 pb gr capr bk b g bm cap lim L mk hv3 (((refs.take i).filter fun x => hasB L.length x) ++ [x]) K3 → (∀ y, K3 y = true ↔ cl L (fun z => K z = true ∨ z = x) y) → ∃ hv K, Aside (Ky W1 w3 pb gr capr bk b g bm cap lim L mk hv ((refs.take (i + 1)).filter fun x => hasB L.length x) K ∧ ∀ y, K y = true ↔ lrn L (refs.take (i + 1)) y)) := Lib.hid (fun w3 hv3 K3 h1 h2 => ⟨hv3, K3, ⟨by rw [HTK.out, filter_snoc, if_pos hh]; exact h1, fun y => by
          rw [h2 y, HTK.out, lrn_snoc hh]
          have e : (fun z => K z = true ∨ z = x) = fun z => lrn L (refs.take i) z ∨ z = x := funext fun z => propext (or_congr (HKL.out z) Iff.rfl)
          rw [e]⟩⟩)
        clear hKy hh
        go_wp2_with (go_at_call 22; refine HLE.out.mono ?_; rintro e w3 ⟨hv3, K3, rfl, hN3, hC3, hL3⟩; have hK3 := HKY.out.learn hN3 hL3; have HK3 := Lib.hid hK3; have HC3 := Lib.hid hC3; clear hN3 hL3 hK3 hC3)
        go_roundg (refs.length - (i + 1))
        case rel => exact ⟨i + 1, by omega, by simp, HNX.out _ _ _ HK3.out HC3.out⟩
        case measure => omega
      | false =>
        have HLE := Lib.hid (learn_bad hKy.kx.kn x hh)
        have HNX : Hid (∀ w3, Ky W1 w3 pb gr capr bk b g bm cap lim L mk hv ((refs.take i).filter fun x => hasB L.length x) K → ∃ hv K, Aside (Ky W1 w3 pb gr capr bk b g bm cap lim L mk hv ((refs.take (i + 1)).filter fun x => hasB L.length x) K ∧ ∀ y, K y = true ↔ lrn L (refs.take (i + 1)) y)) := Lib.hid (fun w3 h1 => ⟨hv, K, ⟨by rw [HTK.out, filter_snoc, if_neg (by rw [hh]; simp)]; exact h1, fun y => by rw [HTK.out, lrn_skip hh]; exact HKL.out y⟩⟩)
        clear hKy hh
        go_wp2_with (go_at_call 22; refine HLE.out.mono ?_; rintro e w3 ⟨rfl, hb3⟩; have hK3 := HKY.out.keep hb3; have HK3 := Lib.hid hK3; clear hb3 hK3)
        go_roundg (refs.length - (i + 1))
        case rel => exact ⟨i + 1, by omega, by simp, HNX.out _ HK3.out⟩
        case measure => omega
    · obtain rfl : i = refs.length := by omega
      rw [List.take_length] at hKy hKl
      have HKY := Lib.hid hKy
      have HKL := Lib.hid hKl
      have hbx : wr.heap[W.heap.size]? = some (.cells #[.int .i64 0, .slice none 0 0] 29 (0, 0)) := (hKy.kx.st.bel.block _ (by omega)).trans HRB.out
      have HBX := Lib.hid hbx
      have hpw : pb ≠ W.heap.size := fun e => by have := hKy.box; rw [e, hbx] at this; simp at this
      have y0 : wr.cell? ⟨W.heap.size, 0, none⟩ = some (.int .i64 0) := by rw [cell_of_row wr _ 0 _ _ _ hbx]; rfl
      have y1 : wr.cell? ⟨W.heap.size, 1, none⟩ = some (.slice none 0 0) := by rw [cell_of_row wr _ 1 _ _ _ hbx]; rfl
      have x0 : wr.frozen? ⟨W.heap.size, 0, none⟩ = false := frozen_of_row _ _ _ _ _ hbx
      have x1 : wr.frozen? ⟨W.heap.size, 1, none⟩ = false := frozen_of_row _ _ _ _ _ hbx
      have lw : W.heap.size < wr.heap.size := lt_of_heap hbx
      clear hKy hKl hbx
      have HE : Hid (KtPost x lim L refs W (.returned (.tuple #[.pointer (some ⟨b, 0, none⟩), .agg #[.int .i64 lim, .slice (some ⟨gr, 0, none⟩) L.length capr], .pointer (some ⟨bk, 0, none⟩)])) ((wr.setCell ⟨W.heap.size, 0, none⟩ (.int .i64 lim)).setCell ⟨W.heap.size, 1, none⟩ (.slice (some ⟨gr, 0, none⟩) L.length capr)).drew) := Lib.hid (by
        have hK3 := HKY.out
        have hsz : ((wr.setCell ⟨W.heap.size, 0, none⟩ (.int .i64 lim)).setCell ⟨W.heap.size, 1, none⟩ (.slice (some ⟨gr, 0, none⟩) L.length capr)).drew.heap.size = wr.heap.size := set2_size _ _ _ _
        have hk : ∀ k, W1.heap.size ≤ k → ((wr.setCell ⟨W.heap.size, 0, none⟩ (.int .i64 lim)).setCell ⟨W.heap.size, 1, none⟩ (.slice (some ⟨gr, 0, none⟩) L.length capr)).drew.heap[k]? = wr.heap[k]? := fun k hk => set2_block _ _ _ _ _ (by omega)
        have hbW : Below W.heap.size W wr := HWB.out.trans (hK3.kx.st.bel.mono (by omega))
        have hgr : gr ≠ W.heap.size := fun e => row_ne' hK3 e HBX.out (Below.refl _ _)
        exact ⟨bk, b, g, bm, cap, gr, capr, mk, hv, K, rfl, hK3.kx.lift hk (set2_below hbW (Nat.le_refl _) _ _).drew (by omega), hK3.ag.lift (by omega), hK3.row.keep (show ((wr.setCell ⟨W.heap.size, 0, none⟩ (.int .i64 lim)).setCell ⟨W.heap.size, 1, none⟩ (.slice (some ⟨gr, 0, none⟩) L.length capr)).drew.heap[gr]? = wr.heap[gr]? from set2_block _ _ _ _ _ hgr), HKL.out⟩)
      have s0 := (World.cell?_of_block (a := ⟨pb, 0, none⟩) (set2_block wr W.heap.size pb (.int .i64 lim) (.slice (some ⟨gr, 0, none⟩) L.length capr) hpw)).trans z0
      have s1 := (World.cell?_of_block (a := ⟨pb, 1, none⟩) (set2_block wr W.heap.size pb (.int .i64 lim) (.slice (some ⟨gr, 0, none⟩) L.length capr) hpw)).trans z1
      have g1 : ((wr.setCell ⟨W.heap.size, 0, none⟩ (.int .i64 lim)).setCell ⟨W.heap.size, 1, none⟩ (.slice (some ⟨gr, 0, none⟩) L.length capr)).heap[W.heap.size]? = some (.cells #[.int .i64 lim, .slice (some ⟨gr, 0, none⟩) L.length capr] 29 (0, 0)) := set2_box HBX.out
      have g2 : ((wr.setCell ⟨W.heap.size, 0, none⟩ (.int .i64 lim)).setCell ⟨W.heap.size, 1, none⟩ (.slice (some ⟨gr, 0, none⟩) L.length capr)).cell? ⟨W.heap.size, 0, none⟩ = some (.int .i64 lim) := (cell_of_row _ _ 0 _ _ _ g1).trans rfl
      have g3 : ((wr.setCell ⟨W.heap.size, 0, none⟩ (.int .i64 lim)).setCell ⟨W.heap.size, 1, none⟩ (.slice (some ⟨gr, 0, none⟩) L.length capr)).cell? ⟨W.heap.size, 1, none⟩ = some (.slice (some ⟨gr, 0, none⟩) L.length capr) := (cell_of_row _ _ 1 _ _ _ g1).trans rfl
      have g4 : (wr.setCell ⟨W.heap.size, 0, none⟩ (.int .i64 lim)).cell? ⟨W.heap.size, 0, none⟩ = some (.int .i64 lim) := by
        have h5 : (wr.setCell ⟨W.heap.size, 0, none⟩ (.int .i64 lim)).heap[W.heap.size]? = some (.cells #[.int .i64 lim, .slice none 0 0] 29 (0, 0)) := by
          have hb9 := HBX.out
          simp [World.setCell, hb9, Array.getElem?_modify]
        exact (cell_of_row _ _ 0 _ _ _ h5).trans rfl
      clear g1
      go_wp2_with fail
      go_region_held3 (fun w' => w'.cell? ⟨pb, 0, none⟩ = some (.int .i64 lim) ∧ w'.cell? ⟨pb, 1, none⟩ = some (.slice (some ⟨gr, 0, none⟩) L.length capr)) (first | exact ⟨s0, s1⟩ | exact ⟨z0, z1⟩ | go_keep)
        (fail)
      go_wp2_with fail
      exact bodyPost_ret (v := .tuple #[.pointer (some ⟨b, 0, none⟩), .agg #[.int .i64 lim, .slice (some ⟨gr, 0, none⟩) L.length capr], .pointer (some ⟨bk, 0, none⟩)]) (by simp [results, Tryd.results24, go_sem, g2, g3, g4]) rfl HE.out
end Go.Proofs.YtlckajnbmkkpeaaDoor
