/- Layer 3: walks: what is known behind refs that are learned, and the reference's answer (learned). -/
import Derived.Test.YtlckajnbmkkpeaaDoorZd
namespace Go.Proofs.YtlckajnbmkkpeaaDoor
open Go.RowKit Go.Maps

/-- What learned leaves. -/
def LdPost (L : List Nd) (refs : List Int) (w : World) (e : Ending) (w' : World) : Prop :=
  ∃ bk b g bm cap gr capr mk hv K go co, e = .returned (.tuple #[.pointer (some ⟨bk, 0, none⟩), .agg #[.int .i64 100, .slice (some ⟨gr, 0, none⟩) L.length capr], .slice (some ⟨go, 0, none⟩) L.length co, .bool true]) ∧
    Kx w w' bk b g bm cap 100 L mk hv (refs.filter fun x => hasB L.length x) K ∧ Apart w' bk mk hv gr ∧ rowAt w' gr L ∧ Apart w' bk mk hv go ∧ Ob w' go co (rlearn L refs (List.replicate L.length false)) ∧ (∀ y, K y = true ↔ lrn L refs y)
theorem filter_snoc (L : List Nd) (l : List Int) (x : Int) : (l ++ [x]).filter (fun y => hasB L.length y) = if hasB L.length x = true then l.filter (fun y => hasB L.length y) ++ [x] else l.filter (fun y => hasB L.length y) := by
  rw [List.filter_append]
  by_cases h : hasB L.length x = true
  · rw [if_pos h]; simp [h]
  · rw [if_neg h]; simp [h]
/-- Nothing of what is known lies below: it stands where only that has changed. -/
theorem Kx.lift {W W1 wz w' : World} {bk b g bm cap lim : Nat} {L : List Nd} {mk : Nat} {hv : Value} {hs : List Int} {K : Int → Bool} (h : Kx W1 wz bk b g bm cap lim L mk hv hs K) (hk : ∀ k, W1.heap.size ≤ k → w'.heap[k]? = wz.heap[k]?) (hb : Below W.heap.size W w') (hle : W.heap.size ≤ W1.heap.size) : Kx W w' bk b g bm cap lim L mk hv hs K := by
  have ha := h.st.ar.keep (hk b h.st.hb) (hk g h.st.hg) (hk bm h.st.hm)
  exact ⟨⟨ha, hb, Nat.le_trans hle h.st.hb, Nat.le_trans hle h.st.hg, Nat.le_trans hle h.st.hm⟩, ⟨ha, (hk bk h.h1).trans h.kn.box, h.kn.kn.keep (hk mk h.h2), ownsRow_same h.kn.own (fun k e => hk k (h.h3 k e)), h.kn.ne, h.kn.kh, h.kn.sh⟩, Nat.le_trans hle h.h1, Nat.le_trans hle h.h2, fun k e => Nat.le_trans hle (h.h3 k e)⟩
theorem Apart.lift {wz w' : World} {bk mk : Nat} {hv : Value} {g : Nat} (h : Apart wz bk mk hv g) (hs : wz.heap.size ≤ w'.heap.size) : Apart w' bk mk hv g := ⟨Nat.lt_of_lt_of_le h.lt hs, h.n1, h.n2, h.n3⟩
theorem row_ne' {W1 wr w3 : World} {pb gr capr bk b g bm cap lim p : Nat} {L : List Nd} {mk : Nat} {hv : Value} {hs : List Int} {K : Int → Bool} {v0 : Value} {s : Option Addr} {n c : Nat} (h : Ky W1 w3 pb gr capr bk b g bm cap lim L mk hv hs K) (e : gr = p) (hb : wr.heap[p]? = some (.cells #[v0, .slice s n c] 29 (0, 0))) (h3 : Below wr.heap.size wr w3) : False := by
  have hp : w3.heap[p]? = some (.cells #[v0, .slice s n c] 29 (0, 0)) := (h3.block _ (lt_of_heap hb)).trans hb
  have := (h.row 0 h.wf.pos).2.1
  rw [e, cell_of_row w3 p _ _ _ _ hp] at this
  simp at this
set_option maxRecDepth 100000 in
set_option maxHeartbeats 8000000 in
theorem learned_any (hC : CanF) (s sr : Option Addr) (c cr : Nat) (ns : List Nd) (refs : List Int) (hn : refs.length ≤ 30) (w : World) (hB : BuiltAt w (.slice s ns.length c) ns) (hI : IntsV w sr refs) (W : World) (hW : Below w.heap.size w W) :
    Calls Tryd.prog 14 #[.slice s ns.length c, .slice sr refs.length cr] W (LdPost (bld 100 ns) refs W) := by
  obtain ⟨L, hLe, HBu⟩ : ∃ L, L = bld 100 ns ∧ Hid (Calls Tryd.prog 19 #[.int .i64 100, .slice s ns.length c] (W.alloc (.cells #[.int .i64 0, .slice none 0 0] 29)) fun e w' => ∃ b g bm cap gr capr, e = .returned (.tuple #[.pointer (some ⟨b, 0, none⟩), .agg #[.int .i64 100, .slice (some ⟨gr, 0, none⟩) L.length capr], .bool true]) ∧ Pair (W.alloc (.cells #[.int .i64 0, .slice none 0 0] 29)) w' b g bm cap gr capr 100 L) := ⟨bld 100 ns, rfl, Lib.hid (hB 100 100 (by decide) _ (hW.alloc hW.size _))⟩
  rw [← hLe]
  have HIV := Lib.hid (hI.keep hW)
  have HCF := Lib.hid hC
  clear hB hI hLe hW hC
  have hn' : (refs.length : Int) ≤ 30 := by omega
  go_enter Tryd.func14, Tryd.ntmps14
  go_wp2_with (first
    | (go_at_call 19; refine HBu.out.mono ?_; rintro e w1 ⟨b, g, bm, cap, gr, capr, rfl, hP⟩)
    | (go_at_call 30; refine (ky_new hP).mono ?_; rintro e w2 ⟨bk, mk, rfl, hK2⟩; have HK2 := Lib.hid hK2; clear hK2))
  have hW1 : (W.alloc (.cells #[.int .i64 0, .slice none 0 0] 29)).heap.size = W.heap.size + 1 := by simp
  have HWB : Hid (Below W.heap.size W (W.alloc (.cells #[.int .i64 0, .slice none 0 0] 29))) := Lib.hid ((Below.refl _ _).alloc (Nat.le_refl _) _)
  have HRB : Hid ((W.alloc (.cells #[.int .i64 0, .slice none 0 0] 29)).heap[W.heap.size]? = some (.cells #[.int .i64 0, .slice none 0 0] 29 (0, 0))) := Lib.hid (heap_alloc_new _ _)
  clear hP HBu
  generalize W.alloc (.cells #[.int .i64 0, .slice none 0 0] 29) = W1 at *
  generalize w1.heap.size = pb at *
  have hL100 : L.length ≤ 100 := HK2.out.len
  go_loopg [13, 14, 36] refs.length (fun q _ _ u36 wr => ∃ i : Nat, i + q = refs.length ∧ u36 = .int .i64 i ∧ ∃ hv K, Ky W1 wr pb gr capr bk b g bm cap 100 L mk hv ((refs.take i).filter fun x => hasB L.length x) K ∧ ∀ y, K y = true ↔ lrn L (refs.take i) y)
  case atStart => exact ⟨0, by omega, rfl, _, _, HK2.out, fun y => ⟨fun h => (by cases h), fun h => absurd h (lrn_nil L y)⟩⟩
  case round =>
    obtain ⟨i, hiq, rfl, hv, K, hKy, hKl⟩ := hrel
    have z0 := hKy.z0
    have z1 := hKy.z1
    have lz := hKy.ap.lt
    by_cases hlt : i < refs.length
    · obtain ⟨gl, ol, rfl, hgl, hia⟩ := HIV.out (by omega)
      have hbw : Below W.heap.size W wr := HWB.out.trans (hKy.kx.st.bel.mono (by omega))
      have hx0 : wr.cell? ⟨gl, ol + i, none⟩ = some (.int .i64 (refs.getD i 0)) := (hia.keep (hbw.block _ hgl)) i hlt
      have hi' : (i : Int) < refs.length := by omega
      have htk : refs.take (i + 1) = refs.take i ++ [refs.getD i 0] := by
        rw [List.take_succ_eq_append_getElem hlt, List.getD_eq_getElem?_getD, List.getElem?_eq_getElem hlt]; rfl
      obtain ⟨x, hx⟩ : ∃ x, x = refs.getD i 0 := ⟨_, rfl⟩
      rw [← hx] at hx0 htk
      have HTK := Lib.hid htk
      have hlen : ((refs.take i).filter fun x => hasB L.length x).length ≤ 1000000 := Nat.le_trans (List.length_filter_le _ _) (by rw [List.length_take]; omega)
      have HKY := Lib.hid hKy
      have HKL := Lib.hid hKl
      clear hKl hia hx htk hbw
      cases hh : hasB L.length x with
      | true =>
        have HLE := Lib.hid (learn_any hKy.kx.kn hlen x hh)
        have HHS : Hid (∀ w1 : World, Calls Tryd.prog 18 #[.agg #[.int .i64 100, .slice (some ⟨gr, 0, none⟩) L.length capr], .int .i64 x] w1 fun e w' => e = .returned (.bool true) ∧ Below w1.heap.size w1 w') := Lib.hid (fun w1 => (refHas_any 100 (some ⟨gr, 0, none⟩) L.length capr x w1).mono fun e w' ⟨h1, h2⟩ => ⟨by rw [h1, hh], h2 ▸ (Below.refl _ _).alloc (Nat.le_refl _) _⟩)
        have HNX : Hid (∀ w3 hv3 K3, Ky W1 w3 pb gr capr bk b g bm cap 100 L mk hv3 (((refs.take i).filter fun x => hasB L.length x) ++ [x]) K3 → (∀ y, K3 y = true ↔ cl L (fun z => K z = true ∨ z = x) y) → ∃ hv K, Ky W1 w3 pb gr capr bk b g bm cap 100 L mk hv ((refs.take (i + 1)).filter fun x => hasB L.length x) K ∧ ∀ y, K y = true ↔ lrn L (refs.take (i + 1)) y) := Lib.hid (fun w3 hv3 K3 h1 h2 => ⟨hv3, K3, by rw [HTK.out, filter_snoc, if_pos hh]; exact h1, fun y => by
          rw [h2 y, HTK.out, lrn_snoc hh]
          have e : (fun z => K z = true ∨ z = x) = fun z => lrn L (refs.take i) z ∨ z = x := funext fun z => propext (or_congr (HKL.out z) Iff.rfl)
          rw [e]⟩)
        clear hKy hh
        go_wp2_with (first
          | (go_at_call 22; refine HLE.out.mono ?_; rintro e w3 ⟨hv3, K3, rfl, hN3, hC3, hL3⟩; have hK3 := HKY.out.learn hN3 hL3; have y0 := hK3.z0; have y1 := hK3.z1; have ly := hK3.ap.lt; have HK3 := Lib.hid hK3; have HC3 := Lib.hid hC3; clear hN3 hL3 hK3 hC3)
          | (go_at_call 18; refine (HHS.out _).mono ?_; rintro e w4 ⟨rfl, hb4⟩))
        go_roundg (refs.length - (i + 1))
        case rel => exact ⟨i + 1, by omega, by simp, HNX.out _ _ _ (HK3.out.keep hb4) HC3.out⟩
        case measure => omega
      | false =>
        have HLE := Lib.hid (learn_bad hKy.kx.kn x hh)
        have HHS : Hid (∀ w1 : World, Calls Tryd.prog 18 #[.agg #[.int .i64 100, .slice (some ⟨gr, 0, none⟩) L.length capr], .int .i64 x] w1 fun e w' => e = .returned (.bool false) ∧ Below w1.heap.size w1 w') := Lib.hid (fun w1 => (refHas_any 100 (some ⟨gr, 0, none⟩) L.length capr x w1).mono fun e w' ⟨h1, h2⟩ => ⟨by rw [h1, hh], h2 ▸ (Below.refl _ _).alloc (Nat.le_refl _) _⟩)
        have HNX : Hid (∀ w3, Ky W1 w3 pb gr capr bk b g bm cap 100 L mk hv ((refs.take i).filter fun x => hasB L.length x) K → ∃ hv K, Ky W1 w3 pb gr capr bk b g bm cap 100 L mk hv ((refs.take (i + 1)).filter fun x => hasB L.length x) K ∧ ∀ y, K y = true ↔ lrn L (refs.take (i + 1)) y) := Lib.hid (fun w3 h1 => ⟨hv, K, by rw [HTK.out, filter_snoc, if_neg (by rw [hh]; simp)]; exact h1, fun y => by rw [HTK.out, lrn_skip hh]; exact HKL.out y⟩)
        clear hKy hh
        go_wp2_with (first
          | (go_at_call 22; refine HLE.out.mono ?_; rintro e w3 ⟨rfl, hb3⟩; have hK3 := HKY.out.keep hb3; have y0 := hK3.z0; have y1 := hK3.z1; have ly := hK3.ap.lt; have HK3 := Lib.hid hK3; clear hb3 hK3)
          | (go_at_call 18; refine (HHS.out _).mono ?_; rintro e w4 ⟨rfl, hb4⟩))
        go_roundg (refs.length - (i + 1))
        case rel => exact ⟨i + 1, by omega, by simp, HNX.out _ (HK3.out.keep hb4)⟩
        case measure => omega
    · obtain rfl : i = refs.length := by omega
      rw [List.take_length] at hKy hKl
      have HKY := Lib.hid hKy
      have HKL := Lib.hid hKl
      have HLF := Lib.hid (fun w3 (h3 : Below wr.heap.size wr w3) => learnF_any HCF.out (lim := 100) (capr := capr) (c := cr) (s := sr) hKy.wf ((hKy.keep h3).row) (HIV.out.keep ((HWB.out.trans (hKy.kx.st.bel.mono (by omega))).trans (h3.mono (HWB.out.trans (hKy.kx.st.bel.mono (by omega))).size))) (hKy.keep h3).ag.lt (by omega) (by omega))
      have hbx : wr.heap[W.heap.size]? = some (.cells #[.int .i64 0, .slice none 0 0] 29 (0, 0)) := (hKy.kx.st.bel.block _ (by omega)).trans HRB.out
      have HBX := Lib.hid hbx
      have hpw : pb ≠ W.heap.size := fun e => by have := hKy.box; rw [e, hbx] at this; simp at this
      have y0 : wr.cell? ⟨W.heap.size, 0, none⟩ = some (.int .i64 0) := by rw [cell_of_row wr _ 0 _ _ _ hbx]; rfl
      have y1 : wr.cell? ⟨W.heap.size, 1, none⟩ = some (.slice none 0 0) := by rw [cell_of_row wr _ 1 _ _ _ hbx]; rfl
      have x0 : wr.frozen? ⟨W.heap.size, 0, none⟩ = false := frozen_of_row _ _ _ _ _ hbx
      have x1 : wr.frozen? ⟨W.heap.size, 1, none⟩ = false := frozen_of_row _ _ _ _ _ hbx
      have lw : W.heap.size < wr.heap.size := lt_of_heap hbx
      clear hKy hKl hbx
      go_wp2_with fail
      go_region_held3 (fun w' => w'.cell? ⟨pb, 0, none⟩ = some (.int .i64 100) ∧ w'.cell? ⟨pb, 1, none⟩ = some (.slice (some ⟨gr, 0, none⟩) L.length capr)) (first | exact ⟨s0, s1⟩ | go_keep)
        (first
          | (go_at_call 33; refine (HLF.out _ (Below.refl _ _).drew).mono ?_; rintro e w3 ⟨go, co, rfl, hgo, hob, hb3⟩; have p0 := (hb3.cell (p := ⟨pb, 0, none⟩) lz).trans z0; have p1 := (hb3.cell (p := ⟨pb, 1, none⟩) lz).trans z1; have q0 := (hb3.cell (p := ⟨W.heap.size, 0, none⟩) lw).trans y0; have q1 := (hb3.cell (p := ⟨W.heap.size, 1, none⟩) lw).trans y1; have f0 := (hb3.frozen (p := ⟨W.heap.size, 0, none⟩) lw).trans x0; have f1 := (hb3.frozen (p := ⟨W.heap.size, 1, none⟩) lw).trans x1; have s0 := (World.cell?_of_block (a := ⟨pb, 0, none⟩) (set2_block w3 W.heap.size pb (.int .i64 100) (.slice (some ⟨gr, 0, none⟩) L.length capr) hpw)).trans p0; have s1 := (World.cell?_of_block (a := ⟨pb, 1, none⟩) (set2_block w3 W.heap.size pb (.int .i64 100) (.slice (some ⟨gr, 0, none⟩) L.length capr) hpw)).trans p1))
      have hb4 : Below wr.heap.size wr w3 := (Below.refl _ _).drew.trans hb3
      have HE : Hid (LdPost L refs W (.returned (.tuple #[.pointer (some ⟨bk, 0, none⟩), .agg #[.int .i64 100, .slice (some ⟨gr, 0, none⟩) L.length capr], .slice (some ⟨go, 0, none⟩) L.length co, .bool true])) ((w3.setCell ⟨W.heap.size, 0, none⟩ (.int .i64 100)).setCell ⟨W.heap.size, 1, none⟩ (.slice (some ⟨gr, 0, none⟩) L.length capr))) := Lib.hid (by
        have hK3 := HKY.out.keep hb4
        have hs3 := hb4.size
        have hgo' : wr.heap.size ≤ go := hgo
        have hsz : ((w3.setCell ⟨W.heap.size, 0, none⟩ (.int .i64 100)).setCell ⟨W.heap.size, 1, none⟩ (.slice (some ⟨gr, 0, none⟩) L.length capr)).heap.size = w3.heap.size := set2_size _ _ _ _
        have hk : ∀ k, W1.heap.size ≤ k → ((w3.setCell ⟨W.heap.size, 0, none⟩ (.int .i64 100)).setCell ⟨W.heap.size, 1, none⟩ (.slice (some ⟨gr, 0, none⟩) L.length capr)).heap[k]? = w3.heap[k]? := fun k hk => set2_block _ _ _ _ _ (by omega)
        have hbW : Below W.heap.size W w3 := HWB.out.trans (hK3.kx.st.bel.mono (by omega))
        have hgr : gr ≠ W.heap.size := fun e => row_ne' hK3 e HBX.out hb4
        have l1 := lt_of_heap HKY.out.kx.kn.box
        have l2 := HKY.out.kx.kn.kn.lt
        refine ⟨bk, b, g, bm, cap, gr, capr, mk, hv, K, go, co, rfl, hK3.kx.lift hk (set2_below hbW (Nat.le_refl _) _ _) (by omega), hK3.ag.lift (by omega), hK3.row.keep (set2_block _ _ _ _ _ hgr), ⟨by rw [hsz]; exact hob.lt, by omega, by omega, fun e => ?_⟩, hob.keep (set2_block _ _ _ _ _ (by omega)), HKL.out⟩
        have := (HKY.out.kx.kn.own.lt go e).2
        omega)
      have g1 : ((w3.setCell ⟨W.heap.size, 0, none⟩ (.int .i64 100)).setCell ⟨W.heap.size, 1, none⟩ (.slice (some ⟨gr, 0, none⟩) L.length capr)).heap[W.heap.size]? = some (.cells #[.int .i64 100, .slice (some ⟨gr, 0, none⟩) L.length capr] 29 (0, 0)) := set2_box ((hb4.block _ lw).trans HBX.out)
      have g2 := cell_of_row _ _ 0 _ _ _ g1
      have g3 := cell_of_row _ _ 1 _ _ _ g1
      simp only [List.getElem?_toArray, List.getElem?_cons_zero, List.getElem?_cons_succ] at g2 g3
      clear hob hb3 hb4 g1 hgo
      go_wp2_with fail
      exact bodyPost_ret (v := .tuple #[.pointer (some ⟨bk, 0, none⟩), .agg #[.int .i64 100, .slice (some ⟨gr, 0, none⟩) L.length capr], .slice (some ⟨go, 0, none⟩) L.length co, .bool true]) (by simp [results, Tryd.results14, go_sem, g2, g3]) rfl HE.out
end Go.Proofs.YtlckajnbmkkpeaaDoor
