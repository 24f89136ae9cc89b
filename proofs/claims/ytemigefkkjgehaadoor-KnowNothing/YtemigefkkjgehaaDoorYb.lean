/- Layer 3: walks: a new search, Can. -/
import Derived.Test.YtemigefkkjgehaaDoorYa
namespace Go.Proofs.YtemigefkkjgehaaDoor
open Go.RowKit Go.Maps

/-- Nothing older has changed but the map of what is known. -/
structure Kp (w w' : World) (mk : Nat) : Prop where
  os : w'.os = w.os
  tape : w'.tape = w.tape
  output : w'.output = w.output
  size : w.heap.size ≤ w'.heap.size
  kept : ∀ k, k < w.heap.size → k ≠ mk → w'.heap[k]? = w.heap[k]?
theorem Kp.refl (w : World) (mk : Nat) : Kp w w mk := ⟨rfl, rfl, rfl, Nat.le_refl _, fun _ _ _ => rfl⟩
theorem Kp.below {w w' : World} (mk : Nat) (h : Below w.heap.size w w') : Kp w w' mk := ⟨h.os, h.tape, h.output, h.size, fun k hk _ => h.block k hk⟩
theorem Kp.trans {w w1 w2 : World} {mk : Nat} (h : Kp w w1 mk) (h' : Kp w1 w2 mk) : Kp w w2 mk := ⟨h'.os.trans h.os, h'.tape.trans h.tape, h'.output.trans h.output, Nat.le_trans h.size h'.size, fun k hk hm => (h'.kept k (Nat.lt_of_lt_of_le hk h.size) hm).trans (h.kept k hk hm)⟩
theorem Kp.bel {B : Nat} {w0 w w' : World} {mk : Nat} (h : Kp w w' mk) (h0 : Below B w0 w) (hB : B ≤ w.heap.size) (hm : B ≤ mk) : Below B w0 w' := ⟨h.os.trans h0.os, h.tape.trans h0.tape, h.output.trans h0.output, Nat.le_trans h0.size h.size, fun k hk => (h.kept k (by omega) (by omega)).trans (h0.block k hk)⟩

theorem cnt_none (n : Nat) : cnt n (fun _ => false) = 0 := by
  unfold cnt
  induction n with
  | zero => rfl
  | succ n ih => rw [List.range_succ, List.map_append, List.sum_append, ih]; rfl
/-- The search that begins. -/
def cxOf (bk b g bm cap lim : Nat) (L : List Nd) (mk : Nat) (hv : Value) (n : Nat) : Cx := ⟨b, g, bm, cap, lim, L, bk, mk, n + 1, n, hv⟩
def ghOf (mk n : Nat) : Gh := ⟨fun k => k = mk ∨ k = n, fun _ => none, fun _ => .slice none 0 0⟩
def srch (w : World) (bk : Nat) : World := (w.alloc (.map #[] 0)).alloc (.cells #[.pointer (some ⟨bk, 0, none⟩), .map (some w.heap.size)] 114)
theorem srch_below (w : World) (bk : Nat) : Below w.heap.size w (srch w bk) := ((Below.refl _ _).alloc (Nat.le_refl _) _).alloc (by simp) _
theorem srch_size (w : World) (bk : Nat) : (srch w bk).heap.size = w.heap.size + 2 := by simp [srch]
section
variable {w : World} {bk b g bm cap lim : Nat} {L : List Nd} {mk : Nat} {hv : Value} {hs : List Int} {K : Int → Bool}
theorem Kno.start (h : Kno w bk b g bm cap lim L mk hv hs K) : Sst (cxOf bk b g bm cap lim L mk hv w.heap.size) (srch w bk) (ghOf mk w.heap.size) (s0 K) := by
  have hb := srch_below w bk
  have hm := h.kn.lt
  obtain ⟨es, cc, hob⟩ := h.kn.obj
  have nm : ∀ {k : Nat} {cs : Array Value} {t : TypeId} {z : Nat × Nat}, w.heap[k]? = some (.cells cs t z) → ¬ (k = mk ∨ k = w.heap.size) := fun hk e => by
    rcases e with e | e
    · rw [e, hob] at hk; cases hk
    · have := lt_of_heap hk; omega
  have hgl := h.ar.own
  have hrow : ∃ cur, w.heap[g]? = some (.cells cur 67 (0, 0)) := by
    obtain ⟨c', fz, hc⟩ := Lib.ownsRow_kind h.ar.own g rfl
    rcases h.ar.own.2 with ⟨e, _⟩ | ⟨g', cap', cur', e, _, hg', _⟩
    · cases e
    · injection e with e _ _
      injection e with e
      injection e with e
      subst e
      exact ⟨_, hg'⟩
  obtain ⟨cur, hrow⟩ := hrow
  have hmap : MapP (srch w bk) w.heap.size 0 (fun _ => none) := (MapP.made w).keep (Below.heap_alloc _ _ _ (by simp))
  refine ⟨h.ar.below hb, ⟨nm h.ar.box, nm hrow, fun e => ?_⟩, ⟨(hb.block _ (lt_of_heap h.box)).trans h.box, nm h.box⟩, ⟨?_, fun e => ?_⟩, h.kn.keep (hb.block _ hm), ?_, .inl rfl, .inr rfl, ?_, ⟨fun r hr => by simp [s0] at hr, h.kh, fun r b ws hr => by simp [s0] at hr⟩, fun r => rfl, fun r d ws hr => by simp [s0] at hr, fun r r' a hr => by simp [ghOf] at hr, fun r r' k hr => by simp [s0] at hr, ?_, fun k hk => ?_⟩
  · rcases e with e | e
    · exact h.ne e.symm
    · have := h.ar.mlt; change bm = w.heap.size at e; omega
  · have := heap_alloc_new (w.alloc (.map #[] 0)) (.cells #[.pointer (some ⟨bk, 0, none⟩), .map (some w.heap.size)] 114)
    rw [World.size_alloc] at this; exact this
  · change w.heap.size + 1 = mk ∨ w.heap.size + 1 = w.heap.size at e; omega
  · have e1 : cnt L.length (fun r => ((s0 K).A r).isSome) = 0 := cnt_none _
    show MapP _ _ (cnt L.length (fun r => ((s0 K).A r).isSome)) _
    rw [e1]; exact hmap
  · show mk ≠ w.heap.size; omega
  · have := phi_s0 L K
    have := h.ar.small
    show phi L (s0 K) ≤ 600000
    omega
  · rw [srch_size]
    change k = mk ∨ k = w.heap.size at hk
    rcases hk with e | e <;> omega
/-- What is known behind a search. -/
theorem Kno.stop (h : Kno w bk b g bm cap lim L mk hv hs K) {G' : Gh} {s' : Sx} {w' : World} (hS : Sst (cxOf bk b g bm cap lim L mk hv w.heap.size) w' G' s') (hF : Fr (s0 K) (srch w bk) w' (ghOf mk w.heap.size) G') (hsh : Shut L fun r => s'.K r = true) : Kno w' bk b g bm cap lim L mk hv hs s'.K ∧ Kp w w' mk := by
  have hb := srch_below w bk
  have hsz := srch_size w bk
  obtain ⟨es, cc, hob⟩ := h.kn.obj
  have kp : Kp w w' mk := ⟨hF.os.trans hb.os, hF.tape.trans hb.tape, hF.output.trans hb.output, by have := hF.size; omega, fun k hk hm => (hF.kept k (by omega) (fun e => by
    change k = mk ∨ k = w.heap.size at e
    rcases e with e | e
    · exact hm e
    · omega)).trans (hb.block k hk)⟩
  refine ⟨⟨hS.ar, hS.kb.1, hS.kn, ownsRow_same h.own (fun k hk => kp.kept k (h.own.lt k hk).2 (fun e => ?_)), h.ne, hS.ok.k, hsh⟩, kp⟩
  obtain ⟨c', fz, hc⟩ := Lib.ownsRow_kind h.own k hk
  rw [e, hob] at hc; cases hc
end

set_option maxRecDepth 100000 in
set_option maxHeartbeats 1000000 in
theorem newSearch_any (bk : Nat) (w : World) : Calls Tryd.prog 41 #[.pointer (some ⟨bk, 0, none⟩)] w fun e w' => e = .returned (.pointer (some ⟨w.heap.size + 1, 0, none⟩)) ∧ w' = srch w bk := by
  have hmm := @run_makeMap Tryd.prog
  go_enter Tryd.func41, Tryd.ntmps41
  go_wp2_with fail
  go_ret
  exact ⟨rfl, rfl⟩

set_option maxRecDepth 100000 in
set_option maxHeartbeats 4000000 in
theorem can_any {w : World} {bk b g bm cap lim : Nat} {L : List Nd} {mk : Nat} {hv : Value} {hs : List Int} {K : Int → Bool} (hL : WF L) (h : Kno w bk b g bm cap lim L mk hv hs K) (r : Int) (hr : hasB L.length r = true) :
    Calls Tryd.prog 21 #[.pointer (some ⟨bk, 0, none⟩), .int .i64 r] w fun e w' => ∃ d : Bool, e = .returned (.bool d) ∧ (d = true ↔ Can L (fun x => K x = true) r) ∧ Kno w' bk b g bm cap lim L mk hv hs K ∧ Kp w w' mk := by
  obtain ⟨s', ⟨n, hR⟩, hK, hd⟩ := can_search hL h.kh h.sh hr
  have HA := Lib.hid ((wk_any (cxOf bk b g bm cap lim L mk hv w.heap.size) hL n).ask (s0 K) s' r (srch w bk) (ghOf mk w.heap.size) hR h.start hr)
  have HN := Lib.hid (newSearch_any bk w)
  have HH := Lib.hid h
  have HD := Lib.hid hd
  have HKE := Lib.hid hK
  clear h hd hR hK
  go_enter Tryd.func21, Tryd.ntmps21
  go_wp2_with (first
    | (go_at_call 41; refine HN.out.mono ?_; rintro e w1 ⟨rfl, rfl⟩)
    | (go_at_call 42; refine HA.out.mono ?_; rintro e w2 ⟨a, G2, rfl, hab, hS2, hF2⟩; have x0 := hS2.ans0 hab; have HS2 := Lib.hid hS2; have HF2 := Lib.hid hF2; clear hS2 hF2))
  go_ret
  obtain ⟨hk, hp⟩ := HH.out.stop HS2.out HF2.out (by rw [HKE.out]; exact HH.out.sh)
  rw [HKE.out] at hk
  exact ⟨s'.der r, rfl, HD.out, hk, hp⟩

set_option maxRecDepth 100000 in
set_option maxHeartbeats 4000000 in
/-- Of a ref that there is not. -/
theorem can_out {w : World} {bk b g bm cap lim : Nat} {L : List Nd} {mk : Nat} {hv : Value} {hs : List Int} {K : Int → Bool} (h : Kno w bk b g bm cap lim L mk hv hs K) (r : Int) (hr : hasB L.length r = false) (hi : i64ok r) :
    Calls Tryd.prog 21 #[.pointer (some ⟨bk, 0, none⟩), .int .i64 r] w fun e w' => e = .returned (.bool false) ∧ Below w.heap.size w w' := by
  have hst := h.start
  have HN := Lib.hid (newSearch_any bk w)
  have hK : K r = false := by
    cases e : K r with
    | false => rfl
    | true => have := h.kh r e; rw [hr] at this; cases this
  have hb := srch_below w bk
  have HA : Hid (Calls Tryd.prog 42 #[.pointer (some ⟨w.heap.size + 1, 0, none⟩), .int .i64 r] (srch w bk) fun e w' => ∃ a, e = .returned (.pointer (some ⟨a, 0, none⟩)) ∧ w'.cell? ⟨a, 0, none⟩ = some (.bool false) ∧ Below w.heap.size w w') := Lib.hid (by
    have c0 : (srch w bk).cell? ⟨w.heap.size + 1, 0, none⟩ = some (.pointer (some ⟨bk, 0, none⟩)) := hst.s0
    have c1 : (srch w bk).cell? ⟨w.heap.size + 1, 1, none⟩ = some (.map (some w.heap.size)) := hst.s1
    have hlk : (Instr.lookup 112 (.map (some w.heap.size)) (.int .i64 r) false).run Tryd.prog (srch w bk) = .ok (pv none) (srch w bk) := hst.asd.look hi
    unfold pv at hlk
    simp only [Option.map_none] at hlk
    have HK := Lib.hid (knows_any r hi (srch w bk) (h.keep hb).kw)
    rw [hK] at HK
    have HST : Hid (∀ w1, Below (srch w bk).heap.size (srch w bk) w1 → ∃ w3, (Instr.mapUpdate 112 (.map (some w.heap.size)) (.int .i64 r) (.pointer (some ⟨w1.heap.size, 0, none⟩))).run Tryd.prog (w1.alloc (.cells #[.bool false, .slice none 0 0] 86)) = .ok () w3 ∧ w3.cell? ⟨w1.heap.size, 0, none⟩ = some (.bool false) ∧ Below w.heap.size w w3 ∧ w1.heap.size < w3.heap.size ∧ w3.cell? ⟨w.heap.size + 1, 0, none⟩ = some (.pointer (some ⟨bk, 0, none⟩))) := Lib.hid (fun w1 hb1 => by
      have hb2 := hb1.alloc hb1.size (.cells #[.bool false, .slice none 0 0] 86)
      obtain ⟨w3, h1, h2, h3⟩ := (hst.asd.keep (hb2.block _ hst.asd.lt)).store (cnt_small hst _) hi w1.heap.size
      have hg := h3.grown
      have hsz := srch_size w bk
      have hs1 := hb1.size
      have hblk : w3.heap[w1.heap.size]? = some (.cells #[.bool false, .slice none 0 0] 86 (0, 0)) := by
        rw [hg.block w1.heap.size (by simp) (fun e => by
          have e := Option.some.inj e
          change w1.heap.size = w.heap.size at e
          omega)]
        exact heap_alloc_new _ _
      refine ⟨w3, h1, by rw [cell_of_row _ _ 0 _ _ _ hblk]; rfl, ?_, lt_of_heap hblk, ?_⟩
      have hbw : Below w.heap.size w (w1.alloc (.cells #[.bool false, .slice none 0 0] 86)) := hb.trans (hb2.mono (by omega))
      · exact hbw.grown hg (by simp; omega) (fun k hk => by
          have hk := Option.some.inj hk
          change w.heap.size = k at hk
          omega)
      · rw [World.cell?_of_block ((hg.block (w.heap.size + 1) (by simp; omega) (fun e => by
          have e := Option.some.inj e
          change w.heap.size + 1 = w.heap.size at e
          omega)).trans (hb2.block (w.heap.size + 1) (by omega)))]
        exact c0)
    have HGN := Lib.hid (fun w1 (hb1 : Below w.heap.size w w1) => get_no b g bm cap lim L r hr w1 (h.ar.below hb1))
    have hkb := fun w1 (hb1 : Below w.heap.size w w1) => (h.keep hb1).kw.c0
    have HKB := Lib.hid hkb
    have HB := Lib.hid hb
    have hs2 := srch_size w bk
    have HSB : Hid (∀ w1, Below (srch w bk).heap.size (srch w bk) w1 → w1.cell? ⟨w.heap.size + 1, 0, none⟩ = some (.pointer (some ⟨bk, 0, none⟩)) ∧ w1.cell? ⟨w.heap.size + 1, 1, none⟩ = some (.map (some w.heap.size))) := Lib.hid (fun w1 hb1 => ⟨(hb1.cell (p := ⟨w.heap.size + 1, 0, none⟩) (by rw [hs2]; simp)).trans c0, (hb1.cell (p := ⟨w.heap.size + 1, 1, none⟩) (by rw [hs2]; simp)).trans c1⟩)
    clear hst h hb hkb hK
    generalize srch w bk = W at *
    go_enter Tryd.func42, Tryd.ntmps42
    go_wp2_with (first
      | (go_at_call 16; refine HK.out.mono ?_; rintro e w1 ⟨rfl, hb1⟩; clear c0 c1 hlk
         obtain ⟨c0, c1⟩ := HSB.out w1 hb1
         obtain ⟨w3, hup, x0, hb3, hl3, b0⟩ := HST.out w1 hb1
         have hlw1 := World.block_lt_of_cell? w1 _ c0
         simp only at hlw1
         have k1 := HKB.out w3 hb3
         have HG3 := Lib.hid (HGN.out w3 hb3))
      | (go_at_call 47; refine HG3.out.mono ?_; rintro e w4 ⟨rfl, hb4⟩; unfold agg zN; have hs4 := hb4.size; have x4 := (hb4.cell (p := ⟨w1.heap.size, 0, none⟩) hl3).trans x0; have hl4 : w1.heap.size < w4.heap.size := (by omega); have hlb4 := HB.out.size))
    go_ret
    have hb5 := hb3.trans (hb4.mono hb3.size)
    refine ⟨w1.heap.size, rfl, ?_, hb5.alloc hb5.size _⟩
    rw [World.cell?_of_block (Below.heap_alloc _ _ _ hl4)]
    exact x4)
  clear hst h hK hb
  go_enter Tryd.func21, Tryd.ntmps21
  go_wp2_with (first
    | (go_at_call 41; refine HN.out.mono ?_; rintro e w1 ⟨rfl, rfl⟩)
    | (go_at_call 42; refine HA.out.mono ?_; rintro e w2 ⟨a, rfl, x0, hb2⟩))
  go_ret
  exact ⟨rfl, hb2⟩
end Go.Proofs.YtemigefkkjgehaaDoor
