/- Layer 3: walks: Learn. -/
import Derived.Test.YtemigefkkjgehaaDoorYb
namespace Go.Proofs.YtemigefkkjgehaaDoor
open Go.RowKit Go.Maps

/-- Nothing older has changed but what belongs to what is known. -/
structure Kl (w w' : World) (bk mk : Nat) (hv hv' : Value) : Prop where
  os : w'.os = w.os
  tape : w'.tape = w.tape
  output : w'.output = w.output
  size : w.heap.size ≤ w'.heap.size
  kept : ∀ k, k < w.heap.size → k ≠ mk → k ≠ bk → hv.ownBlock ≠ some k → w'.heap[k]? = w.heap[k]?
  at_ : ∀ k, hv'.ownBlock = some k → hv.ownBlock = some k ∨ w.heap.size ≤ k
theorem Kl.refl (w : World) (bk mk : Nat) (hv : Value) : Kl w w bk mk hv hv := ⟨rfl, rfl, rfl, Nat.le_refl _, fun _ _ _ _ _ => rfl, fun _ h => .inl h⟩
theorem Kl.kp {w w' : World} {mk : Nat} (bk : Nat) (hv : Value) (h : Kp w w' mk) : Kl w w' bk mk hv hv := ⟨h.os, h.tape, h.output, h.size, fun k hk hm _ _ => h.kept k hk hm, fun _ h => .inl h⟩
theorem Kl.below {w w' : World} (bk mk : Nat) (hv : Value) (h : Below w.heap.size w w') : Kl w w' bk mk hv hv := Kl.kp bk hv (Kp.below mk h)
theorem Kl.trans {w w1 w2 : World} {bk mk : Nat} {hv hv1 hv2 : Value} (h : Kl w w1 bk mk hv hv1) (h' : Kl w1 w2 bk mk hv1 hv2) : Kl w w2 bk mk hv hv2 := by
  have hs := h.size
  refine ⟨h'.os.trans h.os, h'.tape.trans h.tape, h'.output.trans h.output, Nat.le_trans h.size h'.size, fun k hk n1 n2 n3 => ?_, fun k hk => ?_⟩
  · rw [h'.kept k (by omega) n1 n2 (fun e => by rcases h.at_ k e with e' | e'; exact n3 e'; omega)]
    exact h.kept k hk n1 n2 n3
  · rcases h'.at_ k hk with e | e
    · exact h.at_ k e
    · exact .inr (by omega)
theorem Kl.bel {B : Nat} {w0 w w' : World} {bk mk : Nat} {hv hv' : Value} (h : Kl w w' bk mk hv hv') (h0 : Below B w0 w) (hB : B ≤ w.heap.size) (h1 : B ≤ mk) (h2 : B ≤ bk) (h3 : ∀ k, hv.ownBlock = some k → B ≤ k) : Below B w0 w' ∧ ∀ k, hv'.ownBlock = some k → B ≤ k :=
  ⟨⟨h.os.trans h0.os, h.tape.trans h0.tape, h.output.trans h0.output, Nat.le_trans h0.size h.size, fun k hk => (h.kept k (by omega) (by omega) (by omega) (fun e => by have := h3 k e; omega)).trans (h0.block k hk)⟩, fun k hk => by
    rcases h.at_ k hk with e | e
    · exact h3 k e
    · omega⟩

theorem has1_any (b : Nat) (s : Option Addr) (n cap : Nat) (g : Nat) (x : Int) (w : World) (c0 : w.cell? ⟨b, 0, none⟩ = some (.slice s n cap)) (h0 : w.cell? ⟨g, 0, none⟩ = some (.int .i64 x)) :
    Calls Tryd.prog 43 #[.pointer (some ⟨b, 0, none⟩), .slice (some ⟨g, 0, none⟩) 1 1] w fun e w' => e = .returned (.bool (hasB n x)) ∧ w = w' := by
  have := hasAll_any b s n cap g 1 [x] w c0 (by simp) (fun i hi => by
    have : i = 0 := by simpa using hi
    subst this; exact h0)
  simpa [allB] using this

set_option maxRecDepth 100000 in
set_option maxHeartbeats 4000000 in
theorem learn_bad {w : World} {bk b g bm cap lim : Nat} {L : List Nd} {mk : Nat} {hv : Value} {hs : List Int} {K : Int → Bool} (h : Kno w bk b g bm cap lim L mk hv hs K) (r : Int) (hr : hasB L.length r = false) :
    Calls Tryd.prog 22 #[.pointer (some ⟨bk, 0, none⟩), .int .i64 r] w fun e w' => e = .returned (.int .i64 1) ∧ Below w.heap.size w w' := by
  have c0 := h.kw.c0
  have HC : Hid (∀ o, (w.alloc o).cell? ⟨b, 0, none⟩ = some (.slice (some ⟨g, 0, none⟩) L.length cap)) := Lib.hid (fun o => (h.ar.below ((Below.refl _ _).alloc (Nat.le_refl _) o)).c0)
  clear h
  go_enter Tryd.func22, Tryd.ntmps22
  go_wp2_with (go_at_call 43; refine (has1_any b (some ⟨g, 0, none⟩) L.length cap _ r _ (HC.out _) ?_).mono ?_; (go_simp); rintro e w' ⟨rfl, rfl⟩; rw [hr])
  go_ret
  exact ⟨rfl, (Below.refl _ _).alloc (Nat.le_refl _) _⟩

/-- A ref is heard: what is known stands as it was, with one more that was heard. -/
theorem Kno.heard {w w1 w7 : World} {bk b g bm cap lim : Nat} {L : List Nd} {mk : Nat} {hv v : Value} {hs : List Int} {K : Int → Bool} {r : Int} (h : Kno w bk b g bm cap lim L mk hv hs K) (hb : Below w.heap.size w w1) (hown : w7.ownsRow 0 3 1 v (hs.length + 1) ((hs.map (Value.int .i64)) ++ [.int .i64 r])) (hg : w1.grownBy w7 hv.ownBlock) (hat : ∀ k, v.ownBlock = some k → hv.ownBlock = some k ∨ w1.heap.size ≤ k) :
    w7.cell? ⟨bk, 1, none⟩ = some hv ∧ w7.frozen? ⟨bk, 1, none⟩ = false ∧ Hid (Kno (w7.setCell ⟨bk, 1, none⟩ v) bk b g bm cap lim L mk v (hs ++ [r]) K ∧ Kl w (w7.setCell ⟨bk, 1, none⟩ v) bk mk hv v) := by
  have hs1 := hb.size
  have hs7 := hg.size
  have kd := Lib.ownsRow_kind h.own
  have kd7 := Lib.ownsRow_kind hown
  have nr : ∀ {k : Nat} {o : Obj}, w.heap[k]? = some o → (∀ cs z, o ≠ .cells cs 3 z) → hv.ownBlock ≠ some k := fun {k o} hk ho e => by
    obtain ⟨c', fz, hc⟩ := kd k e
    rw [hk] at hc
    exact ho _ _ (Option.some.inj hc)
  have e7 : ∀ {k : Nat}, k < w.heap.size → hv.ownBlock ≠ some k → w7.heap[k]? = w.heap[k]? := fun {k} hk hn => (hg.block k (by omega) (fun e => hn e.symm)).trans (hb.block k hk)
  have hbx : w7.heap[bk]? = some (.cells #[.pointer (some ⟨b, 0, none⟩), hv, .map (some mk)] 76 (0, 0)) := (e7 (lt_of_heap h.box) (nr h.box (fun _ _ e => by simp at e))).trans h.box
  have set : ∀ {k : Nat}, k ≠ bk → (w7.setCell ⟨bk, 1, none⟩ v).heap[k]? = w7.heap[k]? := fun hk => heap_setCell_other _ _ _ _ (by simpa using hk)
  have hnew : (w7.setCell ⟨bk, 1, none⟩ v).heap[bk]? = some (.cells #[.pointer (some ⟨b, 0, none⟩), v, .map (some mk)] 76 (0, 0)) := by
    have hlt := lt_of_heap hbx
    simp [World.setCell, hbx, Array.getElem?_modify]
  obtain ⟨es, cc, hob⟩ := h.kn.obj
  obtain ⟨Dm, hDm, _⟩ := h.ar.reg
  obtain ⟨es2, cc2, hob2, _⟩ := hDm
  have nb : ∀ {k : Nat} {o : Obj}, w.heap[k]? = some o → (∀ cs z, o ≠ .cells cs 76 z) → k ≠ bk := fun {k o} hk ho e => by
    rw [e, h.box] at hk
    exact ho _ _ (Option.some.inj hk).symm
  have hrow : ∃ cur, w.heap[g]? = some (.cells cur 67 (0, 0)) := by
    rcases h.ar.own.2 with ⟨e, _⟩ | ⟨g', cap', cur', e, _, hg', _⟩
    · cases e
    · injection e with e _ _
      injection e with e
      injection e with e
      subst e
      exact ⟨_, hg'⟩
  obtain ⟨cur, hrow⟩ := hrow
  have full : ∀ {k : Nat} {o : Obj}, w.heap[k]? = some o → (∀ cs z, o ≠ .cells cs 3 z) → (∀ cs z, o ≠ .cells cs 76 z) → (w7.setCell ⟨bk, 1, none⟩ v).heap[k]? = w.heap[k]? := fun hk h1 h2 => (set (nb hk h2)).trans (e7 (lt_of_heap hk) (nr hk h1))
  refine ⟨by rw [cell_of_row w7 bk 1 _ _ _ hbx]; rfl, by simp [World.frozen?, hbx], Lib.hid ⟨⟨?_, hnew, ?_, ?_, h.ne, h.kh, h.sh⟩, ⟨hg.os.trans hb.os, hg.tape.trans hb.tape, hg.output.trans hb.output, by simp; omega, fun k hk _ n2 n3 => (set n2).trans (e7 hk n3), fun k hk => ?_⟩⟩⟩
  · exact h.ar.keep (full h.ar.box (fun _ _ e => by simp at e) (fun _ _ e => by simp at e)) (full hrow (fun _ _ e => by simp at e) (fun _ _ e => by simp at e)) (full hob2 (fun _ _ e => by simp at e) (fun _ _ e => by simp at e))
  · exact h.kn.keep (full hob (fun _ _ e => by simp at e) (fun _ _ e => by simp at e))
  · have e1 : w7.ownsRow 0 3 1 v (hs ++ [r]).length ((hs ++ [r]).map (Value.int .i64)) := by simpa using hown
    refine ownsRow_same e1 (fun k hk => set (fun e => ?_))
    obtain ⟨c', fz, hc⟩ := kd7 k hk
    rw [e, hbx] at hc
    simp at hc
  · rcases hat k hk with e | e
    · exact .inl e
    · exact .inr (by omega)
theorem Tryd.infoI : (Tryd.prog.info? 3).map (fun i => (i.zero, i.size, i.bytes)) = some (some (.int .i64 0), 1, 8) := by kernel_rfl

/-- What Learn leaves. -/
def LPost (w : World) (bk b g bm cap lim : Nat) (L : List Nd) (mk : Nat) (hv : Value) (hs : List Int) (K : Int → Bool) (r : Int) (e : Ending) (w' : World) : Prop :=
  ∃ hv' K', e = .returned (.int .i64 0) ∧ Kno w' bk b g bm cap lim L mk hv' (hs ++ [r]) K' ∧ (∀ y, K' y = true ↔ cl L (fun x => K x = true ∨ x = r) y) ∧ Kl w w' bk mk hv hv'

set_option maxRecDepth 100000 in
set_option maxHeartbeats 4000000 in
theorem learn_again {w : World} {bk b g bm cap lim : Nat} {L : List Nd} {mk : Nat} {hv : Value} {hs : List Int} {K : Int → Bool} (h : Kno w bk b g bm cap lim L mk hv hs K) (hlen : hs.length ≤ 1000000) (r : Int) (hr : hasB L.length r = true) (hK : K r = true) :
    Calls Tryd.prog 22 #[.pointer (some ⟨bk, 0, none⟩), .int .i64 r] w (LPost w bk b g bm cap lim L mk hv hs K r) := by
  have c0 := h.kw.c0
  have hi := i64ok_of (hasB_iff.1 hr) h.ar.small
  have HC : Hid (∀ o, (w.alloc o).cell? ⟨b, 0, none⟩ = some (.slice (some ⟨g, 0, none⟩) L.length cap)) := Lib.hid (fun o => (h.ar.below ((Below.refl _ _).alloc (Nat.le_refl _) o)).c0)
  obtain ⟨i0, hi0, hz0, hz1, hz2⟩ := info_parts Tryd.infoI
  obtain ⟨sp, cp, hvv⟩ : ∃ sp cp, hv = .slice sp hs.length cp := by
    rcases h.own.2 with ⟨e, h0⟩ | ⟨g, cap, cur, e, _⟩
    · exact ⟨none, 0, by rw [e, h0]⟩
    · exact ⟨_, _, e⟩
  subst hvv
  have HH := Lib.hid h
  have c1 := h.kw.c1
  have hlt := lt_of_heap h.box
  have HO : Hid (∀ o o', ((w.alloc o).alloc o').ownsRow 0 3 1 (.slice sp hs.length cp) hs.length (hs.map (Value.int .i64))) := Lib.hid (fun o o' => (h.own.alloc o).alloc o')
  have hB2 : ∀ o o', Below w.heap.size w ((w.alloc o).alloc o') := fun o o' => ((Below.refl _ _).alloc (Nat.le_refl _) _).alloc (by simp) _
  have HB2 := Lib.hid hB2
  clear h hB2
  go_enter Tryd.func22, Tryd.ntmps22
  go_wp2_with (first
    | (go_at_call 43; refine (has1_any b (some ⟨g, 0, none⟩) L.length cap _ r _ (HC.out _) ?_).mono ?_; (go_simp); rintro e w' ⟨rfl, rfl⟩; rw [hr])
    | (at_builtin; refine wpList_append_lies _ rfl _ _ 23 rfl 0 3 i0 (.int .i64 0) 1 8 Tryd.underlying23 hi0 hz0 hz1 hz2 rfl (by decide) _ _ _ rfl (HO.out _ _) ⟨w.heap.size + 1, 0, none⟩ 1 1 [.int .i64 r] rfl rfl ?c1 ?c2 (by decide) ?c3 ?c4 ?c5 _ rfl ?_))
  case c1 =>
    intro j u hj
    match j, hj with
    | 0, hj => simp at hj; subst hj; simp [Addr.add]
  case c2 => intro u hu; simp at hu; subst hu; rfl
  case c3 => unfold maxLen; omega
  case c4 => omega
  case c5 => simp
  intro g2 cap2 w7 hown7 hgr7 hat7 hlt7
  obtain ⟨x7, y7, HFN⟩ := HH.out.heard (HB2.out _ _) hown7 hgr7 (fun k hk => by
    have hk : some g2 = some k := hk
    obtain rfl := Option.some.inj hk
    rcases hat7 with e | e
    · exact .inl e
    · exact .inr (by rw [e]; simp))
  have HKN := Lib.hid (knows_any r hi _ HFN.out.1.kw)
  rw [hK] at HKN
  clear hown7 hgr7 hat7 c0 c1
  go_wp2_with (go_at_call 16; refine HKN.out.mono ?_; rintro e w8 ⟨rfl, hb8⟩)
  go_ret
  refine ⟨_, K, rfl, HFN.out.1.keep hb8, fun y => ⟨fun hy => cl_in (.inl hy), fun hy => cl_least HH.out.sh (fun x hx => ?_) hy⟩, HFN.out.2.trans (Kl.below _ _ _ hb8)⟩
  rcases hx with e | rfl
  · exact e
  · exact hK
end Go.Proofs.YtemigefkkjgehaaDoor
