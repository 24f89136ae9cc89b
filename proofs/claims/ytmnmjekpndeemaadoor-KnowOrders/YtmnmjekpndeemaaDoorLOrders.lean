/- The walk of KnowOrders: in whatever order terms are learned, the same are known. -/
import Derived.Test.YtmnmjekpndeemaaDoorLCans
namespace Go.Proofs.YtmnmjekpndeemaaDoor
open Go.RowKit Go.Maps

set_option maxRecDepth 100000 in
set_option maxHeartbeats 1000000 in
theorem orders_long (s sr : Option Addr) (n m c cr : Nat) (hn : 30 < n ∨ 30 < m) (w : World) (hs : Shp w) : Calls Tryd.prog 6 #[.slice s n c, .slice sr m cr] w fun e w' => e = .returned (.bool true) ∧ Below w.heap.size w w' := by
  have HA := Lib.hid (awake_any w hs)
  have HF := Lib.hid (few_any s sr n m c cr w)
  rw [few_no hn] at HF
  clear hs hn
  go_enter Tryd.func6, Tryd.ntmps6
  go_wp2_with (first
    | (go_at_call 8; refine HF.out.mono ?_; rintro e w1 ⟨rfl, rfl⟩)
    | (go_at_call 9; refine HA.out.mono ?_; rintro e w2 ⟨rfl, hb2⟩))
  go_ret
  exact ⟨rfl, hb2⟩
theorem BuiltAt.later {w w' : World} {v : Value} {ns : List Nd} (h : BuiltAt w v ns) (hb : Below w.heap.size w w') : BuiltAt w' v ns := fun x lim hl W hW => h x lim hl W (hb.trans (hW.mono hb.size))
theorem lrn_mem {L : List Nd} {l l' : List Int} (h : ∀ x, x ∈ l → x ∈ l') {y : Int} (hy : lrn L l y) : lrn L l' y := cl_mono (fun x hx => ⟨h x hx.1, hx.2⟩) hy
theorem lrn_rev (L : List Nd) (l : List Int) (y : Int) : lrn L l.reverse y ↔ lrn L l y := ⟨lrn_mem (fun x hx => by simpa using hx), lrn_mem (fun x hx => by simpa using hx)⟩
theorem IntsV.own {w : World} {B c : Nat} {s : Option Addr} {l : List Int} (h : w.ownsRow B 3 1 (.slice s l.length c) l.length (l.map (Value.int .i64))) : IntsV w s l := fun h0 => by
  rcases h.2 with ⟨e, e0⟩ | ⟨g, cap, cur, e, _⟩
  · omega
  · have e1 : s = some ⟨g, 0, none⟩ := by injection e
    subst e1
    refine ⟨g, 0, rfl, (h.lt g rfl).2, fun i hi => ?_⟩
    rw [Nat.zero_add, World.ownsRow.cellAt h i (by omega), List.getElem?_map, List.getElem?_eq_getElem hi, List.getD_eq_getElem?_getD, List.getElem?_eq_getElem hi]; rfl
/-- A Know stands as it was where only another one's map has changed. -/
theorem Kno.other {w w' : World} {bk b g bm cap lim : Nat} {L : List Nd} {mk m : Nat} {hv : Value} {hs : List Int} {K : Int → Bool} (h : Kno w bk b g bm cap lim L mk hv hs K) (hp : Kp w w' m) (n1 : bk ≠ m) (n2 : b ≠ m) (n3 : g ≠ m) (n4 : bm ≠ m) (n5 : mk ≠ m) (n6 : hv.ownBlock ≠ some m) : Kno w' bk b g bm cap lim L mk hv hs K :=
  ⟨h.ar.keep (hp.kept _ h.ar.blt n2) (hp.kept _ h.ar.glt n3) (hp.kept _ h.ar.mlt n4), (hp.kept _ (lt_of_heap h.box) n1).trans h.box, h.kn.keep (hp.kept _ h.kn.lt n5), ownsRow_same h.own (fun k hk => hp.kept k (h.own.lt k hk).2 (fun e => n6 (by rw [hk, e]))), h.ne, h.kh, h.sh⟩
/-- Two of them side by side, the second one newer. -/
structure Kd (w wv : World) (S : Nat) (bk b g bm cap : Nat) (mk : Nat) (hv : Value) (hs : List Int) (K : Int → Bool) (bk' b' g' bm' cap' : Nat) (mk' : Nat) (hv' : Value) (hs' : List Int) (K' : Int → Bool) (L : List Nd) : Prop where
  k1 : Kx w wv bk b g bm cap 100 L mk hv hs K
  k2 : Kno wv bk' b' g' bm' cap' 100 L mk' hv' hs' K'
  le : w.heap.size ≤ S
  o1 : bk < S ∧ b < S ∧ g < S ∧ bm < S ∧ mk < S ∧ ∀ k, hv.ownBlock = some k → k < S
  o2 : S ≤ bk' ∧ S ≤ b' ∧ S ≤ g' ∧ S ≤ bm' ∧ S ≤ mk' ∧ ∀ k, hv'.ownBlock = some k → S ≤ k
section
variable {w wv w' : World} {S bk b g bm cap mk : Nat} {hv : Value} {hs : List Int} {K : Int → Bool} {bk' b' g' bm' cap' mk' : Nat} {hv' : Value} {hs' : List Int} {K' : Int → Bool} {L : List Nd}
theorem Kd.keep (h : Kd w wv S bk b g bm cap mk hv hs K bk' b' g' bm' cap' mk' hv' hs' K' L) (hb : Below wv.heap.size wv w') : Kd w w' S bk b g bm cap mk hv hs K bk' b' g' bm' cap' mk' hv' hs' K' L := ⟨h.k1.keep hb, h.k2.keep hb, h.le, h.o1, h.o2⟩
theorem Kd.can1 (h : Kd w wv S bk b g bm cap mk hv hs K bk' b' g' bm' cap' mk' hv' hs' K' L) (hk : Kno w' bk b g bm cap 100 L mk hv hs K) (hp : Kp wv w' mk) : Kd w w' S bk b g bm cap mk hv hs K bk' b' g' bm' cap' mk' hv' hs' K' L := by
  obtain ⟨a1, a2, a3, a4, a5, a6⟩ := h.o1
  obtain ⟨c1, c2, c3, c4, c5, c6⟩ := h.o2
  exact ⟨h.k1.can hk hp, h.k2.other hp (by omega) (by omega) (by omega) (by omega) (by omega) (fun e => by have := c6 _ e; omega), h.le, h.o1, h.o2⟩
theorem Kd.can2 (h : Kd w wv S bk b g bm cap mk hv hs K bk' b' g' bm' cap' mk' hv' hs' K' L) (hk : Kno w' bk' b' g' bm' cap' 100 L mk' hv' hs' K') (hp : Kp wv w' mk') : Kd w w' S bk b g bm cap mk hv hs K bk' b' g' bm' cap' mk' hv' hs' K' L := by
  obtain ⟨a1, a2, a3, a4, a5, a6⟩ := h.o1
  obtain ⟨c1, c2, c3, c4, c5, c6⟩ := h.o2
  have hl := h.le
  have hn := h.k1.kn.other hp (by omega) (by omega) (by omega) (by omega) (by omega) (fun e => by have := a6 _ e; omega)
  exact ⟨⟨⟨hn.ar, hp.bel h.k1.st.bel h.k1.st.bel.size (by omega), h.k1.st.hb, h.k1.st.hg, h.k1.st.hm⟩, hn, h.k1.h1, h.k1.h2, h.k1.h3⟩, hk, h.le, h.o1, h.o2⟩
end
set_option maxRecDepth 100000 in
set_option maxHeartbeats 8000000 in
theorem orders_good (s sr : Option Addr) (c cr : Nat) (ns : List Nd) (refs : List Int) (hn : ns.length ≤ 30) (hm : refs.length ≤ 30) (w : World) (hs : Shp w) (hB : BuiltAt w (.slice s ns.length c) ns) (hI : IntsV w sr refs) : Calls Tryd.prog 6 #[.slice s ns.length c, .slice sr refs.length cr] w fun e w' => e = .returned (.bool true) ∧ Below w.heap.size w w' := by
  have HF := Lib.hid (few_any s sr ns.length refs.length c cr w)
  rw [few_yes hn hm] at HF
  have HLD := Lib.hid (learned_any canF s sr c cr ns refs hm w hB hI w (Below.refl _ _))
  have HAw := Lib.hid (fun w1 (h : Below w.heap.size w w1) => awake_any w1 (hs.below h))
  obtain ⟨L, hLe⟩ : ∃ L, L = bld 100 ns := ⟨_, rfl⟩
  have HB := Lib.hid hB
  have HI := Lib.hid hI
  have HLE := Lib.hid hLe
  rw [← hLe] at HLD
  clear hs hB hI hLe
  go_enter Tryd.func6, Tryd.ntmps6
  go_wp2_with (first
    | (go_at_call 8; refine HF.out.mono ?_; rintro e w1 ⟨rfl, rfl⟩)
    | (go_at_call 10; refine HLD.out.mono ?_; rintro e w2 ⟨bk, b, g, bm, cap, gr, capr, mk, hv, K, gn, co, rfl, hKx, hag, hrow, han, hob, hKl⟩
       have hL100 : L.length ≤ 100 := hKx.kn.ar.len
       have HK2 := Lib.hid hKx
       have HWF := Lib.hid hKx.kn.ar.wf
       have HKL := Lib.hid hKl
       have HAG := Lib.hid hag
       clear hKx hag hrow han hob hKl))
  have hB2 : Below w2.heap.size w2 (w2.alloc (.cells #[.int .i64 100, .slice (some ⟨gr, 0, none⟩) L.length capr] 29)) := (Below.refl _ _).alloc (Nat.le_refl _) _
  have hbx : (w2.alloc (.cells #[.int .i64 100, .slice (some ⟨gr, 0, none⟩) L.length capr] 29)).heap[w2.heap.size]? = some (.cells #[.int .i64 100, .slice (some ⟨gr, 0, none⟩) L.length capr] 29 (0, 0)) := heap_alloc_new _ _
  have HK3 := Lib.hid (HK2.out.keep hB2)
  have hS : w.heap.size ≤ w2.heap.size := HK2.out.st.bel.size
  clear HK2 hB2 HLD HF HAG
  generalize hw3 : w2.alloc (.cells #[.int .i64 100, .slice (some ⟨gr, 0, none⟩) L.length capr] 29) = w3 at *
  have hp3 : w2.heap.size < w3.heap.size := lt_of_heap hbx
  clear hw3
  have HBX := Lib.hid hbx
  clear hbx
  generalize w2.heap.size = pb at *
  obtain ⟨i0, hi0, hz0, hz1, hz2⟩ := info_parts Tryd.infoI
  obtain ⟨V, HV⟩ : ∃ V : List Value, Hid (V = refs.reverse.map (Value.int .i64)) := ⟨_, Lib.hid rfl⟩
  have hVl : V.length = refs.length := by rw [HV.out]; simp
  have HVL := Lib.hid hVl
  clear hVl
  go_loopg [9, 10, 31] refs.length (fun q u9 _ u31 wr => ∃ k : Nat, k + q = refs.length ∧ u31 = .int .i64 k ∧ wr.ownsRow w3.heap.size 3 1 u9 k (V.take k) ∧ Below w3.heap.size w3 wr)
  case atStart => exact ⟨0, by omega, rfl, ⟨by simp, .inl ⟨rfl, rfl⟩⟩, Below.refl _ _⟩
  case round =>
    obtain ⟨k, hkq, rfl, hown, hbel⟩ := hrel
    by_cases hlt : k < refs.length
    · obtain ⟨gl, ol, rfl, hgl, hat⟩ := HI.out (by omega)
      obtain ⟨j, hj⟩ : ∃ j : Nat, refs.length = j + 1 + k := ⟨refs.length - 1 - k, by omega⟩
      have hlt' : (k : Int) < refs.length := by omega
      obtain ⟨x, hx⟩ : ∃ x, x = refs.getD j 0 := ⟨_, rfl⟩
      have hw3b : Below w.heap.size w w3 := HK3.out.st.bel
      have hcell : wr.cell? ⟨gl, ol + j, none⟩ = some (.int .i64 x) := by
        rw [hx, World.cell?_of_block (w := w) ((hbel.block gl (Nat.lt_of_lt_of_le hgl hw3b.size)).trans (hw3b.block gl hgl))]
        exact hat j (by omega)
      have hglr : gl < wr.heap.size := World.block_lt_of_cell? wr _ hcell
      have HOW : Hid (∀ o, (wr.alloc o).ownsRow w3.heap.size 3 1 u9 k (V.take k)) := Lib.hid (fun o => hown.alloc o)
      have HBE := Lib.hid hbel
      have HAT := Lib.hid hat
      have HX := Lib.hid hx
      have HJ := Lib.hid hj
      have hsz := hbel.size
      obtain ⟨sp, cp, hvv⟩ := own_form hown
      subst hvv
      have e1 : (refs.length : Int) - 1 = ((j + k : Nat) : Int) := by omega
      have e2 : ((j + k : Nat) : Int) - (k : Int) = (j : Int) := by omega
      have e3 : (j : Int) < refs.length := by omega
      have e4 : j < refs.length := by omega
      clear hown hbel hat hx hj
      go_wp2_with (first
        | (at_builtin; refine wpList_append_lies _ rfl _ _ 23 rfl w3.heap.size 3 i0 (.int .i64 0) 1 8 Tryd.underlying23 hi0 hz0 hz1 hz2 rfl (by decide) _ _ _ rfl (HOW.out _) ⟨wr.heap.size, 0, none⟩ 1 1 [.int .i64 x] rfl rfl ?c1 ?c2 (by decide) ?c3 ?c4 ?c5 _ rfl ?_))
      case c1 =>
        intro j' u hj'
        match j', hj' with
        | 0, hj' => simp at hj'; subst hj'; simp [Addr.add]
      case c2 => intro u hu; simp at hu; subst hu; rfl
      case c3 => unfold maxLen; omega
      case c4 => omega
      case c5 => simp; omega
      intro g2 cap2 w7 hown7 hgr7 hat7 hlt7
      have HO7 : Hid (w7.ownsRow w3.heap.size 3 1 (.slice (some ⟨g2, 0, none⟩) (k + 1) cap2) (k + 1) (V.take (k + 1)) ∧ Below w3.heap.size w3 w7) := Lib.hid (by
        refine ⟨?_, (HBE.out.alloc hsz _).grown hgr7 (by simp; omega) (fun k hk => ((HOW.out (.cells #[.int .i64 x] 3)).lt k hk).1)⟩
        have ek : V.take (k + 1) = V.take k ++ [.int .i64 x] := by
          rw [List.take_add_one]
          congr 1
          have hJ := HJ.out
          rw [HV.out, List.getElem?_map, List.getElem?_reverse (by omega), show refs.length - 1 - k = j by omega, HX.out, List.getD_eq_getElem?_getD, List.getElem?_eq_getElem (by omega)]
          rfl
        rw [ek]; exact hown7)
      clear hown7 hgr7 hat7 HOW HBE
      go_wp2_with fail
      go_roundg (refs.length - (k + 1))
      case rel => exact ⟨k + 1, by omega, by simp, HO7.out.1, HO7.out.2⟩
      case measure => omega
    · obtain rfl : k = refs.length := by omega
      have hV : V.take refs.length = refs.reverse.map (Value.int .i64) := by rw [← HVL.out, List.take_length, HV.out]
      rw [hV] at hown
      obtain ⟨st, ct, hvv⟩ := own_form hown
      subst hvv
      have hI4 : IntsV wr st refs.reverse := IntsV.own (B := w3.heap.size) (c := ct) (by rw [List.length_reverse]; exact hown)
      have hbw : Below w.heap.size w wr := HK3.out.st.bel.trans (hbel.mono HK3.out.st.bel.size)
      have HL2 := Lib.hid (learned_any canF s st c ct ns refs.reverse (by simpa using hm) wr (HB.out.later hbw) hI4 wr (Below.refl _ _))
      rw [List.length_reverse, ← HLE.out] at HL2
      have HK4 := Lib.hid (HK3.out.keep hbel)
      have HBX4 := Lib.hid ((hbel.block pb hp3).trans HBX.out)
      have HS4 := Lib.hid hbel.size
      clear hV hown hbel hI4 hbw HBX HK3 HV HVL hi0 hz0 hz1 hz2 HB HI
      go_wp2_with (first
        | (go_at_call 10; refine HL2.out.mono ?_; rintro e w5 ⟨bk', b', g', bm', cap', gr', capr', mk', hv', K', gn', co', rfl, hKx, hag, hrow, han, hob, hKl⟩
           have HK5 : Hid (Kd w w5 wr.heap.size bk b g bm cap mk hv (refs.filter fun x => hasB L.length x) K bk' b' g' bm' cap' mk' hv' (refs.reverse.filter fun x => hasB L.length x) K' L) := Lib.hid (by
             have hk := HK4.out.kn
             exact ⟨HK4.out.keep hKx.st.bel, hKx.kn, HK4.out.st.bel.size, ⟨lt_of_heap hk.box, hk.ar.blt, hk.ar.glt, hk.ar.mlt, hk.kn.lt, fun k e => (hk.own.lt k e).2⟩, ⟨hKx.h1, hKx.st.hb, hKx.st.hg, hKx.st.hm, hKx.h2, hKx.h3⟩⟩)
           have HX5 := Lib.hid ((hKx.st.bel.block pb (lt_of_heap HBX4.out)).trans HBX4.out)
           have z5 : w5.cell? ⟨pb, 1, none⟩ = some (.slice (some ⟨gr, 0, none⟩) L.length capr) := by rw [cell_of_row w5 _ 1 _ _ _ HX5.out]; rfl
           have hp5 : pb < w5.heap.size := lt_of_heap HX5.out
           have HKL2 := Lib.hid hKl
           clear hKx hag hrow han hob hKl))
      have HKK : Hid (∀ y, K' y = K y) := Lib.hid (fun y => by rw [Bool.eq_iff_iff]; exact (HKL2.out y).trans ((lrn_rev L refs y).trans (HKL.out y).symm))
      clear HKL HKL2 HLE HX5 z5 hp5 HBX4 HK4 HL2
      generalize refs.filter (fun x => hasB L.length x) = hs at *
      generalize refs.reverse.filter (fun x => hasB L.length x) = hs' at *
      generalize wr.heap.size = S at *
      go_loopg [15, 63] L.length (fun q _ u63 wv => ∃ k : Nat, k + q = L.length ∧ u63 = .int .i64 k ∧ Kd w wv S bk b g bm cap mk hv hs K bk' b' g' bm' cap' mk' hv' hs' K' L)
      case atStart => exact ⟨0, by omega, rfl, HK5.out.keep ((Below.refl _ _).alloc (Nat.le_refl _) _)⟩
      case round =>
        clear HK5
        obtain ⟨k, hkq2, rfl, hKd⟩ := hrel
        by_cases hlt2 : k < L.length
        · have hhas : hasB L.length (k : Int) = true := hasB_iff.2 ⟨by omega, by omega⟩
          have hlt' : (k : Int) < L.length := by omega
          obtain ⟨y, hy⟩ : ∃ y, y = K (k : Int) := ⟨_, rfl⟩
          obtain ⟨z, hz⟩ : ∃ z : Bool, (z = true ↔ Can L (fun x => K x = true) (k : Int)) := by
            by_cases h : Can L (fun x => K x = true) (k : Int)
            · exact ⟨true, fun _ => h, fun _ => rfl⟩
            · exact ⟨false, fun e => (by cases e), fun e => absurd e h⟩
          have hKf : (fun x => K' x = true) = fun x => K x = true := funext fun x => by rw [HKK.out x]
          have HN1 : Hid (∀ wq, Kd w wq S bk b g bm cap mk hv hs K bk' b' g' bm' cap' mk' hv' hs' K' L → Calls Tryd.prog 12 #[.pointer (some ⟨bk, 0, none⟩), .int .i64 (k : Int)] wq fun e w' => e = .returned (.bool y) ∧ Below wq.heap.size wq w') := Lib.hid (fun wq hq => by
            rw [hy]; exact knows_any (k : Int) ⟨by omega, by omega⟩ wq hq.k1.kn.kw)
          have HN2 : Hid (∀ wq, Kd w wq S bk b g bm cap mk hv hs K bk' b' g' bm' cap' mk' hv' hs' K' L → Calls Tryd.prog 12 #[.pointer (some ⟨bk', 0, none⟩), .int .i64 (k : Int)] wq fun e w' => e = .returned (.bool y) ∧ Below wq.heap.size wq w') := Lib.hid (fun wq hq => by
            rw [hy, ← HKK.out]; exact knows_any (k : Int) ⟨by omega, by omega⟩ wq hq.k2.kw)
          have HC1 : Hid (∀ wq, Kd w wq S bk b g bm cap mk hv hs K bk' b' g' bm' cap' mk' hv' hs' K' L → Calls Tryd.prog 16 #[.pointer (some ⟨bk, 0, none⟩), .int .i64 (k : Int)] wq fun e w' => e = .returned (.bool z) ∧ Kno w' bk b g bm cap 100 L mk hv hs K ∧ Kp wq w' mk) := Lib.hid (fun wq hq => (can_any HWF.out hq.k1.kn (k : Int) hhas).mono (by
            rintro e w' ⟨d, rfl, hd, hN, hP⟩
            have e1 : d = z := by rw [Bool.eq_iff_iff]; exact hd.trans hz.symm
            exact ⟨by rw [e1], hN, hP⟩))
          have HC2 : Hid (∀ wq, Kd w wq S bk b g bm cap mk hv hs K bk' b' g' bm' cap' mk' hv' hs' K' L → Calls Tryd.prog 16 #[.pointer (some ⟨bk', 0, none⟩), .int .i64 (k : Int)] wq fun e w' => e = .returned (.bool z) ∧ Kno w' bk' b' g' bm' cap' 100 L mk' hv' hs' K' ∧ Kp wq w' mk') := Lib.hid (fun wq hq => (can_any HWF.out hq.k2 (k : Int) hhas).mono (by
            rintro e w' ⟨d, rfl, hd, hN, hP⟩
            rw [hKf] at hd
            have e1 : d = z := by rw [Bool.eq_iff_iff]; exact hd.trans hz.symm
            exact ⟨by rw [e1], hN, hP⟩))
          have HKD := Lib.hid hKd
          clear hKd hhas hy hz hKf
          cases y with
          | false =>
            cases z with
            | false =>
              go_wp2_with (first
                | (go_at_call 16; have _k := HD8; refine (HC2.out _ HD8.out).mono ?_; rintro e w9 ⟨rfl, hN9, hP9⟩; have HD9 := Lib.hid (HD8.out.can2 hN9 hP9); clear hN9 hP9)
                | (go_at_call 16; have _k := HD7; refine (HC1.out _ HD7.out).mono ?_; rintro e w8 ⟨rfl, hN8, hP8⟩; have HD8 := Lib.hid (HD7.out.can1 hN8 hP8); clear hN8 hP8)
                | (go_at_call 12; have _k := HD6; refine (HN2.out _ HD6.out).mono ?_; rintro e w7 ⟨rfl, hb7⟩; have HD7 := Lib.hid (HD6.out.keep hb7); clear hb7)
                | (go_at_call 12; refine (HN1.out _ HKD.out).mono ?_; rintro e w6 ⟨rfl, hb6⟩; have HD6 := Lib.hid (HKD.out.keep hb6); clear hb6))
              go_roundg (L.length - (k + 1))
              case rel => exact ⟨k + 1, by omega, by simp, HD9.out⟩
              case measure => omega
            | true =>
              go_wp2_with (first
                | (go_at_call 16; have _k := HD8; refine (HC2.out _ HD8.out).mono ?_; rintro e w9 ⟨rfl, hN9, hP9⟩; have HD9 := Lib.hid (HD8.out.can2 hN9 hP9); clear hN9 hP9)
                | (go_at_call 16; have _k := HD7; refine (HC1.out _ HD7.out).mono ?_; rintro e w8 ⟨rfl, hN8, hP8⟩; have HD8 := Lib.hid (HD7.out.can1 hN8 hP8); clear hN8 hP8)
                | (go_at_call 12; have _k := HD6; refine (HN2.out _ HD6.out).mono ?_; rintro e w7 ⟨rfl, hb7⟩; have HD7 := Lib.hid (HD6.out.keep hb7); clear hb7)
                | (go_at_call 12; refine (HN1.out _ HKD.out).mono ?_; rintro e w6 ⟨rfl, hb6⟩; have HD6 := Lib.hid (HKD.out.keep hb6); clear hb6))
              go_roundg (L.length - (k + 1))
              case rel => exact ⟨k + 1, by omega, by simp, HD9.out⟩
              case measure => omega
          | true =>
            cases z with
            | false =>
              go_wp2_with (first
                | (go_at_call 16; have _k := HD8; refine (HC2.out _ HD8.out).mono ?_; rintro e w9 ⟨rfl, hN9, hP9⟩; have HD9 := Lib.hid (HD8.out.can2 hN9 hP9); clear hN9 hP9)
                | (go_at_call 16; have _k := HD7; refine (HC1.out _ HD7.out).mono ?_; rintro e w8 ⟨rfl, hN8, hP8⟩; have HD8 := Lib.hid (HD7.out.can1 hN8 hP8); clear hN8 hP8)
                | (go_at_call 12; have _k := HD6; refine (HN2.out _ HD6.out).mono ?_; rintro e w7 ⟨rfl, hb7⟩; have HD7 := Lib.hid (HD6.out.keep hb7); clear hb7)
                | (go_at_call 12; refine (HN1.out _ HKD.out).mono ?_; rintro e w6 ⟨rfl, hb6⟩; have HD6 := Lib.hid (HKD.out.keep hb6); clear hb6))
              go_roundg (L.length - (k + 1))
              case rel => exact ⟨k + 1, by omega, by simp, HD9.out⟩
              case measure => omega
            | true =>
              go_wp2_with (first
                | (go_at_call 16; have _k := HD8; refine (HC2.out _ HD8.out).mono ?_; rintro e w9 ⟨rfl, hN9, hP9⟩; have HD9 := Lib.hid (HD8.out.can2 hN9 hP9); clear hN9 hP9)
                | (go_at_call 16; have _k := HD7; refine (HC1.out _ HD7.out).mono ?_; rintro e w8 ⟨rfl, hN8, hP8⟩; have HD8 := Lib.hid (HD7.out.can1 hN8 hP8); clear hN8 hP8)
                | (go_at_call 12; have _k := HD6; refine (HN2.out _ HD6.out).mono ?_; rintro e w7 ⟨rfl, hb7⟩; have HD7 := Lib.hid (HD6.out.keep hb7); clear hb7)
                | (go_at_call 12; refine (HN1.out _ HKD.out).mono ?_; rintro e w6 ⟨rfl, hb6⟩; have HD6 := Lib.hid (HKD.out.keep hb6); clear hb6))
              go_roundg (L.length - (k + 1))
              case rel => exact ⟨k + 1, by omega, by simp, HD9.out⟩
              case measure => omega
        · obtain rfl : k = L.length := by omega
          have HKD := Lib.hid hKd
          have HA5 := Lib.hid (HAw.out _ hKd.k1.st.bel)
          clear hKd
          go_wp2_with (first
            | (go_at_call 9; refine HA5.out.mono ?_; rintro e w7 ⟨rfl, hb7⟩))
          go_ret
          exact ⟨rfl, (HKD.out.keep hb7).k1.st.bel⟩
end Go.Proofs.YtmnmjekpndeemaaDoor
