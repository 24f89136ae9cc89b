import Derived.Test.YtlckajnbmkkpeaaDoorXj
import Derived.Maps.RangeWalk
import Derived.Shelf.SlicesE.Clone
import Derived.Ground.SlgnProg
import Derived.Test.YtlckajnbmkkpeaaDoorQh

/- Layer 3: what is known, in memory; the known Seals whose content is not known. -/
namespace Go.Proofs.YtlckajnbmkkpeaaDoor
open Go.RowKit Go.Maps

/-- What is known, with its arena, in memory. -/
structure Kno (w : World) (bk b g bm cap lim : Nat) (L : List Nd) (mk : Nat) (hv : Value) (hs : List Int) (K : Int → Bool) : Prop where
  ar : Ar w b g bm cap lim L
  box : w.heap[bk]? = some (.cells #[.pointer (some ⟨b, 0, none⟩), hv, .map (some mk)] 76 (0, 0))
  kn : MapU w mk (cnt L.length K) K
  own : w.ownsRow 0 3 1 hv hs.length (hs.map (Value.int .i64))
  ne : mk ≠ bm
  kh : ∀ r, K r = true → hasB L.length r = true
  sh : Shut L fun r => K r = true
section
variable {w : World} {bk b g bm cap lim : Nat} {L : List Nd} {mk : Nat} {hv : Value} {hs : List Int} {K : Int → Bool}
theorem Kno.kw (h : Kno w bk b g bm cap lim L mk hv hs K) : Kw w bk b mk (cnt L.length K) hv K := ⟨h.box, h.kn⟩
theorem Kno.keep (h : Kno w bk b g bm cap lim L mk hv hs K) {w' : World} (hb : Below w.heap.size w w') : Kno w' bk b g bm cap lim L mk hv hs K :=
  ⟨h.ar.below hb, (hb.block _ (lt_of_heap h.box)).trans h.box, h.kn.keep (hb.block _ h.kn.lt), ownsRow_same h.own (fun k hk => hb.block k (h.own.lt k hk).2), h.ne, h.kh, h.sh⟩
end

theorem get_hasL {b g bm cap lim : Nat} {L : List Nd} {r : Int} (hr : hasB L.length r = true) {w : World} (hA : Ar w b g bm cap lim L) :
    Calls Tryd.prog 47 #[.pointer (some ⟨b, 0, none⟩), .int .i64 r] w fun e w' => e = .returned (.tuple #[.agg #[.int .i64 (nd L r).k, .int .u64 (nd L r).n, .int .i64 (nd L r).a, .int .i64 (nd L r).b, .int .i64 (nd L r).c], .bool true]) ∧ Below w.heap.size w w' := by
  have h := hasB_iff.1 hr
  obtain ⟨i, rfl⟩ : ∃ i : Nat, r = i := ⟨r.toNat, by omega⟩
  exact get_yes b g bm cap lim L i (by omega) w hA
/-- The loop over what is known, under way. -/
structure Sl (w wr : World) (L : List Nd) (mk n : Nat) (K : Int → Bool) (D : DataW Unit) (v : Value) (left : Lit → Bool) (q : Nat) (l : List Int) : Prop where
  rg : wr.ranges Tryd.prog 3 (unitElem (H := Unit)) mk w.heap.size n D left q
  own : wr.ownsRow w.heap.size 67 5 v l.length (cells (l.map (nd L)))
  bel : Below w.heap.size w wr
  inn : ∀ x ∈ l, K x = true ∧ (nd L x).k = 7
  all : ∀ x, K x = true → (nd L x).k = 7 → K (nd L x).c = true ∨ x ∈ l ∨ left (.int .i64 x) = true
  has : ∀ kl, left kl = true → Maps.has D kl = true
  len : l.length + q ≤ n
theorem same_int {x y : Int} (h : (Lit.int .i64 x).sameKey (.int .i64 y) = true) : x = y := by
  have := WideAt.sameKey_eq h
  injection this
theorem Sl.step {w wr w1 : World} {L : List Nd} {mk n : Nat} {K : Int → Bool} {D : DataW Unit} {v : Value} {left : Lit → Bool} {q q1 : Nat} {l : List Int} (h : Sl w wr L mk n K D v left q l) {x : Int} (hq : q1 < q) (hb : Below w.heap.size w w1) {l' : List Int} {v' : Value} (hl : l' = l ∧ ((nd L x).k = 7 → K (nd L x).c = true) ∨ l' = l ++ [x] ∧ K x = true ∧ (nd L x).k = 7)
    (hrg : w1.ranges Tryd.prog 3 (unitElem (H := Unit)) mk w.heap.size n D (fun z => left z && !z.sameKey (.int .i64 x)) q1) (hown : w1.ownsRow w.heap.size 67 5 v' l'.length (cells (l'.map (nd L)))) : Sl w w1 L mk n K D v' (fun z => left z && !z.sameKey (.int .i64 x)) q1 l' := by
  refine ⟨hrg, hown, hb, fun y hy => ?_, fun y h1 h2 => ?_, fun kl hkl => ?_, ?_⟩
  · rcases hl with ⟨rfl, _⟩ | ⟨rfl, h1, h2⟩
    · exact h.inn y hy
    · rcases List.mem_append.1 hy with e | e
      · exact h.inn y e
      · simp at e; subst e; exact ⟨h1, h2⟩
  · rcases h.all y h1 h2 with e | e | e
    · exact .inl e
    · rcases hl with ⟨rfl, _⟩ | ⟨rfl, _⟩
      · exact .inr (.inl e)
      · exact .inr (.inl (List.mem_append_left _ e))
    · by_cases hx : y = x
      · subst hx
        rcases hl with ⟨_, h3⟩ | ⟨rfl, _⟩
        · exact .inl (h3 h2)
        · exact .inr (.inl (by simp))
      · refine .inr (.inr ?_)
        simp only [Bool.and_eq_true, Bool.not_eq_true']
        refine ⟨e, ?_⟩
        cases hs : (Lit.int .i64 y).sameKey (.int .i64 x) with
        | false => rfl
        | true => exact absurd (same_int hs) hx
  · simp only [Bool.and_eq_true] at hkl
    exact h.has kl hkl.1
  · have := h.len
    rcases hl with ⟨rfl, _⟩ | ⟨rfl, _⟩
    · omega
    · simp only [List.length_append, List.length_cons, List.length_nil]; omega
theorem grownOf {X0 X : World} (hB : Below X0.heap.size X0 X) : X0.grownBy X none := ⟨hB.os, hB.tape, hB.output, hB.size, fun k hk _ => hB.block k hk⟩
def rangeLeftLe (w wr : World) (mk q : Nat) : Prop := wr.rangeLeft mk w.heap.size = q
theorem cells_snoc (L : List Nd) (l : List Int) (x : Int) : cells ((l ++ [x]).map (nd L)) = cells (l.map (nd L)) ++ vals (nd L x) := by
  rw [List.map_append, cells_append, List.map_cons, List.map_nil, cells_one]
theorem Sl.append {w wr w1 w7 : World} {L : List Nd} {mk n : Nat} {K : Int → Bool} {D : DataW Unit} {v v' : Value} {left : Lit → Bool} {q q1 : Nat} {l : List Int} (h : Sl w wr L mk n K D v left q l) {x : Int} (hq : q1 < q) (hb : Below w.heap.size w w1) (hsz : w.heap.size ≤ w1.heap.size) (hK : K x = true) (k7 : (nd L x).k = 7)
    (hrg : w1.ranges Tryd.prog 3 (unitElem (H := Unit)) mk w.heap.size n D (fun z => left z && !z.sameKey (.int .i64 x)) q1) (hown : w1.ownsRow w.heap.size 67 5 v l.length (cells (l.map (nd L)))) (hown7 : w7.ownsRow w.heap.size 67 5 v' (l.length + 1) (cells (l.map (nd L)) ++ vals ⟨7, (nd L x).n, (nd L x).a, (nd L x).b, (nd L x).c⟩)) (hg : w1.grownBy w7 v.ownBlock) :
    Sl w w7 L mk n K D v' (fun z => left z && !z.sameKey (.int .i64 x)) q1 (l ++ [x]) ∧ True := by
  have kd := Lib.ownsRow_kind hown
  have e7 : vals ⟨7, (nd L x).n, (nd L x).a, (nd L x).b, (nd L x).c⟩ = vals (nd L x) := by unfold vals; rw [k7]
  refine ⟨h.step hq (hb.grown hg hsz (fun k hk => (hown.lt k hk).1)) (.inr ⟨rfl, hK, k7⟩) (hrg.kept hg (fun e => ?_) (fun e => ?_)) ?_, trivial⟩
  · obtain ⟨c', fz, hc⟩ := kd mk e.symm
    obtain ⟨es, clock, _, _, _, hmb, _⟩ := hrg
    rw [hmb] at hc; cases hc
  · obtain ⟨c', fz, hc⟩ := kd w.heap.size e.symm
    obtain ⟨es, clock, since, seen, c0', _, _, _, _, hr, _⟩ := hrg
    rw [hr] at hc; cases hc
  · rw [cells_snoc, ← e7, List.length_append, List.length_cons, List.length_nil]
    exact hown7
set_option maxRecDepth 100000 in
set_option maxHeartbeats 8000000 in
theorem shut_any {w : World} {bk b g bm cap lim : Nat} {L : List Nd} {mk : Nat} {hv : Value} {hs : List Int} {K : Int → Bool} (h : Kno w bk b g bm cap lim L mk hv hs K) :
    Calls Tryd.prog 44 #[.pointer (some ⟨bk, 0, none⟩)] w fun e w' => ∃ (v : Value) (l : List Int), e = .returned v ∧ w'.ownsRow w.heap.size 67 5 v l.length (cells (l.map (nd L))) ∧ (∀ x ∈ l, K x = true ∧ (nd L x).k = 7) ∧ (∀ x, K x = true → (nd L x).k = 7 → K (nd L x).c = true ∨ x ∈ l) ∧ l.length ≤ L.length ∧ Below w.heap.size w w' := by
  have c0 := h.kw.c0
  have c2 := h.kw.c2
  have hsm := h.ar.small
  have hnn := cnt_le L.length K
  obtain ⟨D, hown, hreg⟩ := h.kn
  obtain ⟨nk, hnk⟩ : ∃ nk, nk = cnt L.length K := ⟨_, rfl⟩
  rw [← hnk] at hown hnn
  have hlt := lt_of_heap h.box
  have HH := Lib.hid h
  have HRG := Lib.hid hreg
  obtain ⟨i0, hi0, hz0, hz1, hz2⟩ := info_parts Tryd.info67
  clear h hreg hnk
  go_enter Tryd.func44, Tryd.ntmps44
  go_wp2_with (first
    | (at_range; refine wpList_range_own _ rfl _ 73 rfl 3 74 lawI Tryd.underlying73 _ mk _ _ rfl hown ?_; intro w0 hrg0 hg0 hs0)
    | go_in)
  go_frame
  have hb0 : Below w.heap.size w w0 := ⟨hg0.os, hg0.tape, hg0.output, hg0.size, fun k hk => hg0.block k hk (by simp)⟩
  go_loopw [3, 4, 5, 6] (fun u3 _ _ _ wr => ∃ (left : Lit → Bool) (q : Nat) (l : List Int), Sl w wr L mk nk K D u3 left q l) (fun _ _ _ _ wr => wr.rangeLeft mk w.heap.size)
  case atStart => exact ⟨_, _, [], hrg0, World.ownsRow_nil _ _ _ _, hb0, by simp, fun x h1 _ => .inr (.inr (by rw [HRG.out.2 x (i64ok_of (hasB_iff.1 (HH.out.kh x h1)) hsm)]; exact h1)), fun _ h => h, by simpa using hown.size_le⟩
  case round =>
    obtain ⟨left, q, l, hSl⟩ := hrel
    have hrg := hSl.rg
    have HSL := Lib.hid hSl
    clear hSl
    go_wp2_with (first
      | (at_next; refine wpList_next_ranges _ rfl _ rfl 3 lawI (unitElem (H := Unit)) (Value.int .i64) (fun _ : Unit => .agg #[]) (fun key kl hkey => by obtain ⟨x, rfl, _⟩ := Maps.keyOf_int_inv Tryd.underlying3 hkey; exact ⟨x, rfl⟩) (fun v y hv => by obtain ⟨rfl, _⟩ := unitElem_inv hv; exact ⟨(), rfl⟩) mk w.heap.size nk D _ _ rfl hrg ?_ ?_)
      | go_in)
    · intro _ hl0
      go_wp2_with fail
      go_ret
      refine ⟨_, l, rfl, HSL.out.own, HSL.out.inn, fun x h1 h2 => ?_, by have := HSL.out.len; omega, HSL.out.bel⟩
      rcases HSL.out.all x h1 h2 with e | e | e
      · exact .inl e
      · exact .inr e
      · rw [hl0] at e; cases e
    · intro x c kl y w1 q1 hkey hlk hvv hat hrg1 hqlt hg1 hs1 hen
      obtain ⟨x', ex, rfl, hwx⟩ := Maps.keyOf_int_inv Tryd.underlying3 hkey
      cases ex
      have hKx : K x = true := by rw [← HRG.out.2 x (ok_i64 hwx)]; exact HSL.out.has _ hlk
      have hhx := HH.out.kh x hKx
      have hb1 : Below w.heap.size w w1 := HSL.out.bel.grown hg1 HSL.out.bel.size (fun j hj => by cases hj; exact Nat.le_refl _)
      have hown1 : w1.ownsRow w.heap.size 67 5 u3 l.length (cells (l.map (nd L))) := HSL.out.own.kept hg1 (by
        rcases HSL.out.own.2 with ⟨rfl, _⟩ | ⟨g', cap', cur', rfl, _, hgg, _⟩
        · exact .inl rfl
        · refine .inr (fun e => ?_)
          obtain ⟨es, clock, since, seen, c0', _, _, _, _, hr, _⟩ := hrg
          have e : some g' = some w.heap.size := e
          obtain rfl := Option.some.inj e
          rw [hgg] at hr; cases hr)
      have HG := Lib.hid (get_hasL hhx (HH.out.ar.below hb1))
      have k0 := (HH.out.kw.keep hb1).c0
      have HRN : Hid (∀ w2, Below w1.heap.size w1 w2 → w2.ranges Tryd.prog 3 (unitElem (H := Unit)) mk w.heap.size nk D (fun z => left z && !z.sameKey (.int .i64 x)) q1) := Lib.hid (fun w2 hb => hrg1.kept (grownOf hb) (by simp) (by simp))
      have HON : Hid (∀ w2, Below w1.heap.size w1 w2 → w2.ownsRow w.heap.size 67 5 u3 l.length (cells (l.map (nd L)))) := Lib.hid (fun w2 hb => ownsRow_same hown1 (fun k hk => hb.block k (hown1.lt k hk).2))
      have HB1 := Lib.hid hb1
      have hbk1 : bk < w1.heap.size := Nat.lt_of_lt_of_le hlt hb1.size
      have hle0 : rangeLeftLe w wr mk q := hrg.left_eq
      have HLE0 := Lib.hid hle0
      have hws := hb1.size
      have HWS := Lib.hid hws
      have hllen : l.length ≤ 65536 := by have := HSL.out.len; omega
      clear hrg hrg1 hg1 hs1 hb1 hown1 hvv hat hkey hlk hle0 hws
      by_cases k7 : (nd L x).k = 7
      · have hhc := (nd_has HH.out.ar.wf hhx).2.2
        have HKN : Hid (∀ w2, Below w1.heap.size w1 w2 → Calls Tryd.prog 16 #[.pointer (some ⟨bk, 0, none⟩), .int .i64 (nd L x).c] w2 fun e w' => e = .returned (.bool (K (nd L x).c)) ∧ Below w2.heap.size w2 w') := Lib.hid (fun w2 hb => knows_any _ (i64ok_of (hasB_iff.1 hhc) hsm) w2 (HH.out.kw.keep (HB1.out.trans (hb.mono HWS.out))))
        cases hKc : K (nd L x).c with
        | true =>
          rw [hKc] at HKN
          go_wp2_with (first
            | (go_at_call 47; refine HG.out.mono ?_; rintro e w2 ⟨rfl, hb2⟩; rw [k7]; have hb3 := fun o => hb2.alloc hb2.size o; have HB3 := Lib.hid hb3; have hs2 := hb2.size)
            | (go_at_call 16; refine (HKN.out _ (HB3.out _)).mono ?_; rintro e w3 ⟨rfl, hb4⟩; have hb5 := (HB3.out _).trans (hb4.mono (by simp; omega))))
          go_roundw
          case rel => exact ⟨_, q1, l, HSL.out.step hqlt (HB1.out.trans (hb5.mono HWS.out)) (.inl ⟨rfl, fun _ => hKc⟩) (HRN.out _ hb5) (HON.out _ hb5)⟩
          case measure => rw [(HRN.out _ hb5).left_eq, show wr.rangeLeft mk w.heap.size = q from HLE0.out]; omega
        | false =>
          rw [hKc] at HKN
          go_wp2_with (first
            | (go_at_call 47; refine HG.out.mono ?_; rintro e w2 ⟨rfl, hb2⟩; rw [k7]; have hb3 := fun o => hb2.alloc hb2.size o; have HB3 := Lib.hid hb3; have hs2 := hb2.size)
            | (go_at_call 16; refine (HKN.out _ (HB3.out _)).mono ?_; rintro e w3 ⟨rfl, hb4⟩; have hb5 := (HB3.out _).trans (hb4.mono (by simp; omega)); have hb5' := hb5; have hnb : w3.heap[w2.heap.size]? = _ := (hb4.block w2.heap.size (by simp)).trans (heap_alloc_new w2 _); have hn0 := cell_of_row w3 w2.heap.size 0 _ _ _ hnb; have hn1 := cell_of_row w3 w2.heap.size 1 _ _ _ hnb; have hn2 := cell_of_row w3 w2.heap.size 2 _ _ _ hnb; have hn3 := cell_of_row w3 w2.heap.size 3 _ _ _ hnb; have hn4 := cell_of_row w3 w2.heap.size 4 _ _ _ hnb; simp at hn0 hn1 hn2 hn3 hn4)
            | (at_builtin; refine wpList_append_lies _ rfl _ _ 22 rfl w.heap.size 67 i0 _ 5 40 Tryd.underlying22 hi0 hz0 hz1 hz2 rfl (by decide) _ _ _ rfl ((HON.out _ hb5').alloc _) ⟨w3.heap.size, 0, none⟩ 1 1 (vals ⟨7, (nd L x).n, (nd L x).a, (nd L x).b, (nd L x).c⟩) rfl rfl ?c1 ?c2 (by decide) ?c3 ?c4 ?c5 _ rfl ?_))
          case c1 =>
            intro j u hj
            have hblk : (w3.alloc (.cells (vals ⟨7, (nd L x).n, (nd L x).a, (nd L x).b, (nd L x).c⟩).toArray 67)).heap[w3.heap.size]? = some (.cells (vals ⟨7, (nd L x).n, (nd L x).a, (nd L x).b, (nd L x).c⟩).toArray 67 (0, 0)) := heap_alloc_new _ _
            exact World.news_of_block hblk j u hj
          case c2 => intro u hu; simp [vals] at hu; rcases hu with rfl | rfl | rfl | rfl | rfl <;> rfl
          case c3 => unfold maxLen; omega
          case c4 => omega
          case c5 => have := HWS.out; have := hb5'.size; simp; omega
          intro g2 cap2 w7 hown7 hgr7 hat7 hlt7
          have hb6 := hb5'.alloc hb5'.size (.cells #[.int .i64 7, .int .u64 (nd L x).n, .int .i64 (nd L x).a, .int .i64 (nd L x).b, .int .i64 (nd L x).c] 67)
          have HFN := Lib.hid (HSL.out.append hqlt (HB1.out.trans (hb6.mono HWS.out)) (Nat.le_trans HWS.out hb6.size) hKx k7 (HRN.out _ hb6) (HON.out _ hb6) hown7 hgr7)
          clear hown7 hgr7 hat7 hn0 hn1 hn2 hn3 hn4 hnb hb5 hb5' hb6
          go_wp2_with fail
          go_roundw
          case rel => exact ⟨_, q1, l ++ [x], HFN.out.1⟩
          case measure => rw [HFN.out.1.rg.left_eq, show wr.rangeLeft mk w.heap.size = q from HLE0.out]; omega
      · go_wp2_with (first
          | (go_at_call 47; refine HG.out.mono ?_; rintro e w2 ⟨rfl, hb2⟩; have hb3 := fun o => hb2.alloc hb2.size o; have HB3 := Lib.hid hb3))
        go_roundw
        case rel => exact ⟨_, q1, l, HSL.out.step hqlt (HB1.out.trans ((HB3.out _).mono HWS.out)) (.inl ⟨rfl, fun e => absurd e k7⟩) (HRN.out _ (HB3.out _)) (HON.out _ (HB3.out _))⟩
        case measure => rw [(HRN.out _ (HB3.out _)).left_eq, show wr.rangeLeft mk w.heap.size = q from HLE0.out]; omega
end Go.Proofs.YtlckajnbmkkpeaaDoor

/- Layer 3: walks: a new search, Can. -/
namespace Go.Proofs.YtlckajnbmkkpeaaDoor
open Go.RowKit Go.Maps

/-- Nothing older has changed but the map of what is known. -/
structure Kp (w w' : World) (mk : Nat) : Prop where
  os : w'.os = w.os
  tape : w'.tape = w.tape
  output : w'.output = w.output
  size : w.heap.size ≤ w'.heap.size
  kept : ∀ k, k < w.heap.size → k ≠ mk → w'.heap[k]? = w.heap[k]?
theorem Kp.refl (w : World) (mk : Nat) : Kp w w mk := ⟨rfl, rfl, rfl, Nat.le_refl _, fun _ _ _ => rfl⟩
theorem Kp.below {w w' : World} (mk : Nat) (h : Below w.heap.size w w') : Kp w w' mk := ⟨h.os, h.tape, h.output, h.size, fun k hk _ => h.block k hk⟩
theorem Kp.trans {w w1 w2 : World} {mk : Nat} (h : Kp w w1 mk) (h' : Kp w1 w2 mk) : Kp w w2 mk := ⟨h'.os.trans h.os, h'.tape.trans h.tape, h'.output.trans h.output, Nat.le_trans h.size h'.size, fun k hk hm => (h'.kept k (Nat.lt_of_lt_of_le hk h.size) hm).trans (h.kept k hk hm)⟩
theorem Kp.bel {B : Nat} {w0 w w' : World} {mk : Nat} (h : Kp w w' mk) (h0 : Below B w0 w) (hB : B ≤ w.heap.size) (hm : B ≤ mk) : Below B w0 w' := ⟨h.os.trans h0.os, h.tape.trans h0.tape, h.output.trans h0.output, Nat.le_trans h0.size h.size, fun k hk => (h.kept k (by omega) (by omega)).trans (h0.block k hk)⟩

theorem cnt_none (n : Nat) : cnt n (fun _ => false) = 0 := by
  unfold cnt
  induction n with
  | zero => rfl
  | succ n ih => rw [List.range_succ, List.map_append, List.sum_append, ih]; rfl
/-- The search that begins. -/
def cxOf (bk b g bm cap lim : Nat) (L : List Nd) (mk : Nat) (hv : Value) (n : Nat) : Cx := ⟨b, g, bm, cap, lim, L, bk, mk, n + 1, n, hv⟩
def ghOf (mk n : Nat) : Gh := ⟨fun k => k = mk ∨ k = n, fun _ => none, fun _ => .slice none 0 0⟩
def srch (w : World) (bk : Nat) : World := (w.alloc (.map #[] 0)).alloc (.cells #[.pointer (some ⟨bk, 0, none⟩), .map (some w.heap.size)] 114)
theorem srch_below (w : World) (bk : Nat) : Below w.heap.size w (srch w bk) := ((Below.refl _ _).alloc (Nat.le_refl _) _).alloc (by simp) _
theorem srch_size (w : World) (bk : Nat) : (srch w bk).heap.size = w.heap.size + 2 := by simp [srch]
section
variable {w : World} {bk b g bm cap lim : Nat} {L : List Nd} {mk : Nat} {hv : Value} {hs : List Int} {K : Int → Bool}
theorem Kno.start (h : Kno w bk b g bm cap lim L mk hv hs K) : Sst (cxOf bk b g bm cap lim L mk hv w.heap.size) (srch w bk) (ghOf mk w.heap.size) (s0 K) := by
  have hb := srch_below w bk
  have hm := h.kn.lt
  obtain ⟨es, cc, hob⟩ := h.kn.obj
  have nm : ∀ {k : Nat} {cs : Array Value} {t : TypeId} {z : Nat × Nat}, w.heap[k]? = some (.cells cs t z) → ¬ (k = mk ∨ k = w.heap.size) := fun hk e => by
    rcases e with e | e
    · rw [e, hob] at hk; cases hk
    · have := lt_of_heap hk; omega
  have hgl := h.ar.own
  have hrow : ∃ cur, w.heap[g]? = some (.cells cur 67 (0, 0)) := by
    obtain ⟨c', fz, hc⟩ := Lib.ownsRow_kind h.ar.own g rfl
    rcases h.ar.own.2 with ⟨e, _⟩ | ⟨g', cap', cur', e, _, hg', _⟩
    · cases e
    · injection e with e _ _
      injection e with e
      injection e with e
      subst e
      exact ⟨_, hg'⟩
  obtain ⟨cur, hrow⟩ := hrow
  have hmap : MapP (srch w bk) w.heap.size 0 (fun _ => none) := (MapP.made w).keep (Below.heap_alloc _ _ _ (by simp))
  refine ⟨h.ar.below hb, ⟨nm h.ar.box, nm hrow, fun e => ?_⟩, ⟨(hb.block _ (lt_of_heap h.box)).trans h.box, nm h.box⟩, ⟨?_, fun e => ?_⟩, h.kn.keep (hb.block _ hm), ?_, .inl rfl, .inr rfl, ?_, ⟨fun r hr => by simp [s0] at hr, h.kh, fun r b ws hr => by simp [s0] at hr⟩, fun r => rfl, fun r d ws hr => by simp [s0] at hr, fun r r' a hr => by simp [ghOf] at hr, fun r r' k hr => by simp [s0] at hr, ?_, fun k hk => ?_⟩
  · rcases e with e | e
    · exact h.ne e.symm
    · have := h.ar.mlt; change bm = w.heap.size at e; omega
  · have := heap_alloc_new (w.alloc (.map #[] 0)) (.cells #[.pointer (some ⟨bk, 0, none⟩), .map (some w.heap.size)] 114)
    rw [World.size_alloc] at this; exact this
  · change w.heap.size + 1 = mk ∨ w.heap.size + 1 = w.heap.size at e; omega
  · have e1 : cnt L.length (fun r => ((s0 K).A r).isSome) = 0 := cnt_none _
    show MapP _ _ (cnt L.length (fun r => ((s0 K).A r).isSome)) _
    rw [e1]; exact hmap
  · show mk ≠ w.heap.size; omega
  · have := phi_s0 L K
    have := h.ar.small
    show phi L (s0 K) ≤ 600000
    omega
  · rw [srch_size]
    change k = mk ∨ k = w.heap.size at hk
    rcases hk with e | e <;> omega
/-- What is known behind a search. -/
theorem Kno.stop (h : Kno w bk b g bm cap lim L mk hv hs K) {G' : Gh} {s' : Sx} {w' : World} (hS : Sst (cxOf bk b g bm cap lim L mk hv w.heap.size) w' G' s') (hF : Fr (s0 K) (srch w bk) w' (ghOf mk w.heap.size) G') (hsh : Shut L fun r => s'.K r = true) : Kno w' bk b g bm cap lim L mk hv hs s'.K ∧ Kp w w' mk := by
  have hb := srch_below w bk
  have hsz := srch_size w bk
  obtain ⟨es, cc, hob⟩ := h.kn.obj
  have kp : Kp w w' mk := ⟨hF.os.trans hb.os, hF.tape.trans hb.tape, hF.output.trans hb.output, by have := hF.size; omega, fun k hk hm => (hF.kept k (by omega) (fun e => by
    change k = mk ∨ k = w.heap.size at e
    rcases e with e | e
    · exact hm e
    · omega)).trans (hb.block k hk)⟩
  refine ⟨⟨hS.ar, hS.kb.1, hS.kn, ownsRow_same h.own (fun k hk => kp.kept k (h.own.lt k hk).2 (fun e => ?_)), h.ne, hS.ok.k, hsh⟩, kp⟩
  obtain ⟨c', fz, hc⟩ := Lib.ownsRow_kind h.own k hk
  rw [e, hob] at hc; cases hc
end

set_option maxRecDepth 100000 in
set_option maxHeartbeats 1000000 in
theorem newSearch_any (bk : Nat) (w : World) : Calls Tryd.prog 41 #[.pointer (some ⟨bk, 0, none⟩)] w fun e w' => e = .returned (.pointer (some ⟨w.heap.size + 1, 0, none⟩)) ∧ w' = srch w bk := by
  have hmm := @run_makeMap Tryd.prog
  go_enter Tryd.func41, Tryd.ntmps41
  go_wp2_with fail
  go_ret
  exact ⟨rfl, rfl⟩

set_option maxRecDepth 100000 in
set_option maxHeartbeats 4000000 in
theorem can_any {w : World} {bk b g bm cap lim : Nat} {L : List Nd} {mk : Nat} {hv : Value} {hs : List Int} {K : Int → Bool} (hL : WF L) (h : Kno w bk b g bm cap lim L mk hv hs K) (r : Int) (hr : hasB L.length r = true) :
    Calls Tryd.prog 21 #[.pointer (some ⟨bk, 0, none⟩), .int .i64 r] w fun e w' => ∃ d : Bool, e = .returned (.bool d) ∧ (d = true ↔ Can L (fun x => K x = true) r) ∧ Kno w' bk b g bm cap lim L mk hv hs K ∧ Kp w w' mk := by
  obtain ⟨s', ⟨n, hR⟩, hK, hd⟩ := can_search hL h.kh h.sh hr
  have HA := Lib.hid ((wk_any (cxOf bk b g bm cap lim L mk hv w.heap.size) hL n).ask (s0 K) s' r (srch w bk) (ghOf mk w.heap.size) hR h.start hr)
  have HN := Lib.hid (newSearch_any bk w)
  have HH := Lib.hid h
  have HD := Lib.hid hd
  have HKE := Lib.hid hK
  clear h hd hR hK
  go_enter Tryd.func21, Tryd.ntmps21
  go_wp2_with (first
    | (go_at_call 41; refine HN.out.mono ?_; rintro e w1 ⟨rfl, rfl⟩)
    | (go_at_call 42; refine HA.out.mono ?_; rintro e w2 ⟨a, G2, rfl, hab, hS2, hF2⟩; have x0 := hS2.ans0 hab; have HS2 := Lib.hid hS2; have HF2 := Lib.hid hF2; clear hS2 hF2))
  go_ret
  obtain ⟨hk, hp⟩ := HH.out.stop HS2.out HF2.out (by rw [HKE.out]; exact HH.out.sh)
  rw [HKE.out] at hk
  exact ⟨s'.der r, rfl, HD.out, hk, hp⟩

set_option maxRecDepth 100000 in
set_option maxHeartbeats 4000000 in
/-- Of a ref that there is not. -/
theorem can_out {w : World} {bk b g bm cap lim : Nat} {L : List Nd} {mk : Nat} {hv : Value} {hs : List Int} {K : Int → Bool} (h : Kno w bk b g bm cap lim L mk hv hs K) (r : Int) (hr : hasB L.length r = false) (hi : i64ok r) :
    Calls Tryd.prog 21 #[.pointer (some ⟨bk, 0, none⟩), .int .i64 r] w fun e w' => e = .returned (.bool false) ∧ Below w.heap.size w w' := by
  have hst := h.start
  have HN := Lib.hid (newSearch_any bk w)
  have hK : K r = false := by
    cases e : K r with
    | false => rfl
    | true => have := h.kh r e; rw [hr] at this; cases this
  have hb := srch_below w bk
  have HA : Hid (Calls Tryd.prog 42 #[.pointer (some ⟨w.heap.size + 1, 0, none⟩), .int .i64 r] (srch w bk) fun e w' => ∃ a, e = .returned (.pointer (some ⟨a, 0, none⟩)) ∧ w'.cell? ⟨a, 0, none⟩ = some (.bool false) ∧ Below w.heap.size w w') := Lib.hid (by
    have c0 : (srch w bk).cell? ⟨w.heap.size + 1, 0, none⟩ = some (.pointer (some ⟨bk, 0, none⟩)) := hst.s0
    have c1 : (srch w bk).cell? ⟨w.heap.size + 1, 1, none⟩ = some (.map (some w.heap.size)) := hst.s1
    have hlk : (Instr.lookup 112 (.map (some w.heap.size)) (.int .i64 r) false).run Tryd.prog (srch w bk) = .ok (pv none) (srch w bk) := hst.asd.look hi
    unfold pv at hlk
    simp only [Option.map_none] at hlk
    have HK := Lib.hid (knows_any r hi (srch w bk) (h.keep hb).kw)
    rw [hK] at HK
    have HST : Hid (∀ w1, Below (srch w bk).heap.size (srch w bk) w1 → ∃ w3, (Instr.mapUpdate 112 (.map (some w.heap.size)) (.int .i64 r) (.pointer (some ⟨w1.heap.size, 0, none⟩))).run Tryd.prog (w1.alloc (.cells #[.bool false, .slice none 0 0] 86)) = .ok () w3 ∧ w3.cell? ⟨w1.heap.size, 0, none⟩ = some (.bool false) ∧ Below w.heap.size w w3 ∧ w1.heap.size < w3.heap.size ∧ w3.cell? ⟨w.heap.size + 1, 0, none⟩ = some (.pointer (some ⟨bk, 0, none⟩))) := Lib.hid (fun w1 hb1 => by
      have hb2 := hb1.alloc hb1.size (.cells #[.bool false, .slice none 0 0] 86)
      obtain ⟨w3, h1, h2, h3⟩ := (hst.asd.keep (hb2.block _ hst.asd.lt)).store (cnt_small hst _) hi w1.heap.size
      have hg := h3.grown
      have hsz := srch_size w bk
      have hs1 := hb1.size
      have hblk : w3.heap[w1.heap.size]? = some (.cells #[.bool false, .slice none 0 0] 86 (0, 0)) := by
        rw [hg.block w1.heap.size (by simp) (fun e => by
          have e := Option.some.inj e
          change w1.heap.size = w.heap.size at e
          omega)]
        exact heap_alloc_new _ _
      refine ⟨w3, h1, by rw [cell_of_row _ _ 0 _ _ _ hblk]; rfl, ?_, lt_of_heap hblk, ?_⟩
      have hbw : Below w.heap.size w (w1.alloc (.cells #[.bool false, .slice none 0 0] 86)) := hb.trans (hb2.mono (by omega))
      · exact hbw.grown hg (by simp; omega) (fun k hk => by
          have hk := Option.some.inj hk
          change w.heap.size = k at hk
          omega)
      · rw [World.cell?_of_block ((hg.block (w.heap.size + 1) (by simp; omega) (fun e => by
          have e := Option.some.inj e
          change w.heap.size + 1 = w.heap.size at e
          omega)).trans (hb2.block (w.heap.size + 1) (by omega)))]
        exact c0)
    have HGN := Lib.hid (fun w1 (hb1 : Below w.heap.size w w1) => get_no b g bm cap lim L r hr w1 (h.ar.below hb1))
    have hkb := fun w1 (hb1 : Below w.heap.size w w1) => (h.keep hb1).kw.c0
    have HKB := Lib.hid hkb
    have HB := Lib.hid hb
    have hs2 := srch_size w bk
    have HSB : Hid (∀ w1, Below (srch w bk).heap.size (srch w bk) w1 → w1.cell? ⟨w.heap.size + 1, 0, none⟩ = some (.pointer (some ⟨bk, 0, none⟩)) ∧ w1.cell? ⟨w.heap.size + 1, 1, none⟩ = some (.map (some w.heap.size))) := Lib.hid (fun w1 hb1 => ⟨(hb1.cell (p := ⟨w.heap.size + 1, 0, none⟩) (by rw [hs2]; simp)).trans c0, (hb1.cell (p := ⟨w.heap.size + 1, 1, none⟩) (by rw [hs2]; simp)).trans c1⟩)
    clear hst h hb hkb hK
    generalize srch w bk = W at *
    go_enter Tryd.func42, Tryd.ntmps42
    go_wp2_with (first
      | (go_at_call 16; refine HK.out.mono ?_; rintro e w1 ⟨rfl, hb1⟩; clear c0 c1 hlk
         obtain ⟨c0, c1⟩ := HSB.out w1 hb1
         obtain ⟨w3, hup, x0, hb3, hl3, b0⟩ := HST.out w1 hb1
         have hlw1 := World.block_lt_of_cell? w1 _ c0
         simp only at hlw1
         have k1 := HKB.out w3 hb3
         have HG3 := Lib.hid (HGN.out w3 hb3))
      | (go_at_call 47; refine HG3.out.mono ?_; rintro e w4 ⟨rfl, hb4⟩; unfold agg zN; have hs4 := hb4.size; have x4 := (hb4.cell (p := ⟨w1.heap.size, 0, none⟩) hl3).trans x0; have hl4 : w1.heap.size < w4.heap.size := (by omega); have hlb4 := HB.out.size))
    go_ret
    have hb5 := hb3.trans (hb4.mono hb3.size)
    refine ⟨w1.heap.size, rfl, ?_, hb5.alloc hb5.size _⟩
    rw [World.cell?_of_block (Below.heap_alloc _ _ _ hl4)]
    exact x4)
  clear hst h hK hb
  go_enter Tryd.func21, Tryd.ntmps21
  go_wp2_with (first
    | (go_at_call 41; refine HN.out.mono ?_; rintro e w1 ⟨rfl, rfl⟩)
    | (go_at_call 42; refine HA.out.mono ?_; rintro e w2 ⟨a, rfl, x0, hb2⟩))
  go_ret
  exact ⟨rfl, hb2⟩
end Go.Proofs.YtlckajnbmkkpeaaDoor

/- Layer 3: walks: Learn. -/
namespace Go.Proofs.YtlckajnbmkkpeaaDoor
open Go.RowKit Go.Maps

/-- Nothing older has changed but what belongs to what is known. -/
structure Kl (w w' : World) (bk mk : Nat) (hv hv' : Value) : Prop where
  os : w'.os = w.os
  tape : w'.tape = w.tape
  output : w'.output = w.output
  size : w.heap.size ≤ w'.heap.size
  kept : ∀ k, k < w.heap.size → k ≠ mk → k ≠ bk → hv.ownBlock ≠ some k → w'.heap[k]? = w.heap[k]?
  at_ : ∀ k, hv'.ownBlock = some k → hv.ownBlock = some k ∨ w.heap.size ≤ k
theorem Kl.refl (w : World) (bk mk : Nat) (hv : Value) : Kl w w bk mk hv hv := ⟨rfl, rfl, rfl, Nat.le_refl _, fun _ _ _ _ _ => rfl, fun _ h => .inl h⟩
theorem Kl.kp {w w' : World} {mk : Nat} (bk : Nat) (hv : Value) (h : Kp w w' mk) : Kl w w' bk mk hv hv := ⟨h.os, h.tape, h.output, h.size, fun k hk hm _ _ => h.kept k hk hm, fun _ h => .inl h⟩
theorem Kl.below {w w' : World} (bk mk : Nat) (hv : Value) (h : Below w.heap.size w w') : Kl w w' bk mk hv hv := Kl.kp bk hv (Kp.below mk h)
theorem Kl.trans {w w1 w2 : World} {bk mk : Nat} {hv hv1 hv2 : Value} (h : Kl w w1 bk mk hv hv1) (h' : Kl w1 w2 bk mk hv1 hv2) : Kl w w2 bk mk hv hv2 := by
  have hs := h.size
  refine ⟨h'.os.trans h.os, h'.tape.trans h.tape, h'.output.trans h.output, Nat.le_trans h.size h'.size, fun k hk n1 n2 n3 => ?_, fun k hk => ?_⟩
  · rw [h'.kept k (by omega) n1 n2 (fun e => by rcases h.at_ k e with e' | e'; exact n3 e'; omega)]
    exact h.kept k hk n1 n2 n3
  · rcases h'.at_ k hk with e | e
    · exact h.at_ k e
    · exact .inr (by omega)
theorem Kl.bel {B : Nat} {w0 w w' : World} {bk mk : Nat} {hv hv' : Value} (h : Kl w w' bk mk hv hv') (h0 : Below B w0 w) (hB : B ≤ w.heap.size) (h1 : B ≤ mk) (h2 : B ≤ bk) (h3 : ∀ k, hv.ownBlock = some k → B ≤ k) : Below B w0 w' ∧ ∀ k, hv'.ownBlock = some k → B ≤ k :=
  ⟨⟨h.os.trans h0.os, h.tape.trans h0.tape, h.output.trans h0.output, Nat.le_trans h0.size h.size, fun k hk => (h.kept k (by omega) (by omega) (by omega) (fun e => by have := h3 k e; omega)).trans (h0.block k hk)⟩, fun k hk => by
    rcases h.at_ k hk with e | e
    · exact h3 k e
    · omega⟩

theorem has1_any (b : Nat) (s : Option Addr) (n cap : Nat) (g : Nat) (x : Int) (w : World) (c0 : w.cell? ⟨b, 0, none⟩ = some (.slice s n cap)) (h0 : w.cell? ⟨g, 0, none⟩ = some (.int .i64 x)) :
    Calls Tryd.prog 43 #[.pointer (some ⟨b, 0, none⟩), .slice (some ⟨g, 0, none⟩) 1 1] w fun e w' => e = .returned (.bool (hasB n x)) ∧ w = w' := by
  have := hasAll_any b s n cap g 1 [x] w c0 (by simp) (fun i hi => by
    have : i = 0 := by simpa using hi
    subst this; exact h0)
  simpa [allB] using this

set_option maxRecDepth 100000 in
set_option maxHeartbeats 4000000 in
theorem learn_bad {w : World} {bk b g bm cap lim : Nat} {L : List Nd} {mk : Nat} {hv : Value} {hs : List Int} {K : Int → Bool} (h : Kno w bk b g bm cap lim L mk hv hs K) (r : Int) (hr : hasB L.length r = false) :
    Calls Tryd.prog 22 #[.pointer (some ⟨bk, 0, none⟩), .int .i64 r] w fun e w' => e = .returned (.int .i64 1) ∧ Below w.heap.size w w' := by
  have c0 := h.kw.c0
  have HC : Hid (∀ o, (w.alloc o).cell? ⟨b, 0, none⟩ = some (.slice (some ⟨g, 0, none⟩) L.length cap)) := Lib.hid (fun o => (h.ar.below ((Below.refl _ _).alloc (Nat.le_refl _) o)).c0)
  clear h
  go_enter Tryd.func22, Tryd.ntmps22
  go_wp2_with (go_at_call 43; refine (has1_any b (some ⟨g, 0, none⟩) L.length cap _ r _ (HC.out _) ?_).mono ?_; (go_simp); rintro e w' ⟨rfl, rfl⟩; rw [hr])
  go_ret
  exact ⟨rfl, (Below.refl _ _).alloc (Nat.le_refl _) _⟩

/-- A ref is heard: what is known stands as it was, with one more that was heard. -/
theorem Kno.heard {w w1 w7 : World} {bk b g bm cap lim : Nat} {L : List Nd} {mk : Nat} {hv v : Value} {hs : List Int} {K : Int → Bool} {r : Int} (h : Kno w bk b g bm cap lim L mk hv hs K) (hb : Below w.heap.size w w1) (hown : w7.ownsRow 0 3 1 v (hs.length + 1) ((hs.map (Value.int .i64)) ++ [.int .i64 r])) (hg : w1.grownBy w7 hv.ownBlock) (hat : ∀ k, v.ownBlock = some k → hv.ownBlock = some k ∨ w1.heap.size ≤ k) :
    w7.cell? ⟨bk, 1, none⟩ = some hv ∧ w7.frozen? ⟨bk, 1, none⟩ = false ∧ Hid (Kno (w7.setCell ⟨bk, 1, none⟩ v) bk b g bm cap lim L mk v (hs ++ [r]) K ∧ Kl w (w7.setCell ⟨bk, 1, none⟩ v) bk mk hv v) := by
  have hs1 := hb.size
  have hs7 := hg.size
  have kd := Lib.ownsRow_kind h.own
  have kd7 := Lib.ownsRow_kind hown
  have nr : ∀ {k : Nat} {o : Obj}, w.heap[k]? = some o → (∀ cs z, o ≠ .cells cs 3 z) → hv.ownBlock ≠ some k := fun {k o} hk ho e => by
    obtain ⟨c', fz, hc⟩ := kd k e
    rw [hk] at hc
    exact ho _ _ (Option.some.inj hc)
  have e7 : ∀ {k : Nat}, k < w.heap.size → hv.ownBlock ≠ some k → w7.heap[k]? = w.heap[k]? := fun {k} hk hn => (hg.block k (by omega) (fun e => hn e.symm)).trans (hb.block k hk)
  have hbx : w7.heap[bk]? = some (.cells #[.pointer (some ⟨b, 0, none⟩), hv, .map (some mk)] 76 (0, 0)) := (e7 (lt_of_heap h.box) (nr h.box (fun _ _ e => by simp at e))).trans h.box
  have set : ∀ {k : Nat}, k ≠ bk → (w7.setCell ⟨bk, 1, none⟩ v).heap[k]? = w7.heap[k]? := fun hk => heap_setCell_other _ _ _ _ (by simpa using hk)
  have hnew : (w7.setCell ⟨bk, 1, none⟩ v).heap[bk]? = some (.cells #[.pointer (some ⟨b, 0, none⟩), v, .map (some mk)] 76 (0, 0)) := by
    have hlt := lt_of_heap hbx
    simp [World.setCell, hbx, Array.getElem?_modify]
  obtain ⟨es, cc, hob⟩ := h.kn.obj
  obtain ⟨Dm, hDm, _⟩ := h.ar.reg
  obtain ⟨es2, cc2, hob2, _⟩ := hDm
  have nb : ∀ {k : Nat} {o : Obj}, w.heap[k]? = some o → (∀ cs z, o ≠ .cells cs 76 z) → k ≠ bk := fun {k o} hk ho e => by
    rw [e, h.box] at hk
    exact ho _ _ (Option.some.inj hk).symm
  have hrow : ∃ cur, w.heap[g]? = some (.cells cur 67 (0, 0)) := by
    rcases h.ar.own.2 with ⟨e, _⟩ | ⟨g', cap', cur', e, _, hg', _⟩
    · cases e
    · injection e with e _ _
      injection e with e
      injection e with e
      subst e
      exact ⟨_, hg'⟩
  obtain ⟨cur, hrow⟩ := hrow
  have full : ∀ {k : Nat} {o : Obj}, w.heap[k]? = some o → (∀ cs z, o ≠ .cells cs 3 z) → (∀ cs z, o ≠ .cells cs 76 z) → (w7.setCell ⟨bk, 1, none⟩ v).heap[k]? = w.heap[k]? := fun hk h1 h2 => (set (nb hk h2)).trans (e7 (lt_of_heap hk) (nr hk h1))
  refine ⟨by rw [cell_of_row w7 bk 1 _ _ _ hbx]; rfl, by simp [World.frozen?, hbx], Lib.hid ⟨⟨?_, hnew, ?_, ?_, h.ne, h.kh, h.sh⟩, ⟨hg.os.trans hb.os, hg.tape.trans hb.tape, hg.output.trans hb.output, by simp; omega, fun k hk _ n2 n3 => (set n2).trans (e7 hk n3), fun k hk => ?_⟩⟩⟩
  · exact h.ar.keep (full h.ar.box (fun _ _ e => by simp at e) (fun _ _ e => by simp at e)) (full hrow (fun _ _ e => by simp at e) (fun _ _ e => by simp at e)) (full hob2 (fun _ _ e => by simp at e) (fun _ _ e => by simp at e))
  · exact h.kn.keep (full hob (fun _ _ e => by simp at e) (fun _ _ e => by simp at e))
  · have e1 : w7.ownsRow 0 3 1 v (hs ++ [r]).length ((hs ++ [r]).map (Value.int .i64)) := by simpa using hown
    refine ownsRow_same e1 (fun k hk => set (fun e => ?_))
    obtain ⟨c', fz, hc⟩ := kd7 k hk
    rw [e, hbx] at hc
    simp at hc
  · rcases hat k hk with e | e
    · exact .inl e
    · exact .inr (by omega)
theorem Tryd.infoI : (Tryd.prog.info? 3).map (fun i => (i.zero, i.size, i.bytes)) = some (some (.int .i64 0), 1, 8) := by kernel_rfl

/-- What Learn leaves. -/
def LPost (w : World) (bk b g bm cap lim : Nat) (L : List Nd) (mk : Nat) (hv : Value) (hs : List Int) (K : Int → Bool) (r : Int) (e : Ending) (w' : World) : Prop :=
  ∃ hv' K', e = .returned (.int .i64 0) ∧ Kno w' bk b g bm cap lim L mk hv' (hs ++ [r]) K' ∧ (∀ y, K' y = true ↔ cl L (fun x => K x = true ∨ x = r) y) ∧ Kl w w' bk mk hv hv'

set_option maxRecDepth 100000 in
set_option maxHeartbeats 4000000 in
theorem learn_again {w : World} {bk b g bm cap lim : Nat} {L : List Nd} {mk : Nat} {hv : Value} {hs : List Int} {K : Int → Bool} (h : Kno w bk b g bm cap lim L mk hv hs K) (hlen : hs.length ≤ 1000000) (r : Int) (hr : hasB L.length r = true) (hK : K r = true) :
    Calls Tryd.prog 22 #[.pointer (some ⟨bk, 0, none⟩), .int .i64 r] w (LPost w bk b g bm cap lim L mk hv hs K r) := by
  have c0 := h.kw.c0
  have hi := i64ok_of (hasB_iff.1 hr) h.ar.small
  have HC : Hid (∀ o, (w.alloc o).cell? ⟨b, 0, none⟩ = some (.slice (some ⟨g, 0, none⟩) L.length cap)) := Lib.hid (fun o => (h.ar.below ((Below.refl _ _).alloc (Nat.le_refl _) o)).c0)
  obtain ⟨i0, hi0, hz0, hz1, hz2⟩ := info_parts Tryd.infoI
  obtain ⟨sp, cp, hvv⟩ : ∃ sp cp, hv = .slice sp hs.length cp := by
    rcases h.own.2 with ⟨e, h0⟩ | ⟨g, cap, cur, e, _⟩
    · exact ⟨none, 0, by rw [e, h0]⟩
    · exact ⟨_, _, e⟩
  subst hvv
  have HH := Lib.hid h
  have c1 := h.kw.c1
  have hlt := lt_of_heap h.box
  have HO : Hid (∀ o o', ((w.alloc o).alloc o').ownsRow 0 3 1 (.slice sp hs.length cp) hs.length (hs.map (Value.int .i64))) := Lib.hid (fun o o' => (h.own.alloc o).alloc o')
  have hB2 : ∀ o o', Below w.heap.size w ((w.alloc o).alloc o') := fun o o' => ((Below.refl _ _).alloc (Nat.le_refl _) _).alloc (by simp) _
  have HB2 := Lib.hid hB2
  clear h hB2
  go_enter Tryd.func22, Tryd.ntmps22
  go_wp2_with (first
    | (go_at_call 43; refine (has1_any b (some ⟨g, 0, none⟩) L.length cap _ r _ (HC.out _) ?_).mono ?_; (go_simp); rintro e w' ⟨rfl, rfl⟩; rw [hr])
    | (at_builtin; refine wpList_append_lies _ rfl _ _ 23 rfl 0 3 i0 (.int .i64 0) 1 8 Tryd.underlying23 hi0 hz0 hz1 hz2 rfl (by decide) _ _ _ rfl (HO.out _ _) ⟨w.heap.size + 1, 0, none⟩ 1 1 [.int .i64 r] rfl rfl ?c1 ?c2 (by decide) ?c3 ?c4 ?c5 _ rfl ?_))
  case c1 =>
    intro j u hj
    match j, hj with
    | 0, hj => simp at hj; subst hj; simp [Addr.add]
  case c2 => intro u hu; simp at hu; subst hu; rfl
  case c3 => unfold maxLen; omega
  case c4 => omega
  case c5 => simp
  intro g2 cap2 w7 hown7 hgr7 hat7 hlt7
  obtain ⟨x7, y7, HFN⟩ := HH.out.heard (HB2.out _ _) hown7 hgr7 (fun k hk => by
    have hk : some g2 = some k := hk
    obtain rfl := Option.some.inj hk
    rcases hat7 with e | e
    · exact .inl e
    · exact .inr (by rw [e]; simp))
  have HKN := Lib.hid (knows_any r hi _ HFN.out.1.kw)
  rw [hK] at HKN
  clear hown7 hgr7 hat7 c0 c1
  go_wp2_with (go_at_call 16; refine HKN.out.mono ?_; rintro e w8 ⟨rfl, hb8⟩)
  go_ret
  refine ⟨_, K, rfl, HFN.out.1.keep hb8, fun y => ⟨fun hy => cl_in (.inl hy), fun hy => cl_least HH.out.sh (fun x hx => ?_) hy⟩, HFN.out.2.trans (Kl.below _ _ _ hb8)⟩
  rcases hx with e | rfl
  · exact e
  · exact hK
end Go.Proofs.YtlckajnbmkkpeaaDoor

/- Layer 3: walks: Learn of what is new. -/
namespace Go.Proofs.YtlckajnbmkkpeaaDoor
open Go.RowKit Go.Maps

def sealC (L : List Nd) (x : Int) : Clo := (.learn (nd L x).c, [(nd L x).a])
theorem learn_run {L : List Nd} (hL : WF L) {K : Int → Bool} (hK : ∀ r, K r = true → hasB L.length r = true) (hS : Shut L fun r => K r = true) {r : Int} (hr : hasB L.length r = true) {l : List Int} (hl : ∀ x ∈ l, K x = true ∧ (nd L x).k = 7) (hl' : ∀ x, K x = true → (nd L x).k = 7 → K (nd L x).c = true ∨ x ∈ l) :
    ∃ n s1 s2, allR (fun c => Run L n (.when_ c.1 c.2)) (l.map (sealC L)) (s0 K) s1 ∧ Run L n (.learn r) s1 s2 ∧ (∀ y, s2.K y = true ↔ cl L (fun x => K x = true ∨ x = r) y) ∧ Shut L (fun y => s2.K y = true) := by
  obtain ⟨s1, s2, h1, ⟨m, h2⟩, h3, h4, _⟩ := learn_search hL hK hS hr hl hl'
  obtain ⟨n, h1⟩ := all_goes h1
  exact ⟨n + m, s1, s2, allR_mono (fun c s s' h => Run.mono (by omega) h) _ _ _ h1, Run.mono (by omega) h2, h3, h4⟩
theorem seal_sum (L : List Nd) (l : List Int) : ((l.map (sealC L)).map fun c => c.2.length).sum = l.length := by
  induction l with
  | nil => rfl
  | cons x l ih => simp only [List.map_cons, List.sum_cons, ih, sealC, List.length_cons, List.length_nil]; omega
theorem own_form {w : World} {B : Nat} {t : TypeId} {z n : Nat} {v : Value} {xs : List Value} (h : w.ownsRow B t z v n xs) : ∃ sp c, v = .slice sp n c := by
  rcases h.2 with ⟨rfl, h0⟩ | ⟨g, cap, cur, rfl, _⟩
  · exact ⟨none, 0, by rw [h0]⟩
  · exact ⟨_, _, rfl⟩
/-- The loop over the Seals that are shut, under way. -/
structure Lo (c : Cx) (n : Nat) (l : List Int) (K : Int → Bool) (s1 : Sx) (W wr : World) (G Gk : Gh) (sk : Sx) (k : Nat) : Prop where
  run : allR (fun c_1 => Run c.L n (.when_ c_1.1 c_1.2)) ((l.map (sealC c.L)).drop k) sk s1
  st : Sst c wr Gk sk
  fr : Fr (s0 K) W wr G Gk
  le : Le (s0 K) sk
  ph : phi c.L sk + (l.length - k) ≤ 600000

theorem map_getD (L : List Nd) {l : List Int} {k : Nat} (hk : k < l.length) : (l.map (nd L)).getD k zN = nd L (l.getD k 0) := by
  rw [List.getD_eq_getElem?_getD, List.getD_eq_getElem?_getD, List.getElem?_map, List.getElem?_eq_getElem hk]; rfl
theorem Lo.next {c : Cx} {n : Nat} {l : List Int} {K : Int → Bool} {s1 : Sx} {W wr : World} {G Gk : Gh} {sk : Sx} {k : Nat} (h : Lo c n l K s1 W wr G Gk sk k) (hL : WF c.L) (hk : k < l.length) (hin : ∀ x ∈ l, hasB c.L.length x = true) :
    ∃ sk', Run c.L n (.when_ (.learn (nd c.L (l.getD k 0)).c) [(nd c.L (l.getD k 0)).a]) sk sk' ∧ cOk c.L (.learn (nd c.L (l.getD k 0)).c, [(nd c.L (l.getD k 0)).a]) ∧ phi c.L sk + 1 ≤ 600000 ∧ ∀ w1 G1, Sst c w1 G1 sk' → Fr sk wr w1 Gk G1 → Lo c n l K s1 W w1 G G1 sk' (k + 1) := by
  have hx : l.getD k 0 ∈ l := by rw [List.getD_eq_getElem?_getD, List.getElem?_eq_getElem hk]; simp
  obtain ⟨pa, _, pc⟩ := nd_has hL (hin _ hx)
  have hc : (l.map (sealC c.L))[k]? = some (sealC c.L (l.getD k 0)) := by
    rw [List.getElem?_map, List.getD_eq_getElem?_getD, List.getElem?_eq_getElem hk]; rfl
  obtain ⟨sk', h1, h2⟩ := allR_drop hc h.run
  have ho : cOk c.L (sealC c.L (l.getD k 0)) := ⟨pc, by simpa [sealC] using pa⟩
  have hf := (run_fine hL n (.when_ (sealC c.L (l.getD k 0)).1 (sealC c.L (l.getD k 0)).2) sk sk' h.st.ok ho h1).1
  have hp := h.ph
  refine ⟨sk', h1, ho, by omega, fun w1 G1 hs hfr => ⟨h2, hs, h.fr.trans h.le hfr, h.le.trans hf.le, ?_⟩⟩
  have := hf.ph
  simp only [slack, sealC, List.length_cons, List.length_nil] at this
  omega
set_option maxRecDepth 100000 in
set_option maxHeartbeats 8000000 in
theorem learn_fresh {w : World} {bk b g bm cap lim : Nat} {L : List Nd} {mk : Nat} {hv : Value} {hs : List Int} {K : Int → Bool} (hL : WF L) (h : Kno w bk b g bm cap lim L mk hv hs K) (hlen : hs.length ≤ 1000000) (r : Int) (hr : hasB L.length r = true) (hK : K r = false) :
    Calls Tryd.prog 22 #[.pointer (some ⟨bk, 0, none⟩), .int .i64 r] w (LPost w bk b g bm cap lim L mk hv hs K r) := by
  have c0 := h.kw.c0
  have hi := i64ok_of (hasB_iff.1 hr) h.ar.small
  have HC : Hid (∀ o, (w.alloc o).cell? ⟨b, 0, none⟩ = some (.slice (some ⟨g, 0, none⟩) L.length cap)) := Lib.hid (fun o => (h.ar.below ((Below.refl _ _).alloc (Nat.le_refl _) o)).c0)
  obtain ⟨i0, hi0, hz0, hz1, hz2⟩ := info_parts Tryd.infoI
  obtain ⟨sp, cp, hvv⟩ : ∃ sp cp, hv = .slice sp hs.length cp := by
    rcases h.own.2 with ⟨e, h0⟩ | ⟨g, cap, cur, e, _⟩
    · exact ⟨none, 0, by rw [e, h0]⟩
    · exact ⟨_, _, e⟩
  subst hvv
  have HH := Lib.hid h
  have c1 := h.kw.c1
  have hlt := lt_of_heap h.box
  have HO : Hid (∀ o o', ((w.alloc o).alloc o').ownsRow 0 3 1 (.slice sp hs.length cp) hs.length (hs.map (Value.int .i64))) := Lib.hid (fun o o' => (h.own.alloc o).alloc o')
  have hB2 : ∀ o o', Below w.heap.size w ((w.alloc o).alloc o') := fun o o' => ((Below.refl _ _).alloc (Nat.le_refl _) _).alloc (by simp) _
  have HB2 := Lib.hid hB2
  have hsm := h.ar.small
  clear h hB2
  go_enter Tryd.func22, Tryd.ntmps22
  go_wp2_with (first
    | (go_at_call 43; refine (has1_any b (some ⟨g, 0, none⟩) L.length cap _ r _ (HC.out _) ?_).mono ?_; (go_simp); rintro e w' ⟨rfl, rfl⟩; rw [hr])
    | (at_builtin; refine wpList_append_lies _ rfl _ _ 23 rfl 0 3 i0 (.int .i64 0) 1 8 Tryd.underlying23 hi0 hz0 hz1 hz2 rfl (by decide) _ _ _ rfl (HO.out _ _) ⟨w.heap.size + 1, 0, none⟩ 1 1 [.int .i64 r] rfl rfl ?c1 ?c2 (by decide) ?c3 ?c4 ?c5 _ rfl ?_))
  case c1 =>
    intro j u hj
    match j, hj with
    | 0, hj => simp at hj; subst hj; simp [Addr.add]
  case c2 => intro u hu; simp at hu; subst hu; rfl
  case c3 => unfold maxLen; omega
  case c4 => omega
  case c5 => simp
  intro g2 cap2 w7 hown7 hgr7 hat7 hlt7
  obtain ⟨x7, y7, HFN⟩ := HH.out.heard (HB2.out _ _) hown7 hgr7 (fun k hk => by
    have hk : some g2 = some k := hk
    obtain rfl := Option.some.inj hk
    rcases hat7 with e | e
    · exact .inl e
    · exact .inr (by rw [e]; simp))
  have HKN := Lib.hid (knows_any r hi _ HFN.out.1.kw)
  rw [hK] at HKN
  have HKH := Lib.hid HH.out.kh
  have HSH := Lib.hid HH.out.sh
  clear hown7 hgr7 hat7 c0 c1 HH HO HB2 HC
  go_wp2_with (first
    | (go_at_call 16; refine HKN.out.mono ?_; rintro e w8 ⟨rfl, hb8⟩
       have HK8 := Lib.hid (HFN.out.1.keep hb8)
       have HL8 := Lib.hid (HFN.out.2.trans (Kl.below _ _ _ hb8))
       have HNS := Lib.hid (newSearch_any bk w8)
       have HSU := Lib.hid (shut_any (HK8.out.keep (srch_below w8 bk)))
       clear HKN HFN x7 y7 hb8)
    | (go_at_call 41; refine HNS.out.mono ?_; rintro e w9 ⟨rfl, rfl⟩)
    | (go_at_call 44; refine HSU.out.mono ?_; rintro e w10 ⟨v, l, rfl, hrow, hin, hal, hll, hb10⟩
       obtain ⟨sp2, cp2, hvv⟩ := own_form hrow
       subst hvv))
  obtain ⟨n, s1, s2, hall, hln, hcl, hsh⟩ := learn_run hL HKH.out HSH.out hr hin hal
  obtain ⟨cx, hcx⟩ : ∃ cx, cx = cxOf bk b g bm cap lim L mk (.slice (some ⟨g2, 0, none⟩) (hs.length + 1) cap2) w8.heap.size := ⟨_, rfl⟩
  obtain ⟨G0, hG0⟩ : ∃ G0, G0 = ghOf mk w8.heap.size := ⟨_, rfl⟩
  have hcL : cx.L = L := by rw [hcx]; rfl
  have hbs : cx.bs = w8.heap.size + 1 := by rw [hcx]; rfl
  have HLO : Hid (Lo cx n l K s1 w10 w10 G0 G0 (s0 K) 0) := Lib.hid (by
    refine ⟨by rw [hcL]; exact hall, ?_, Fr.refl _ _ _, Le.refl _, ?_⟩
    · rw [hcx, hG0]; exact HK8.out.start.keep hb10
    · have := phi_s0 L K
      rw [hcL]; omega)
  have HFB : Hid (Fr (s0 K) (srch w8 bk) w10 G0 G0) := Lib.hid (Fr.below hb10)
  have HRW : Hid (∀ wr Gk sk k, Lo cx n l K s1 w10 wr G0 Gk sk k → k < l.length → ∃ g', sp2 = some ⟨g', 0, none⟩ ∧ rowAt wr g' (l.map (nd L))) := Lib.hid (fun wr Gk sk k hlo hk => by
    rcases hrow.2 with ⟨e, h0⟩ | ⟨g', cap', cur', e, hge, hg', _⟩
    · omega
    · injection e with e _ _
      subst e
      have hM : ¬ G0.M g' := fun e => by
        rw [hG0] at e
        change g' = mk ∨ g' = w8.heap.size at e
        have h1 := srch_size w8 bk
        have h2 := HK8.out.kn.lt
        rcases e with e | e <;> omega
      have hrow' := ownsRow_same hrow (w' := wr) (fun k' hk' => by
        have hk' : some g' = some k' := hk'
        obtain rfl := Option.some.inj hk'
        exact hlo.fr.kept g' (lt_of_heap hg') hM)
      exact ⟨g', rfl, ownsRow_row hrow'⟩)
  have HIN : Hid (∀ x ∈ l, hasB cx.L.length x = true) := Lib.hid (fun x hx => by rw [hcL]; exact HKH.out x (hin x hx).1)
  have HEN : Hid (∀ wr Gk sk, Lo cx n l K s1 w10 wr G0 Gk sk l.length → Calls Tryd.prog 46 #[.pointer (some ⟨w8.heap.size + 1, 0, none⟩), .int .i64 r] wr fun e w' => e = .returned (.tuple #[]) ∧ LPost w bk b g bm cap lim L mk (.slice sp hs.length cp) hs K r (.returned (.int .i64 0)) w') := Lib.hid (fun wr Gk sk hlo => by
    have hrun := hlo.run
    rw [List.drop_of_length_le (by simp)] at hrun
    have hrun : s1 = sk := hrun
    subst hrun
    have hc := (wk_any cx (by rw [hcL]; exact hL) n).learn s1 s2 r wr Gk (by rw [hcL]; exact hln) hlo.st (by rw [hcL]; exact hr)
    rw [hbs] at hc
    refine hc.mono ?_
    rintro e w' ⟨rfl, G', hS', hF'⟩
    rw [hcx] at hS'
    have hfr := (HFB.out.trans (Le.refl _) hlo.fr).trans hlo.le hF'
    rw [hG0] at hfr
    obtain ⟨q1, q2⟩ := HK8.out.stop hS' hfr hsh
    exact ⟨rfl, _, s2.K, rfl, q1, hcl, HL8.out.trans (Kl.kp _ _ q2)⟩)
  have hLc : WF cx.L := by rw [hcL]; exact hL
  have HLC := Lib.hid hLc
  have HWK := Lib.hid (wk_any cx hLc n)
  clear hall hln hcl hsh hrow hin hal hb10 hcx hG0 HNS HSU HK8 HL8 hLc
  have hl6 : l.length ≤ 65536 := by omega
  go_loopg [7, 34] l.length (fun q _ u34 wr => ∃ k : Nat, k + q = l.length ∧ u34 = .int .i64 k ∧ ∃ sk Gk, Lo cx n l K s1 w10 wr G0 Gk sk k)
  case atStart => exact ⟨0, by omega, rfl, s0 K, G0, HLO.out⟩
  case round =>
    obtain ⟨k, hkq, rfl, sk, Gk, hlo⟩ := hrel
    by_cases hltk : k < l.length
    · obtain ⟨g', rfl, hra⟩ := HRW.out wr Gk sk k hlo hltk
      obtain ⟨ri0, ri1, ri2, ri3, ri4⟩ := hra k (by simpa using hltk)
      rw [map_getD L hltk] at ri0 ri1 ri2 ri3 ri4
      obtain ⟨sk', hr1, hco, hp1, hnx⟩ := hlo.next HLC.out hltk HIN.out
      rw [hcL] at hr1 hco
      obtain ⟨d, hd⟩ : ∃ d, d = nd L (l.getD k 0) := ⟨_, rfl⟩
      rw [← hd] at ri0 ri1 ri2 ri3 ri4 hr1 hco
      have HOP : Hid (∀ w1, Below wr.heap.size wr w1 → Calls Tryd.prog 45 #[.pointer (some ⟨w8.heap.size + 1, 0, none⟩), .agg #[.int .i64 d.k, .int .u64 d.n, .int .i64 d.a, .int .i64 d.b, .int .i64 d.c]] w1 (SPost cx sk sk' w1 Gk)) := Lib.hid (fun w1 hb => by
        have := open_any (k := d.k) (n1 := d.n) (b1 := d.b) HWK.out (by rw [hcL]; exact hr1) (hlo.st.keep hb) (by rw [hcL]; exact hco) hp1
        rw [hbs] at this; exact this)
      have HNX := Lib.hid hnx
      have hg' : g' < wr.heap.size := World.block_lt_of_cell? wr _ ri0
      clear hlo hra hr1 hco hp1 hnx hd
      have hltk' : (k : Int) < l.length := by omega
      go_wp2_with (go_at_call 45; refine (HOP.out _ ((Below.refl _ _).alloc (Nat.le_refl _) _)).mono ?_; rintro e w3 ⟨rfl, G3, hS3, hF3⟩)
      go_roundg (l.length - (k + 1))
      case rel => exact ⟨k + 1, by omega, by simp, sk', G3, HNX.out _ _ hS3 ((Fr.below ((Below.refl _ _).alloc (Nat.le_refl _) _)).trans (Le.refl sk) hF3)⟩
      case measure => omega
    · obtain rfl : k = l.length := by omega
      have HE := Lib.hid (HEN.out wr Gk sk hlo)
      clear hlo
      go_wp2_with (go_at_call 46; refine HE.out.mono ?_; rintro e w3 ⟨rfl, hpost⟩)
      go_ret
      exact hpost
theorem learn_any {w : World} {bk b g bm cap lim : Nat} {L : List Nd} {mk : Nat} {hv : Value} {hs : List Int} {K : Int → Bool} (h : Kno w bk b g bm cap lim L mk hv hs K) (hlen : hs.length ≤ 1000000) (r : Int) (hr : hasB L.length r = true) :
    Calls Tryd.prog 22 #[.pointer (some ⟨bk, 0, none⟩), .int .i64 r] w (LPost w bk b g bm cap lim L mk hv hs K r) := by
  cases hK : K r with
  | true => exact learn_again h hlen r hr hK
  | false => exact learn_fresh h.ar.wf h hlen r hr hK
end Go.Proofs.YtlckajnbmkkpeaaDoor

/- Layer 3: walks: New, Heard; what is known, as the laws meet it. -/
namespace Go.Proofs
open Go.Shelf
def Tryd.cloneI_ren : Go.Shelf.Ren := ⟨fun | 41 => 36 | n => n, fun | 22 => 23 | 23 => 3 | 4 => 4 | n => n, fun | n => n⟩
theorem Tryd.cloneI : Go.Proofs.SlLaysE0.n41 Tryd.prog Tryd.cloneI_ren := {
  mixed := by kernel_rfl
  f41 := ⟨Tryd.f36.name, by decide, Tryd.func36.trans (congrArg some (by kernel_rfl))⟩
  t4 := Tryd.underlying4
  a4 := Tryd.isAgg4
  z4 := Tryd.sizeOf4
  v4 := Tryd.zeroValue4
  t22 := Tryd.underlying23
  a22 := Tryd.isAgg23
  z22 := Tryd.sizeOf23
  v22 := Tryd.zeroValue23 }
end Go.Proofs
namespace Go.Proofs.YtlckajnbmkkpeaaDoor
open Go.RowKit Go.Maps Go.Shelf

noncomputable def intI : TypeInfo := (Tryd.prog.info? 3).get (by kernel_rfl)
theorem cloneI_some (g c : Nat) (xs : List Int) (w : World) (hm : xs.length ≤ 1000001) (hr : ∀ i, i < xs.length → w.cell? ⟨g, i, none⟩ = some (.int .i64 (xs.getD i 0))) :
    Calls Tryd.prog 36 #[.slice (some ⟨g, 0, none⟩) xs.length c] w fun e w' => ∃ v', e = .returned v' ∧ w'.ownsRow w.heap.size 3 1 v' xs.length (xs.map (Value.int .i64)) ∧ v' ≠ .slice none 0 0 ∧ Below w.heap.size w w' := by
  have h := AnyE.slices_Clone Tryd.cloneI intI (.int .i64 0) 1 8 (by kernel_rfl) (by kernel_rfl) (by kernel_rfl) (by kernel_rfl) rfl (by decide) Tryd.sizeOf3 g 0 xs.length c (xs.map (Value.int .i64)) w
    (by simp) (by unfold maxLen; omega) (by omega) (fun j u hu => by
      have hj : j < xs.length := by
        rcases Nat.lt_or_ge j xs.length with e | e
        · exact e
        · rw [List.getElem?_eq_none (by simpa using e)] at hu; cases hu
      rw [Nat.zero_add, hr j hj]
      rw [List.getElem?_map, List.getElem?_eq_getElem hj] at hu
      rw [List.getD_eq_getElem?_getD, List.getElem?_eq_getElem hj]
      exact hu) (fun u hu => by obtain ⟨x, _, rfl⟩ := List.mem_map.1 hu; rfl)
  exact h

/-- What is known since the world w, as a law meets it; with the reference's arena. -/
structure Kx (w wi : World) (bk b g bm cap lim : Nat) (L : List Nd) (mk : Nat) (hv : Value) (hs : List Int) (K : Int → Bool) : Prop where
  st : St w wi b g bm cap lim L
  kn : Kno wi bk b g bm cap lim L mk hv hs K
  h1 : w.heap.size ≤ bk
  h2 : w.heap.size ≤ mk
  h3 : ∀ k, hv.ownBlock = some k → w.heap.size ≤ k
/-- A row of the law's own that is none of these. -/
structure Apart (wi : World) (bk mk : Nat) (hv : Value) (g : Nat) : Prop where
  lt : g < wi.heap.size
  n1 : g ≠ bk
  n2 : g ≠ mk
  n3 : hv.ownBlock ≠ some g
section
variable {w wi w' : World} {bk b g bm cap lim : Nat} {L : List Nd} {mk : Nat} {hv hv' : Value} {hs : List Int} {K : Int → Bool}
theorem Kx.keep (h : Kx w wi bk b g bm cap lim L mk hv hs K) (hb : Below wi.heap.size wi w') : Kx w w' bk b g bm cap lim L mk hv hs K := ⟨h.st.keep hb, h.kn.keep hb, h.h1, h.h2, h.h3⟩
theorem Kx.can (h : Kx w wi bk b g bm cap lim L mk hv hs K) (hk : Kno w' bk b g bm cap lim L mk hv hs K) (hp : Kp wi w' mk) : Kx w w' bk b g bm cap lim L mk hv hs K :=
  ⟨⟨hk.ar, hp.bel h.st.bel h.st.bel.size h.h2, h.st.hb, h.st.hg, h.st.hm⟩, hk, h.h1, h.h2, h.h3⟩
theorem Kx.learn (h : Kx w wi bk b g bm cap lim L mk hv hs K) {hs' : List Int} {K' : Int → Bool} (hk : Kno w' bk b g bm cap lim L mk hv' hs' K') (hl : Kl wi w' bk mk hv hv') : Kx w w' bk b g bm cap lim L mk hv' hs' K' := by
  obtain ⟨e1, e2⟩ := hl.bel h.st.bel h.st.bel.size h.h2 h.h1 h.h3
  exact ⟨⟨hk.ar, e1, h.st.hb, h.st.hg, h.st.hm⟩, hk, h.h1, h.h2, e2⟩
theorem Apart.keep {g' : Nat} (h : Apart wi bk mk hv g') (hb : Below wi.heap.size wi w') : Apart w' bk mk hv g' ∧ w'.heap[g']? = wi.heap[g']? := ⟨⟨Nat.lt_of_lt_of_le h.lt hb.size, h.n1, h.n2, h.n3⟩, hb.block _ h.lt⟩
theorem Apart.can {g' : Nat} (h : Apart wi bk mk hv g') (hp : Kp wi w' mk) : Apart w' bk mk hv g' ∧ w'.heap[g']? = wi.heap[g']? := ⟨⟨Nat.lt_of_lt_of_le h.lt hp.size, h.n1, h.n2, h.n3⟩, hp.kept _ h.lt h.n2⟩
theorem Apart.learn {g' : Nat} (h : Apart wi bk mk hv g') (hl : Kl wi w' bk mk hv hv') : Apart w' bk mk hv' g' ∧ w'.heap[g']? = wi.heap[g']? := ⟨⟨Nat.lt_of_lt_of_le h.lt hl.size, h.n1, h.n2, fun e => by
  rcases hl.at_ _ e with e' | e'
  · exact h.n3 e'
  · have := h.lt; omega⟩, hl.kept _ h.lt h.n2 h.n1 h.n3⟩
end

set_option maxRecDepth 100000 in
set_option maxHeartbeats 1000000 in
theorem knew_any {w0 w : World} {b g bm cap lim : Nat} {L : List Nd} (h : St w0 w b g bm cap lim L) : Calls Tryd.prog 30 #[.pointer (some ⟨b, 0, none⟩)] w fun e w' => e = .returned (.pointer (some ⟨w.heap.size + 1, 0, none⟩)) ∧ Kx w0 w' (w.heap.size + 1) b g bm cap lim L w.heap.size (.slice none 0 0) [] (fun _ => false) ∧ Below w.heap.size w w' := by
  have hmm := @run_makeMap Tryd.prog
  have HH := Lib.hid h
  clear h
  go_enter Tryd.func30, Tryd.ntmps30
  go_wp2_with fail
  go_ret
  have hb : Below w.heap.size w ((w.alloc (.map #[] 0)).alloc (.cells #[.pointer (some ⟨b, 0, none⟩), .slice none 0 0, .map (some w.heap.size)] 76)) := ((Below.refl _ _).alloc (Nat.le_refl _) _).alloc (by simp) _
  have hs := HH.out.bel.size
  refine ⟨rfl, ⟨HH.out.keep hb, ⟨HH.out.ar.below hb, ?_, ?_, World.ownsRow_nil _ _ _ _, ?_, fun r hr => (by cases hr), fun r _ hr => (by cases hr)⟩, by omega, by omega, fun k hk => (by cases hk)⟩, hb⟩
  · have := heap_alloc_new (w.alloc (.map #[] 0)) (.cells #[.pointer (some ⟨b, 0, none⟩), .slice none 0 0, .map (some w.heap.size)] 76)
    rw [World.size_alloc] at this; exact this
  · rw [cnt_none]; exact (MapU.made w).keep (Below.heap_alloc _ _ _ (by simp))
  · have := HH.out.ar.mlt; omega

set_option maxRecDepth 100000 in
set_option maxHeartbeats 1000000 in
/-- What was heard, if anything was. -/
theorem heard_some {w : World} {bk b g bm cap lim : Nat} {L : List Nd} {mk : Nat} {hv : Value} {hs : List Int} {K : Int → Bool} (h : Kno w bk b g bm cap lim L mk hv hs K) (h0 : 0 < hs.length) (hm : hs.length ≤ 1000001) :
    Calls Tryd.prog 17 #[.pointer (some ⟨bk, 0, none⟩)] w fun e w' => ∃ g' c', e = .returned (.slice (some ⟨g', 0, none⟩) hs.length c') ∧ w'.ownsRow w.heap.size 3 1 (.slice (some ⟨g', 0, none⟩) hs.length c') hs.length (hs.map (Value.int .i64)) ∧ Below w.heap.size w w' := by
  have c1 := h.kw.c1
  obtain ⟨gh, ch, rfl⟩ : ∃ gh ch, hv = .slice (some ⟨gh, 0, none⟩) hs.length ch := by
    rcases h.own.2 with ⟨e, e0⟩ | ⟨g', cap', cur', e, _⟩
    · omega
    · exact ⟨_, _, e⟩
  have HC := Lib.hid (cloneI_some gh ch hs w hm (fun i hi => by
    rw [h.own.cellAt i (by omega), List.getElem?_map, List.getElem?_eq_getElem hi, List.getD_eq_getElem?_getD, List.getElem?_eq_getElem hi]; rfl))
  clear h
  go_enter Tryd.func17, Tryd.ntmps17
  go_wp2_with (go_at_call 36; refine HC.out.mono ?_; rintro e w1 ⟨v', rfl, hown, hne, hb1⟩)
  go_ret
  rcases hown.2 with ⟨e, _⟩ | ⟨g', cap', cur', rfl, _⟩
  · exact absurd e hne
  · exact ⟨g', cap', rfl, hown, hb1⟩
end Go.Proofs.YtlckajnbmkkpeaaDoor

/- Layer 3: what the document fixes of a seal (awake). -/
namespace Go.Proofs.YtlckajnbmkkpeaaDoor
open Go.RowKit Go.Maps

def wX : Nd := ⟨1, 1, 0, 0, 0⟩
def wP : Nd := ⟨1, 2, 0, 0, 0⟩
def wS : Nd := ⟨7, 3, 1, 0, 2⟩
def wL : List Nd := [zN, wX, wP, wS]
theorem w_mk1 : mkL 20 [zN] wX = [zN, wX] ∧ mkR 20 [zN] wX = 1 ∧ mkE 20 [zN] wX = 0 := mk_new (by decide) (by decide) (by decide)
theorem w_mk2 : mkL 20 [zN, wX] wP = [zN, wX, wP] ∧ mkR 20 [zN, wX] wP = 2 ∧ mkE 20 [zN, wX] wP = 0 := mk_new (by decide) (by decide) (by decide)
theorem w_mk3 : mkL 20 [zN, wX, wP] wS = wL ∧ mkR 20 [zN, wX, wP] wS = 3 ∧ mkE 20 [zN, wX, wP] wS = 0 := mk_new (by decide) (by decide) (by decide)
/-- A name that is not the attacker's, and not known, can't be made. -/
theorem can_name {L : List Nd} {K : Int → Prop} {r : Int} (hk : (nd L r).k = 1) (hn : (nd L r).n < 4294967296) (hc : Can L K r) : K r := by
  cases hc with
  | known _ h => exact h
  | free _ h => omega
  | own _ _ h => omega
  | dh _ h => omega
  | dhA _ h => omega
  | dhB _ h => omega
  | parts _ _ h => exact absurd hk h
theorem w_shut : Shut wL (fun x => x = 3) := by
  intro r _ hr
  subst hr
  refine ⟨fun h => absurd h (by decide), fun _ hc => ?_⟩
  exact absurd (can_name (L := wL) (r := 1) (by decide) (by decide) hc) (by decide)
theorem w_sealed {K : Int → Bool} (h : ∀ y, K y = true ↔ cl wL (fun x => false = true ∨ x = 3) y) : ¬ Can wL (fun x => K x = true) 2 := fun hc => by
  have h2 := can_name (L := wL) (r := 2) (by decide) (by decide) hc
  have := cl_least w_shut (fun x hx => by rcases hx with e | e; cases e; exact e) ((h 2).1 h2)
  exact absurd this (by decide)
theorem w_open {K K2 : Int → Bool} (h : ∀ y, K y = true ↔ cl wL (fun x => false = true ∨ x = 3) y) (h2 : ∀ y, K2 y = true ↔ cl wL (fun x => K x = true ∨ x = 1) y) : K2 2 = true ∧ Can wL (fun x => K2 x = true) 2 := by
  have e3 : K2 3 = true := (h2 3).2 (cl_in (.inl ((h 3).2 (cl_in (.inr rfl)))))
  have e1 : K2 1 = true := (h2 1).2 (cl_in (.inr rfl))
  have hs : Shut wL (fun y => K2 y = true) := by
    have e : (fun y => K2 y = true) = cl wL (fun x => K x = true ∨ x = 1) := funext fun y => propext (h2 y)
    rw [e]; exact cl_shut _ _
  have e2 : K2 2 = true := (hs 3 (by decide) e3).2 (by decide) (.known (by decide) e1)
  exact ⟨e2, .known (by decide) e2⟩

set_option maxRecDepth 100000 in
set_option maxHeartbeats 4000000 in
theorem awake_any (w : World) (hE : Shp w) : Calls Tryd.prog 13 #[] w fun e w' => e = .returned (.bool true) ∧ Below w.heap.size w w' := by
  have HN := Lib.hid (new_any 20 w)
  have HM1 : Hid (∀ w1 b g bm cap, St w w1 b g bm cap 20 [zN] → Calls Tryd.prog 32 #[.pointer (some ⟨b, 0, none⟩), .agg #[.int .i64 1, .int .u64 1, .int .i64 0, .int .i64 0, .int .i64 0]] w1 fun e w' => ∃ g' cap', e = .returned (.tuple #[.int .i64 1, .int .i64 0]) ∧ St w w' b g' bm cap' 20 [zN, wX]) := Lib.hid (fun w1 b g bm cap h => by
    refine (mk_any b g bm cap 20 [zN] 1 1 0 0 0 w1 h.ar (h.shp hE) (by simp [Nd.ok, i64ok, u64ok])).mono ?_
    rintro e w' ⟨g', cap', rfl, hA, hg, hk⟩
    obtain ⟨m1, m2, m3⟩ := w_mk1
    unfold wX at m1 m2 m3
    rw [m1] at hA
    rw [m2, m3]
    exact ⟨g', cap', rfl, h.step hA hg hk⟩)
  have HM2 : Hid (∀ w1 b g bm cap, St w w1 b g bm cap 20 [zN, wX] → Calls Tryd.prog 32 #[.pointer (some ⟨b, 0, none⟩), .agg #[.int .i64 1, .int .u64 2, .int .i64 0, .int .i64 0, .int .i64 0]] w1 fun e w' => ∃ g' cap', e = .returned (.tuple #[.int .i64 2, .int .i64 0]) ∧ St w w' b g' bm cap' 20 [zN, wX, wP]) := Lib.hid (fun w1 b g bm cap h => by
    refine (mk_any b g bm cap 20 [zN, wX] 1 2 0 0 0 w1 h.ar (h.shp hE) (by simp [Nd.ok, i64ok, u64ok])).mono ?_
    rintro e w' ⟨g', cap', rfl, hA, hg, hk⟩
    obtain ⟨m1, m2, m3⟩ := w_mk2
    change mkL 20 [zN, wX] ⟨1, 2, 0, 0, 0⟩ = _ at m1
    change mkR 20 [zN, wX] ⟨1, 2, 0, 0, 0⟩ = _ at m2
    change mkE 20 [zN, wX] ⟨1, 2, 0, 0, 0⟩ = _ at m3
    rw [m1] at hA
    rw [m2, m3]
    exact ⟨g', cap', rfl, h.step hA hg hk⟩)
  have HM3 : Hid (∀ w1 b g bm cap, St w w1 b g bm cap 20 [zN, wX, wP] → Calls Tryd.prog 32 #[.pointer (some ⟨b, 0, none⟩), .agg #[.int .i64 7, .int .u64 3, .int .i64 1, .int .i64 0, .int .i64 2]] w1 fun e w' => ∃ g' cap', e = .returned (.tuple #[.int .i64 3, .int .i64 0]) ∧ St w w' b g' bm cap' 20 wL) := Lib.hid (fun w1 b g bm cap h => by
    refine (mk_any b g bm cap 20 [zN, wX, wP] 7 3 1 0 2 w1 h.ar (h.shp hE) (by simp [Nd.ok, i64ok, u64ok])).mono ?_
    rintro e w' ⟨g', cap', rfl, hA, hg, hk⟩
    obtain ⟨m1, m2, m3⟩ := w_mk3
    change mkL 20 [zN, wX, wP] ⟨7, 3, 1, 0, 2⟩ = _ at m1
    change mkR 20 [zN, wX, wP] ⟨7, 3, 1, 0, 2⟩ = _ at m2
    change mkE 20 [zN, wX, wP] ⟨7, 3, 1, 0, 2⟩ = _ at m3
    rw [m1] at hA
    rw [m2, m3]
    exact ⟨g', cap', rfl, h.step hA hg hk⟩)
  clear hE
  go_enter Tryd.func13, Tryd.ntmps13
  go_wp2_with (first
    | (go_at_call 29; refine HN.out.mono ?_; rintro e w1 ⟨b, g, bm, rfl, hA1, h1, h2, h3, hb1⟩; have _hn1 := h1)
    | (go_at_call 32; have _h := _hn1; refine (HM1.out w1 b g bm 1 ⟨hA1, hb1, h1, h2, h3⟩).mono ?_; rintro e w2 ⟨g2, cap2, rfl, hS2⟩; clear _hn1; have _hn2 := hS2.hb)
    | (go_at_call 32; have _h := _hn2; refine (HM2.out w2 b g2 bm cap2 hS2).mono ?_; rintro e w3 ⟨g3, cap3, rfl, hS3⟩; clear _hn2; have _hn3 := hS3.hb)
    | (go_at_call 32; have _h := _hn3; refine (HM3.out w3 b g3 bm cap3 hS3).mono ?_; rintro e w4 ⟨g4, cap4, rfl, hS4⟩; clear _hn3)
    | (go_at_call 30; refine (knew_any hS4).mono ?_; rintro e w5 ⟨rfl, hK5, hb5⟩; have _k1 := hb5.size)
    | (go_at_call 22; have _h := _k1; refine (learn_any hK5.kn (by simp) 3 (by decide)).mono ?_; rintro e w6 ⟨hv6, K6, rfl, hN6, hC6, hL6⟩; have HK6 := Lib.hid (hK5.learn hN6 hL6); have HC6 := Lib.hid hC6; clear _k1; have _k2 := hL6.size; clear hN6 hL6 hC6 hK5 hb5)
    | (go_at_call 21; have _h := _k2; refine (can_any HK6.out.kn.ar.wf HK6.out.kn 2 (by decide)).mono ?_; rintro e w7 ⟨d7, rfl, hd7, hN7, hP7⟩; have hd7' : d7 = false := (by cases d7; rfl; exact absurd (hd7.1 rfl) (w_sealed HC6.out)); subst hd7'; have HK7 := Lib.hid (HK6.out.can hN7 hP7); clear _k2; have _k3 := hP7.size; clear hd7 hN7 hP7)
    | (go_at_call 22; have _h := _k3; refine (learn_any HK7.out.kn (by simp) 1 (by decide)).mono ?_; rintro e w8 ⟨hv8, K8, rfl, hN8, hC8, hL8⟩; have HK8 := Lib.hid (HK7.out.learn hN8 hL8); have HOP := Lib.hid (w_open HC6.out hC8); clear _k3; have _k4 := hL8.size; clear hN8 hC8 hL8)
    | (go_at_call 16; refine (knows_any 2 (by simp [i64ok]) w8 HK8.out.kn.kw).mono ?_; rintro e w9 ⟨rfl, hb9⟩; rw [HOP.out.1]; have HK9 := Lib.hid (HK8.out.keep hb9); clear hb9)
    | (go_at_call 21; have _h := _k4; refine (can_any HK9.out.kn.ar.wf HK9.out.kn 2 (by decide)).mono ?_; rintro e w10 ⟨d10, rfl, hd10, hN10, hP10⟩; have hd10' : d10 = true := hd10.2 HOP.out.2; subst hd10'; have HK10 := Lib.hid (HK9.out.can hN10 hP10); clear hd10 hN10 hP10)
    | (go_at_call 17; refine (heard_some HK10.out.kn (by simp) (by simp)).mono ?_; rintro e w11 ⟨g11, c11, rfl, ho11, hb11⟩; have HK11 := Lib.hid (HK10.out.keep hb11); clear ho11 hb11))
  go_ret
  exact ⟨rfl, HK11.out.st.bel⟩
end Go.Proofs.YtlckajnbmkkpeaaDoor

/- Layer 3: what is known, beside the reference's arena, as the laws' loops meet it. -/
namespace Go.Proofs.YtlckajnbmkkpeaaDoor
open Go.RowKit Go.Maps

structure Ky (w wi : World) (pb gr capr bk b g bm cap lim : Nat) (L : List Nd) (mk : Nat) (hv : Value) (hs : List Int) (K : Int → Bool) : Prop where
  kx : Kx w wi bk b g bm cap lim L mk hv hs K
  ap : Apart wi bk mk hv pb
  ag : Apart wi bk mk hv gr
  box : wi.heap[pb]? = some (.cells #[.int .i64 lim, .slice (some ⟨gr, 0, none⟩) L.length capr] 29 (0, 0))
  row : rowAt wi gr L
section
variable {w wi w' : World} {pb gr capr bk b g bm cap lim : Nat} {L : List Nd} {mk : Nat} {hv hv' : Value} {hs : List Int} {K : Int → Bool}
theorem Ky.keep (h : Ky w wi pb gr capr bk b g bm cap lim L mk hv hs K) (hb : Below wi.heap.size wi w') : Ky w w' pb gr capr bk b g bm cap lim L mk hv hs K :=
  ⟨h.kx.keep hb, (h.ap.keep hb).1, (h.ag.keep hb).1, (h.ap.keep hb).2.trans h.box, h.row.keep (h.ag.keep hb).2⟩
theorem Ky.can (h : Ky w wi pb gr capr bk b g bm cap lim L mk hv hs K) (hk : Kno w' bk b g bm cap lim L mk hv hs K) (hp : Kp wi w' mk) : Ky w w' pb gr capr bk b g bm cap lim L mk hv hs K :=
  ⟨h.kx.can hk hp, (h.ap.can hp).1, (h.ag.can hp).1, (h.ap.can hp).2.trans h.box, h.row.keep (h.ag.can hp).2⟩
theorem Ky.learn (h : Ky w wi pb gr capr bk b g bm cap lim L mk hv hs K) {hs' : List Int} {K' : Int → Bool} (hk : Kno w' bk b g bm cap lim L mk hv' hs' K') (hl : Kl wi w' bk mk hv hv') : Ky w w' pb gr capr bk b g bm cap lim L mk hv' hs' K' :=
  ⟨h.kx.learn hk hl, (h.ap.learn hl).1, (h.ag.learn hl).1, (h.ap.learn hl).2.trans h.box, h.row.keep (h.ag.learn hl).2⟩
theorem Ky.z0 (h : Ky w wi pb gr capr bk b g bm cap lim L mk hv hs K) : wi.cell? ⟨pb, 0, none⟩ = some (.int .i64 lim) := by rw [cell_of_row wi _ 0 _ _ _ h.box]; rfl
theorem Ky.z1 (h : Ky w wi pb gr capr bk b g bm cap lim L mk hv hs K) : wi.cell? ⟨pb, 1, none⟩ = some (.slice (some ⟨gr, 0, none⟩) L.length capr) := by rw [cell_of_row wi _ 1 _ _ _ h.box]; rfl
theorem Ky.wf (h : Ky w wi pb gr capr bk b g bm cap lim L mk hv hs K) : WF L := h.kx.kn.ar.wf
theorem Ky.len (h : Ky w wi pb gr capr bk b g bm cap lim L mk hv hs K) : L.length ≤ lim := h.kx.kn.ar.len
end
theorem ky_new {w w1 : World} {b g bm cap gr capr lim : Nat} {L : List Nd} (hP : Pair w w1 b g bm cap gr capr lim L) :
    Calls Tryd.prog 30 #[.pointer (some ⟨b, 0, none⟩)] (w1.alloc (.cells #[.int .i64 lim, .slice (some ⟨gr, 0, none⟩) L.length capr] 29)) fun e w2 => ∃ bk mk, e = .returned (.pointer (some ⟨bk, 0, none⟩)) ∧ Ky w w2 w1.heap.size gr capr bk b g bm cap lim L mk (.slice none 0 0) [] (fun _ => false) := by
  have hb : Below w1.heap.size w1 (w1.alloc (.cells #[.int .i64 lim, .slice (some ⟨gr, 0, none⟩) L.length capr] 29)) := (Below.refl _ _).alloc (Nat.le_refl _) _
  refine (knew_any (hP.below hb).st).mono ?_
  rintro e w2 ⟨rfl, hK, hb2⟩
  have hs2 := hb2.size
  have hlt := hP.lt
  rw [World.size_alloc] at hs2
  refine ⟨_, _, rfl, hK, ⟨by omega, ?_, ?_, fun e => by cases e⟩, ⟨by omega, ?_, ?_, fun e => by cases e⟩, (hb2.block _ (by simp)).trans (heap_alloc_new _ _), (hP.below hb).row.keep (hb2.block _ (by simp; omega))⟩ <;> rw [World.size_alloc] <;> omega
end Go.Proofs.YtlckajnbmkkpeaaDoor
