/- Layer 3: what is known, in memory; the known Seals whose content is not known. -/
import Derived.Test.YtemigefkkjgehaaDoorXj
import Derived.Maps.RangeWalk
namespace Go.Proofs.YtemigefkkjgehaaDoor
open Go.RowKit Go.Maps

/-- What is known, with its arena, in memory. -/
structure Kno (w : World) (bk b g bm cap lim : Nat) (L : List Nd) (mk : Nat) (hv : Value) (hs : List Int) (K : Int → Bool) : Prop where
  ar : Ar w b g bm cap lim L
  box : w.heap[bk]? = some (.cells #[.pointer (some ⟨b, 0, none⟩), hv, .map (some mk)] 76 (0, 0))
  kn : MapU w mk (cnt L.length K) K
  own : w.ownsRow 0 3 1 hv hs.length (hs.map (Value.int .i64))
  ne : mk ≠ bm
  kh : ∀ r, K r = true → hasB L.length r = true
  sh : Shut L fun r => K r = true
section
variable {w : World} {bk b g bm cap lim : Nat} {L : List Nd} {mk : Nat} {hv : Value} {hs : List Int} {K : Int → Bool}
theorem Kno.kw (h : Kno w bk b g bm cap lim L mk hv hs K) : Kw w bk b mk (cnt L.length K) hv K := ⟨h.box, h.kn⟩
theorem Kno.keep (h : Kno w bk b g bm cap lim L mk hv hs K) {w' : World} (hb : Below w.heap.size w w') : Kno w' bk b g bm cap lim L mk hv hs K :=
  ⟨h.ar.below hb, (hb.block _ (lt_of_heap h.box)).trans h.box, h.kn.keep (hb.block _ h.kn.lt), ownsRow_same h.own (fun k hk => hb.block k (h.own.lt k hk).2), h.ne, h.kh, h.sh⟩
end

theorem get_hasL {b g bm cap lim : Nat} {L : List Nd} {r : Int} (hr : hasB L.length r = true) {w : World} (hA : Ar w b g bm cap lim L) :
    Calls Tryd.prog 47 #[.pointer (some ⟨b, 0, none⟩), .int .i64 r] w fun e w' => e = .returned (.tuple #[.agg #[.int .i64 (nd L r).k, .int .u64 (nd L r).n, .int .i64 (nd L r).a, .int .i64 (nd L r).b, .int .i64 (nd L r).c], .bool true]) ∧ Below w.heap.size w w' := by
  have h := hasB_iff.1 hr
  obtain ⟨i, rfl⟩ : ∃ i : Nat, r = i := ⟨r.toNat, by omega⟩
  exact get_yes b g bm cap lim L i (by omega) w hA
/-- The loop over what is known, under way. -/
structure Sl (w wr : World) (L : List Nd) (mk n : Nat) (K : Int → Bool) (D : DataW Unit) (v : Value) (left : Lit → Bool) (q : Nat) (l : List Int) : Prop where
  rg : wr.ranges Tryd.prog 3 (unitElem (H := Unit)) mk w.heap.size n D left q
  own : wr.ownsRow w.heap.size 67 5 v l.length (cells (l.map (nd L)))
  bel : Below w.heap.size w wr
  inn : ∀ x ∈ l, K x = true ∧ (nd L x).k = 7
  all : ∀ x, K x = true → (nd L x).k = 7 → K (nd L x).c = true ∨ x ∈ l ∨ left (.int .i64 x) = true
  has : ∀ kl, left kl = true → Maps.has D kl = true
  len : l.length + q ≤ n
theorem same_int {x y : Int} (h : (Lit.int .i64 x).sameKey (.int .i64 y) = true) : x = y := by
  have := WideAt.sameKey_eq h
  injection this
theorem Sl.step {w wr w1 : World} {L : List Nd} {mk n : Nat} {K : Int → Bool} {D : DataW Unit} {v : Value} {left : Lit → Bool} {q q1 : Nat} {l : List Int} (h : Sl w wr L mk n K D v left q l) {x : Int} (hq : q1 < q) (hb : Below w.heap.size w w1) {l' : List Int} {v' : Value} (hl : l' = l ∧ ((nd L x).k = 7 → K (nd L x).c = true) ∨ l' = l ++ [x] ∧ K x = true ∧ (nd L x).k = 7)
    (hrg : w1.ranges Tryd.prog 3 (unitElem (H := Unit)) mk w.heap.size n D (fun z => left z && !z.sameKey (.int .i64 x)) q1) (hown : w1.ownsRow w.heap.size 67 5 v' l'.length (cells (l'.map (nd L)))) : Sl w w1 L mk n K D v' (fun z => left z && !z.sameKey (.int .i64 x)) q1 l' := by
  refine ⟨hrg, hown, hb, fun y hy => ?_, fun y h1 h2 => ?_, fun kl hkl => ?_, ?_⟩
  · rcases hl with ⟨rfl, _⟩ | ⟨rfl, h1, h2⟩
    · exact h.inn y hy
    · rcases List.mem_append.1 hy with e | e
      · exact h.inn y e
      · simp at e; subst e; exact ⟨h1, h2⟩
  · rcases h.all y h1 h2 with e | e | e
    · exact .inl e
    · rcases hl with ⟨rfl, _⟩ | ⟨rfl, _⟩
      · exact .inr (.inl e)
      · exact .inr (.inl (List.mem_append_left _ e))
    · by_cases hx : y = x
      · subst hx
        rcases hl with ⟨_, h3⟩ | ⟨rfl, _⟩
        · exact .inl (h3 h2)
        · exact .inr (.inl (by simp))
      · refine .inr (.inr ?_)
        simp only [Bool.and_eq_true, Bool.not_eq_true']
        refine ⟨e, ?_⟩
        cases hs : (Lit.int .i64 y).sameKey (.int .i64 x) with
        | false => rfl
        | true => exact absurd (same_int hs) hx
  · simp only [Bool.and_eq_true] at hkl
    exact h.has kl hkl.1
  · have := h.len
    rcases hl with ⟨rfl, _⟩ | ⟨rfl, _⟩
    · omega
    · simp only [List.length_append, List.length_cons, List.length_nil]; omega
theorem grownOf {X0 X : World} (hB : Below X0.heap.size X0 X) : X0.grownBy X none := ⟨hB.os, hB.tape, hB.output, hB.size, fun k hk _ => hB.block k hk⟩
def rangeLeftLe (w wr : World) (mk q : Nat) : Prop := wr.rangeLeft mk w.heap.size = q
theorem cells_snoc (L : List Nd) (l : List Int) (x : Int) : cells ((l ++ [x]).map (nd L)) = cells (l.map (nd L)) ++ vals (nd L x) := by
  rw [List.map_append, cells_append, List.map_cons, List.map_nil, cells_one]
theorem Sl.append {w wr w1 w7 : World} {L : List Nd} {mk n : Nat} {K : Int → Bool} {D : DataW Unit} {v v' : Value} {left : Lit → Bool} {q q1 : Nat} {l : List Int} (h : Sl w wr L mk n K D v left q l) {x : Int} (hq : q1 < q) (hb : Below w.heap.size w w1) (hsz : w.heap.size ≤ w1.heap.size) (hK : K x = true) (k7 : (nd L x).k = 7)
    (hrg : w1.ranges Tryd.prog 3 (unitElem (H := Unit)) mk w.heap.size n D (fun z => left z && !z.sameKey (.int .i64 x)) q1) (hown : w1.ownsRow w.heap.size 67 5 v l.length (cells (l.map (nd L)))) (hown7 : w7.ownsRow w.heap.size 67 5 v' (l.length + 1) (cells (l.map (nd L)) ++ vals ⟨7, (nd L x).n, (nd L x).a, (nd L x).b, (nd L x).c⟩)) (hg : w1.grownBy w7 v.ownBlock) :
    Sl w w7 L mk n K D v' (fun z => left z && !z.sameKey (.int .i64 x)) q1 (l ++ [x]) ∧ True := by
  have kd := Lib.ownsRow_kind hown
  have e7 : vals ⟨7, (nd L x).n, (nd L x).a, (nd L x).b, (nd L x).c⟩ = vals (nd L x) := by unfold vals; rw [k7]
  refine ⟨h.step hq (hb.grown hg hsz (fun k hk => (hown.lt k hk).1)) (.inr ⟨rfl, hK, k7⟩) (hrg.kept hg (fun e => ?_) (fun e => ?_)) ?_, trivial⟩
  · obtain ⟨c', fz, hc⟩ := kd mk e.symm
    obtain ⟨es, clock, _, _, _, hmb, _⟩ := hrg
    rw [hmb] at hc; cases hc
  · obtain ⟨c', fz, hc⟩ := kd w.heap.size e.symm
    obtain ⟨es, clock, since, seen, c0', _, _, _, _, hr, _⟩ := hrg
    rw [hr] at hc; cases hc
  · rw [cells_snoc, ← e7, List.length_append, List.length_cons, List.length_nil]
    exact hown7
set_option maxRecDepth 100000 in
set_option maxHeartbeats 8000000 in
theorem shut_any {w : World} {bk b g bm cap lim : Nat} {L : List Nd} {mk : Nat} {hv : Value} {hs : List Int} {K : Int → Bool} (h : Kno w bk b g bm cap lim L mk hv hs K) :
    Calls Tryd.prog 44 #[.pointer (some ⟨bk, 0, none⟩)] w fun e w' => ∃ (v : Value) (l : List Int), e = .returned v ∧ w'.ownsRow w.heap.size 67 5 v l.length (cells (l.map (nd L))) ∧ (∀ x ∈ l, K x = true ∧ (nd L x).k = 7) ∧ (∀ x, K x = true → (nd L x).k = 7 → K (nd L x).c = true ∨ x ∈ l) ∧ l.length ≤ L.length ∧ Below w.heap.size w w' := by
  have c0 := h.kw.c0
  have c2 := h.kw.c2
  have hsm := h.ar.small
  have hnn := cnt_le L.length K
  obtain ⟨D, hown, hreg⟩ := h.kn
  obtain ⟨nk, hnk⟩ : ∃ nk, nk = cnt L.length K := ⟨_, rfl⟩
  rw [← hnk] at hown hnn
  have hlt := lt_of_heap h.box
  have HH := Lib.hid h
  have HRG := Lib.hid hreg
  obtain ⟨i0, hi0, hz0, hz1, hz2⟩ := info_parts Tryd.info67
  clear h hreg hnk
  go_enter Tryd.func44, Tryd.ntmps44
  go_wp2_with (first
    | (at_range; refine wpList_range_own _ rfl _ 73 rfl 3 74 lawI Tryd.underlying73 _ mk _ _ rfl hown ?_; intro w0 hrg0 hg0 hs0)
    | go_in)
  go_frame
  have hb0 : Below w.heap.size w w0 := ⟨hg0.os, hg0.tape, hg0.output, hg0.size, fun k hk => hg0.block k hk (by simp)⟩
  go_loopw [3, 4, 5, 6] (fun u3 _ _ _ wr => ∃ (left : Lit → Bool) (q : Nat) (l : List Int), Sl w wr L mk nk K D u3 left q l) (fun _ _ _ _ wr => wr.rangeLeft mk w.heap.size)
  case atStart => exact ⟨_, _, [], hrg0, World.ownsRow_nil _ _ _ _, hb0, by simp, fun x h1 _ => .inr (.inr (by rw [HRG.out.2 x (i64ok_of (hasB_iff.1 (HH.out.kh x h1)) hsm)]; exact h1)), fun _ h => h, by simpa using hown.size_le⟩
  case round =>
    obtain ⟨left, q, l, hSl⟩ := hrel
    have hrg := hSl.rg
    have HSL := Lib.hid hSl
    clear hSl
    go_wp2_with (first
      | (at_next; refine wpList_next_ranges _ rfl _ rfl 3 lawI (unitElem (H := Unit)) (Value.int .i64) (fun _ : Unit => .agg #[]) (fun key kl hkey => by obtain ⟨x, rfl, _⟩ := Maps.keyOf_int_inv Tryd.underlying3 hkey; exact ⟨x, rfl⟩) (fun v y hv => by obtain ⟨rfl, _⟩ := unitElem_inv hv; exact ⟨(), rfl⟩) mk w.heap.size nk D _ _ rfl hrg ?_ ?_)
      | go_in)
    · intro _ hl0
      go_wp2_with fail
      go_ret
      refine ⟨_, l, rfl, HSL.out.own, HSL.out.inn, fun x h1 h2 => ?_, by have := HSL.out.len; omega, HSL.out.bel⟩
      rcases HSL.out.all x h1 h2 with e | e | e
      · exact .inl e
      · exact .inr e
      · rw [hl0] at e; cases e
    · intro x c kl y w1 q1 hkey hlk hvv hat hrg1 hqlt hg1 hs1 hen
      obtain ⟨x', ex, rfl, hwx⟩ := Maps.keyOf_int_inv Tryd.underlying3 hkey
      cases ex
      have hKx : K x = true := by rw [← HRG.out.2 x (ok_i64 hwx)]; exact HSL.out.has _ hlk
      have hhx := HH.out.kh x hKx
      have hb1 : Below w.heap.size w w1 := HSL.out.bel.grown hg1 HSL.out.bel.size (fun j hj => by cases hj; exact Nat.le_refl _)
      have hown1 : w1.ownsRow w.heap.size 67 5 u3 l.length (cells (l.map (nd L))) := HSL.out.own.kept hg1 (by
        rcases HSL.out.own.2 with ⟨rfl, _⟩ | ⟨g', cap', cur', rfl, _, hgg, _⟩
        · exact .inl rfl
        · refine .inr (fun e => ?_)
          obtain ⟨es, clock, since, seen, c0', _, _, _, _, hr, _⟩ := hrg
          have e : some g' = some w.heap.size := e
          obtain rfl := Option.some.inj e
          rw [hgg] at hr; cases hr)
      have HG := Lib.hid (get_hasL hhx (HH.out.ar.below hb1))
      have k0 := (HH.out.kw.keep hb1).c0
      have HRN : Hid (∀ w2, Below w1.heap.size w1 w2 → w2.ranges Tryd.prog 3 (unitElem (H := Unit)) mk w.heap.size nk D (fun z => left z && !z.sameKey (.int .i64 x)) q1) := Lib.hid (fun w2 hb => hrg1.kept (grownOf hb) (by simp) (by simp))
      have HON : Hid (∀ w2, Below w1.heap.size w1 w2 → w2.ownsRow w.heap.size 67 5 u3 l.length (cells (l.map (nd L)))) := Lib.hid (fun w2 hb => ownsRow_same hown1 (fun k hk => hb.block k (hown1.lt k hk).2))
      have HB1 := Lib.hid hb1
      have hbk1 : bk < w1.heap.size := Nat.lt_of_lt_of_le hlt hb1.size
      have hle0 : rangeLeftLe w wr mk q := hrg.left_eq
      have HLE0 := Lib.hid hle0
      have hws := hb1.size
      have HWS := Lib.hid hws
      have hllen : l.length ≤ 65536 := by have := HSL.out.len; omega
      clear hrg hrg1 hg1 hs1 hb1 hown1 hvv hat hkey hlk hle0 hws
      by_cases k7 : (nd L x).k = 7
      · have hhc := (nd_has HH.out.ar.wf hhx).2.2
        have HKN : Hid (∀ w2, Below w1.heap.size w1 w2 → Calls Tryd.prog 16 #[.pointer (some ⟨bk, 0, none⟩), .int .i64 (nd L x).c] w2 fun e w' => e = .returned (.bool (K (nd L x).c)) ∧ Below w2.heap.size w2 w') := Lib.hid (fun w2 hb => knows_any _ (i64ok_of (hasB_iff.1 hhc) hsm) w2 (HH.out.kw.keep (HB1.out.trans (hb.mono HWS.out))))
        cases hKc : K (nd L x).c with
        | true =>
          rw [hKc] at HKN
          go_wp2_with (first
            | (go_at_call 47; refine HG.out.mono ?_; rintro e w2 ⟨rfl, hb2⟩; rw [k7]; have hb3 := fun o => hb2.alloc hb2.size o; have HB3 := Lib.hid hb3; have hs2 := hb2.size)
            | (go_at_call 16; refine (HKN.out _ (HB3.out _)).mono ?_; rintro e w3 ⟨rfl, hb4⟩; have hb5 := (HB3.out _).trans (hb4.mono (by simp; omega))))
          go_roundw
          case rel => exact ⟨_, q1, l, HSL.out.step hqlt (HB1.out.trans (hb5.mono HWS.out)) (.inl ⟨rfl, fun _ => hKc⟩) (HRN.out _ hb5) (HON.out _ hb5)⟩
          case measure => rw [(HRN.out _ hb5).left_eq, show wr.rangeLeft mk w.heap.size = q from HLE0.out]; omega
        | false =>
          rw [hKc] at HKN
          go_wp2_with (first
            | (go_at_call 47; refine HG.out.mono ?_; rintro e w2 ⟨rfl, hb2⟩; rw [k7]; have hb3 := fun o => hb2.alloc hb2.size o; have HB3 := Lib.hid hb3; have hs2 := hb2.size)
            | (go_at_call 16; refine (HKN.out _ (HB3.out _)).mono ?_; rintro e w3 ⟨rfl, hb4⟩; have hb5 := (HB3.out _).trans (hb4.mono (by simp; omega)); have hb5' := hb5; have hnb : w3.heap[w2.heap.size]? = _ := (hb4.block w2.heap.size (by simp)).trans (heap_alloc_new w2 _); have hn0 := cell_of_row w3 w2.heap.size 0 _ _ _ hnb; have hn1 := cell_of_row w3 w2.heap.size 1 _ _ _ hnb; have hn2 := cell_of_row w3 w2.heap.size 2 _ _ _ hnb; have hn3 := cell_of_row w3 w2.heap.size 3 _ _ _ hnb; have hn4 := cell_of_row w3 w2.heap.size 4 _ _ _ hnb; simp at hn0 hn1 hn2 hn3 hn4)
            | (at_builtin; refine wpList_append_lies _ rfl _ _ 22 rfl w.heap.size 67 i0 _ 5 40 Tryd.underlying22 hi0 hz0 hz1 hz2 rfl (by decide) _ _ _ rfl ((HON.out _ hb5').alloc _) ⟨w3.heap.size, 0, none⟩ 1 1 (vals ⟨7, (nd L x).n, (nd L x).a, (nd L x).b, (nd L x).c⟩) rfl rfl ?c1 ?c2 (by decide) ?c3 ?c4 ?c5 _ rfl ?_))
          case c1 =>
            intro j u hj
            have hblk : (w3.alloc (.cells (vals ⟨7, (nd L x).n, (nd L x).a, (nd L x).b, (nd L x).c⟩).toArray 67)).heap[w3.heap.size]? = some (.cells (vals ⟨7, (nd L x).n, (nd L x).a, (nd L x).b, (nd L x).c⟩).toArray 67 (0, 0)) := heap_alloc_new _ _
            exact World.news_of_block hblk j u hj
          case c2 => intro u hu; simp [vals] at hu; rcases hu with rfl | rfl | rfl | rfl | rfl <;> rfl
          case c3 => unfold maxLen; omega
          case c4 => omega
          case c5 => have := HWS.out; have := hb5'.size; simp; omega
          intro g2 cap2 w7 hown7 hgr7 hat7 hlt7
          have hb6 := hb5'.alloc hb5'.size (.cells #[.int .i64 7, .int .u64 (nd L x).n, .int .i64 (nd L x).a, .int .i64 (nd L x).b, .int .i64 (nd L x).c] 67)
          have HFN := Lib.hid (HSL.out.append hqlt (HB1.out.trans (hb6.mono HWS.out)) (Nat.le_trans HWS.out hb6.size) hKx k7 (HRN.out _ hb6) (HON.out _ hb6) hown7 hgr7)
          clear hown7 hgr7 hat7 hn0 hn1 hn2 hn3 hn4 hnb hb5 hb5' hb6
          go_wp2_with fail
          go_roundw
          case rel => exact ⟨_, q1, l ++ [x], HFN.out.1⟩
          case measure => rw [HFN.out.1.rg.left_eq, show wr.rangeLeft mk w.heap.size = q from HLE0.out]; omega
      · go_wp2_with (first
          | (go_at_call 47; refine HG.out.mono ?_; rintro e w2 ⟨rfl, hb2⟩; have hb3 := fun o => hb2.alloc hb2.size o; have HB3 := Lib.hid hb3))
        go_roundw
        case rel => exact ⟨_, q1, l, HSL.out.step hqlt (HB1.out.trans ((HB3.out _).mono HWS.out)) (.inl ⟨rfl, fun e => absurd e k7⟩) (HRN.out _ (HB3.out _)) (HON.out _ (HB3.out _))⟩
        case measure => rw [(HRN.out _ (HB3.out _)).left_eq, show wr.rangeLeft mk w.heap.size = q from HLE0.out]; omega
end Go.Proofs.YtemigefkkjgehaaDoor
