import Derived.Test.YtlckajnbmkkpeaaDoorQe
import Derived.Test.YtlckajnbmkkpeaaDoorVz
import Derived.Maps.OwnSet
import Derived.Lib.OwnKind
import Derived.Lib.Hide
import Derived.StillTailTactics

/- Layer 3: the two maps of a search in memory: what is known, and what was asked. -/
namespace Go.Proofs.YtlckajnbmkkpeaaDoor
open Go.RowKit Go.Maps

theorem lawI : Keyed Tryd.prog 3 := int_keyed Tryd.underlying3
theorem keyI {x : Int} (h : i64ok x) : keyOf Tryd.prog 3 (.int .i64 x) = some (.int .i64 x) := by
  have := wf_i64 h
  simp [keyOf, mapKey, Tryd.underlying3, this]
theorem zeroU (w : World) : (zeroValue 74).run Tryd.prog w = .ok (.agg #[]) w := by kernel_rfl
theorem zeroP (w : World) : (zeroValue 87).run Tryd.prog w = .ok (.pointer none) w := by kernel_rfl

/-! ### A set of ints. -/
def RegU (D : DataW Unit) (K : Int → Bool) : Prop := IsMap D ∧ ∀ x : Int, i64ok x → Maps.has D (.int .i64 x) = K x
theorem RegU.empty : RegU (.map []) (fun _ => false) := ⟨isMap_empty, fun _ _ => rfl⟩
theorem RegU.put {D : DataW Unit} {K : Int → Bool} (h : RegU D K) {y : Int} (hy : i64ok y) (v : DataW Unit) : RegU (D.put (.int .i64 y) v) (fun x => if x = y then true else K x) := by
  refine ⟨h.1.put _ _, fun x hx => ?_⟩
  by_cases hxy : x = y
  · subst hxy
    simp only [if_true]
    exact has_put_same h.1 (lawI.key (keyI hx)) _
  · have hne : (Lit.int .i64 x) ≠ Lit.int .i64 y := fun e => hxy (by injection e)
    simp only [if_neg hxy]
    rw [has_put_other hne]
    exact h.2 x hx
def MapU (w : World) (m n : Nat) (K : Int → Bool) : Prop := ∃ D : DataW Unit, w.ownsMap Tryd.prog 3 (unitElem (H := Unit)) m n D ∧ RegU D K
theorem MapU.lt {w : World} {m n : Nat} {K : Int → Bool} (h : MapU w m n K) : m < w.heap.size := by obtain ⟨D, hD, _⟩ := h; exact hD.lt
theorem MapU.obj {w : World} {m n : Nat} {K : Int → Bool} (h : MapU w m n K) : ∃ es c, w.heap[m]? = some (.map es c) := by obtain ⟨D, ⟨es, c, hb, _⟩, _⟩ := h; exact ⟨es, c, hb⟩
theorem MapU.keep {w w' : World} {m n : Nat} {K : Int → Bool} (h : MapU w m n K) (hk : w'.heap[m]? = w.heap[m]?) : MapU w' m n K := by
  obtain ⟨D, ⟨es, c, hb, rest⟩, hr⟩ := h
  exact ⟨D, ⟨es, c, hk.trans hb, rest⟩, hr⟩
theorem MapU.look {w : World} {m n : Nat} {K : Int → Bool} (h : MapU w m n K) {x : Int} (hx : i64ok x) :
    (Instr.lookup 73 (.map (some m)) (.int .i64 x) true).run Tryd.prog w = .ok (.tuple #[.agg #[], .bool (K x)]) w := by
  obtain ⟨D, hD, hR⟩ := h
  obtain ⟨v, ps, hrun, hv⟩ := hD.look_ok lawI Tryd.underlying73 (zeroU w) unitElem_mk (keyI hx)
  obtain ⟨rfl, _⟩ := unitElem_inv hv
  rw [hR.2 x hx] at hrun
  exact hrun
theorem MapU.store {w : World} {m n : Nat} {K : Int → Bool} (h : MapU w m n K) (hn : n < maxLen) {x : Int} (hx : i64ok x) :
    ∃ w', (Instr.mapUpdate 73 (.map (some m)) (.int .i64 x) (.agg #[])).run Tryd.prog w = .ok () w' ∧ MapU w' m (n + 1) (fun y => if y = x then true else K y) ∧ w.mapTurned w' m := by
  obtain ⟨D, hD, hR⟩ := h
  obtain ⟨w', h1, h2, h3⟩ := hD.store lawI Tryd.underlying73 hn (keyI hx) (unitElem_mk (H := Unit))
  exact ⟨w', h1, ⟨_, h2, hR.put hx _⟩, h3⟩
theorem MapU.made (w : World) : MapU (w.alloc (.map #[] 0)) w.heap.size 0 (fun _ => false) := ⟨_, World.ownsMap_made w Tryd.prog 3 (unitElem (H := Unit)), RegU.empty⟩

/-! ### A map from ints to pointers. -/
def pv (o : Option Nat) : Value := .pointer (o.map fun a => ⟨a, 0, none⟩)
def pzo (o : Option Nat) : Int := match o with
  | some a => a
  | none => -1
theorem pzo_inj {o p : Option Nat} (h : pzo o = pzo p) : o = p := by
  cases o <;> cases p <;> simp only [pzo] at h
  · rfl
  · omega
  · omega
  · obtain rfl : _ = _ := Int.ofNat.inj h; rfl
def ptrElem : Value → Option (DataW Unit × List MemPlace)
  | .pointer none => some (.lit (.int .i64 (-1)), [])
  | .pointer (some ⟨a, 0, none⟩) => some (.lit (.int .i64 a), [])
  | _ => none
theorem ptrElem_mk (o : Option Nat) : ptrElem (pv o) = some (.lit (.int .i64 (pzo o)), []) := by cases o <;> rfl
theorem ptrElem_inv {v : Value} {z : DataW Unit × List MemPlace} (h : ptrElem v = some z) : ∃ o, v = pv o ∧ z = (.lit (.int .i64 (pzo o)), []) := by
  unfold ptrElem at h
  split at h
  · exact ⟨none, rfl, (Option.some.inj h).symm⟩
  · exact ⟨some _, rfl, (Option.some.inj h).symm⟩
  · cases h
def RegP (D : DataW Unit) (f : Int → Option Nat) : Prop := IsMap D ∧ ∀ x : Int, i64ok x → D.atKey (.int .i64 x) (.lit (.int .i64 (-1))) = .lit (.int .i64 (pzo (f x)))
theorem RegP.empty : RegP (.map []) (fun _ => none) := ⟨isMap_empty, fun _ _ => rfl⟩
theorem RegP.put {D : DataW Unit} {f : Int → Option Nat} (h : RegP D f) {y : Int} (hy : i64ok y) (a : Nat) : RegP (D.put (.int .i64 y) (.lit (.int .i64 (pzo (some a))))) (fun x => if x = y then some a else f x) := by
  refine ⟨h.1.put _ _, fun x hx => ?_⟩
  by_cases hxy : x = y
  · subst hxy
    simp only [if_true]
    exact atKey_put_same h.1 (lawI.key (keyI hx)) _ _
  · have hne : (Lit.int .i64 x) ≠ Lit.int .i64 y := fun e => hxy (by injection e)
    simp only [if_neg hxy]
    rw [atKey_put_other hne]
    exact h.2 x hx
def MapP (w : World) (m n : Nat) (f : Int → Option Nat) : Prop := ∃ D : DataW Unit, w.ownsMap Tryd.prog 3 ptrElem m n D ∧ RegP D f
theorem MapP.lt {w : World} {m n : Nat} {f : Int → Option Nat} (h : MapP w m n f) : m < w.heap.size := by obtain ⟨D, hD, _⟩ := h; exact hD.lt
theorem MapP.obj {w : World} {m n : Nat} {f : Int → Option Nat} (h : MapP w m n f) : ∃ es c, w.heap[m]? = some (.map es c) := by obtain ⟨D, ⟨es, c, hb, _⟩, _⟩ := h; exact ⟨es, c, hb⟩
theorem MapP.keep {w w' : World} {m n : Nat} {f : Int → Option Nat} (h : MapP w m n f) (hk : w'.heap[m]? = w.heap[m]?) : MapP w' m n f := by
  obtain ⟨D, ⟨es, c, hb, rest⟩, hr⟩ := h
  exact ⟨D, ⟨es, c, hk.trans hb, rest⟩, hr⟩
theorem MapP.look {w : World} {m n : Nat} {f : Int → Option Nat} (h : MapP w m n f) {x : Int} (hx : i64ok x) :
    (Instr.lookup 112 (.map (some m)) (.int .i64 x) false).run Tryd.prog w = .ok (pv (f x)) w := by
  obtain ⟨D, hD, hR⟩ := h
  obtain ⟨v, ps, hrun, hv⟩ := hD.lookup lawI Tryd.underlying112 (zeroP w) (ptrElem_mk none) (keyI hx)
  obtain ⟨o, rfl, ho⟩ := ptrElem_inv hv
  have hat := hR.2 x hx
  have e := congrArg Prod.fst ho
  simp only at e
  rw [show pzo none = -1 from rfl, hat] at e
  simp only [DataW.lit.injEq, Lit.int.injEq, true_and] at e
  rw [pzo_inj e]
  exact hrun
theorem MapP.store {w : World} {m n : Nat} {f : Int → Option Nat} (h : MapP w m n f) (hn : n < maxLen) {x : Int} (hx : i64ok x) (a : Nat) :
    ∃ w', (Instr.mapUpdate 112 (.map (some m)) (.int .i64 x) (.pointer (some ⟨a, 0, none⟩))).run Tryd.prog w = .ok () w' ∧ MapP w' m (n + 1) (fun y => if y = x then some a else f y) ∧ w.mapTurned w' m := by
  obtain ⟨D, hD, hR⟩ := h
  obtain ⟨w', h1, h2, h3⟩ := hD.store lawI Tryd.underlying112 hn (keyI hx) (ptrElem_mk (some a))
  exact ⟨w', h1, ⟨_, h2, hR.put hx a⟩, h3⟩
theorem MapP.made (w : World) : MapP (w.alloc (.map #[] 0)) w.heap.size 0 (fun _ => none) := ⟨_, World.ownsMap_made w Tryd.prog 3 ptrElem, RegP.empty⟩
end Go.Proofs.YtlckajnbmkkpeaaDoor

/- Layer 3: a search in memory: what shows which state, and what stays while it goes on. -/
namespace Go.Proofs.YtlckajnbmkkpeaaDoor
open Go.RowKit Go.Maps

/-! ### How many. -/
def cnt (n : Nat) (K : Int → Bool) : Nat := ((List.range n).map fun i => if K (i : Nat) = true then 1 else 0).sum
theorem cnt_le (n : Nat) (K : Int → Bool) : cnt n K ≤ n := by
  have : ∀ l : List Nat, (l.map fun i => if K (i : Nat) = true then 1 else 0).sum ≤ l.length := by
    intro l
    induction l with
    | nil => simp
    | cons i l ih =>
      have : (if K (i : Nat) = true then 1 else 0) ≤ 1 := by split <;> omega
      simp only [List.map_cons, List.sum_cons, List.length_cons]; omega
  have h := this (List.range n)
  rw [List.length_range] at h
  exact h
theorem cnt_add {n : Nat} {K : Int → Bool} {r : Int} (hr : hasB n r = true) (hk : K r = false) : cnt n (fun y => if y = r then true else K y) = cnt n K + 1 := by
  obtain ⟨h0, h1⟩ := hasB_iff.1 hr
  obtain ⟨j, rfl⟩ : ∃ j : Nat, r = j := ⟨r.toNat, by omega⟩
  have := sum_upd (f := fun i => if (if ((i : Nat) : Int) = j then true else K i) = true then 1 else 0) (g := fun i => if K (i : Nat) = true then 1 else 0) (j := j) (fun i hi => by
    rw [if_neg (show ¬ ((i : Int) = j) by omega)]) n (by omega)
  simp only [if_true, hk] at this
  unfold cnt
  simp at this ⊢
  omega

/-! ### Values. -/
structure Gh where
  M : Nat → Prop
  ab : Int → Option Nat
  wv : Int → Value
def ptr (a : Nat) : Value := .pointer (some ⟨a, 0, none⟩)
def reachV (a : Nat) : Value := .func (.func 59) #[.pointer (some ⟨a, 0, none⟩)] #[]
def openV (p q : Nat) : Value := .func (.func 62) #[] #[.pointer (some ⟨p, 0, none⟩), .pointer (some ⟨q, 0, none⟩)]
def whenV (p q r i : Nat) : Value := .func (.func 79) #[] #[.pointer (some ⟨p, 0, none⟩), .pointer (some ⟨q, 0, none⟩), .pointer (some ⟨r, 0, none⟩), .pointer (some ⟨i, 0, none⟩)]
def Fx (w : World) (G : Gh) (k : Nat) (o : Obj) : Prop := w.heap[k]? = some o ∧ ¬ G.M k
def ThnV (w : World) (G : Gh) (bs : Nat) (v : Value) : Thn → Prop
  | .reach r => ∃ a, G.ab r = some a ∧ v = reachV a
  | .learn r => ∃ p q k n a b, v = openV p q ∧ Fx w G p (.cells #[.pointer (some ⟨bs, 0, none⟩)] 88 (0, 0)) ∧ Fx w G q (.cells #[.int .i64 k, .int .u64 n, .int .i64 a, .int .i64 b, .int .i64 r] 67 (0, 0))
def RefsV (w : World) (G : Gh) (v : Value) (rs : List Int) : Prop :=
  ∃ k o c, v = .slice (some ⟨k, o, none⟩) rs.length c ∧ rs.length ≤ c ∧ k < w.heap.size ∧ ¬ G.M k ∧ ∀ i, i < rs.length → w.cell? ⟨k, o + i, none⟩ = some (.int .i64 (rs.getD i 0))
def CloV (w : World) (G : Gh) (bs : Nat) (v : Value) (c : Clo) : Prop :=
  ∃ p q r i tv rv all j, v = whenV p q r i ∧ Fx w G p (.cells #[.pointer (some ⟨bs, 0, none⟩)] 88 (0, 0)) ∧ Fx w G q (.cells #[tv] 1 (0, 0)) ∧ ThnV w G bs tv c.1 ∧
    Fx w G r (.cells #[rv] 23 (0, 0)) ∧ RefsV w G rv all ∧ Fx w G i (.cells #[.int .i64 (j : Nat)] 3 (0, 0)) ∧ j < all.length ∧ all.length ≤ 3 ∧ all.drop (j + 1) = c.2

/-- What stays while a search goes on. -/
structure Fr (s : Sx) (w w' : World) (G G' : Gh) : Prop where
  os : w'.os = w.os
  tape : w'.tape = w.tape
  output : w'.output = w.output
  size : w.heap.size ≤ w'.heap.size
  kept : ∀ k, k < w.heap.size → ¬ G.M k → w'.heap[k]? = w.heap[k]?
  at_ : ∀ k, G'.M k → G.M k ∨ w.heap.size ≤ k
  ab : ∀ r a, G.ab r = some a → G'.ab r = some a
  tw : ∀ r, s.der r = true → G'.wv r = G.wv r
theorem Fr.below {s : Sx} {w w' : World} {G : Gh} (h : Below w.heap.size w w') : Fr s w w' G G := ⟨h.os, h.tape, h.output, h.size, fun k hk _ => h.block k hk, fun _ h => .inl h, fun _ _ h => h, fun _ _ => rfl⟩
theorem Fr.refl (s : Sx) (w : World) (G : Gh) : Fr s w w G G := Fr.below (Below.refl _ _)
theorem Fr.trans {s s1 : Sx} {w w1 w2 : World} {G G1 G2 : Gh} (h : Fr s w w1 G G1) (hl : Le s s1) (h' : Fr s1 w1 w2 G1 G2) : Fr s w w2 G G2 := by
  have hs := h.size
  refine ⟨h'.os.trans h.os, h'.tape.trans h.tape, h'.output.trans h.output, Nat.le_trans h.size h'.size, fun k hk hM => ?_, fun k hk => ?_, fun r a ha => h'.ab r a (h.ab r a ha), fun r hr => ?_⟩
  · rw [h'.kept k (by omega) (fun e => by rcases h.at_ k e with e' | e'; exact hM e'; omega)]
    exact h.kept k hk hM
  · rcases h'.at_ k hk with e | e
    · exact h.at_ k e
    · exact .inr (by omega)
  · rw [h'.tw r (hl.d hr)]; exact h.tw r hr
theorem Fr.not {s : Sx} {w w' : World} {G G' : Gh} (h : Fr s w w' G G') {k : Nat} (hk : k < w.heap.size) (hM : ¬ G.M k) : ¬ G'.M k := fun e => by
  rcases h.at_ k e with e' | e'
  · exact hM e'
  · omega
section
variable {s : Sx} {w w' : World} {G G' : Gh} {bs : Nat}
theorem Fx.fr {k : Nat} {o : Obj} (h : Fx w G k o) (hf : Fr s w w' G G') : Fx w' G' k o := ⟨(hf.kept k (lt_of_heap h.1) h.2).trans h.1, hf.not (lt_of_heap h.1) h.2⟩
theorem ThnV.fr {v : Value} {t : Thn} (h : ThnV w G bs v t) (hf : Fr s w w' G G') : ThnV w' G' bs v t := by
  cases t with
  | reach r => obtain ⟨a, h1, h2⟩ := h; exact ⟨a, hf.ab _ _ h1, h2⟩
  | learn r => obtain ⟨p, q, k, n, a, b, h1, h2, h3⟩ := h; exact ⟨p, q, k, n, a, b, h1, h2.fr hf, h3.fr hf⟩
theorem RefsV.fr {v : Value} {rs : List Int} (h : RefsV w G v rs) (hf : Fr s w w' G G') : RefsV w' G' v rs := by
  obtain ⟨k, o, c, h1, h2, h3, h4, h5⟩ := h
  exact ⟨k, o, c, h1, h2, Nat.lt_of_lt_of_le h3 hf.size, hf.not h3 h4, fun i hi => by rw [World.cell?_of_block (hf.kept k h3 h4)]; exact h5 i hi⟩
theorem CloV.fr {v : Value} {c : Clo} (h : CloV w G bs v c) (hf : Fr s w w' G G') : CloV w' G' bs v c := by
  obtain ⟨p, q, r, i, tv, rv, all, j, h1, h2, h3, h4, h5, h6, h7, h8⟩ := h
  exact ⟨p, q, r, i, tv, rv, all, j, h1, h2.fr hf, h3.fr hf, h4.fr hf, h5.fr hf, h6.fr hf, h7.fr hf, h8⟩
end
theorem ownsRow_same {w w' : World} {B e z n : Nat} {v : Value} {xs : List Value} (h : w.ownsRow B e z v n xs) (hk : ∀ k, v.ownBlock = some k → w'.heap[k]? = w.heap[k]?) : w'.ownsRow B e z v n xs := by
  refine ⟨h.1, ?_⟩
  rcases h.2 with hn | ⟨g, cap, cur, rfl, hb, hg, rest⟩
  · exact .inl hn
  · exact .inr ⟨g, cap, cur, rfl, hb, (hk g rfl).trans hg, rest⟩

/-- The answer of a ref, with what waits for it. -/
def AnsV (w : World) (G : Gh) (bs : Nat) (r : Int) (d : Bool) (ws : List Clo) : Prop :=
  ∃ a vals, G.ab r = some a ∧ G.M a ∧ w.heap[a]? = some (.cells #[.bool d, G.wv r] 86 (0, 0)) ∧ w.ownsRow 0 1 1 (G.wv r) ws.length vals ∧ (∀ k, (G.wv r).ownBlock = some k → G.M k) ∧
    ∀ (i : Nat) (c : Clo), ws[i]? = some c → ∃ v, vals[i]? = some v ∧ CloV w G bs v c
structure Cx where
  b : Nat
  g : Nat
  bm : Nat
  cap : Nat
  lim : Nat
  L : List Nd
  bk : Nat
  mq : Nat
  bs : Nat
  ma : Nat
  hv : Value
/-- Memory shows a state of a search. -/
structure Sst (c : Cx) (w : World) (G : Gh) (s : Sx) : Prop where
  ar : Ar w c.b c.g c.bm c.cap c.lim c.L
  arM : ¬ G.M c.b ∧ ¬ G.M c.g ∧ ¬ G.M c.bm
  kb : Fx w G c.bk (.cells #[.pointer (some ⟨c.b, 0, none⟩), c.hv, .map (some c.mq)] 76 (0, 0))
  sb : Fx w G c.bs (.cells #[.pointer (some ⟨c.bk, 0, none⟩), .map (some c.ma)] 114 (0, 0))
  kn : MapU w c.mq (cnt c.L.length s.K) s.K
  asd : MapP w c.ma (cnt c.L.length fun r => (s.A r).isSome) G.ab
  kM : G.M c.mq
  aM : G.M c.ma
  ne : c.mq ≠ c.ma
  ok : Ok c.L s
  dom : ∀ r, (G.ab r).isSome = (s.A r).isSome
  an : ∀ r d ws, s.A r = some (d, ws) → AnsV w G c.bs r d ws
  inj : ∀ r r' a, G.ab r = some a → G.ab r' = some a → r = r'
  inj2 : ∀ r r' k, (s.A r).isSome = true → (s.A r').isSome = true → (G.wv r).ownBlock = some k → (G.wv r').ownBlock = some k → r = r'
  ph : phi c.L s ≤ 600000
  mlt : ∀ k, G.M k → k < w.heap.size
theorem Sst.keep {c : Cx} {w w' : World} {G : Gh} {s : Sx} (h : Sst c w G s) (hb : Below w.heap.size w w') : Sst c w' G s := by
  have hf : Fr s w w' G G := Fr.below hb
  refine ⟨h.ar.below hb, h.arM, h.kb.fr hf, h.sb.fr hf, h.kn.keep (hb.block _ h.kn.lt), h.asd.keep (hb.block _ h.asd.lt), h.kM, h.aM, h.ne, h.ok, h.dom, fun r d ws hr => ?_, h.inj, h.inj2, h.ph, fun k hk => Nat.lt_of_lt_of_le (h.mlt k hk) hb.size⟩
  obtain ⟨a, vals, h1, h2, h3, h4, h5, h6⟩ := h.an r d ws hr
  exact ⟨a, vals, h1, h2, (hb.block _ (lt_of_heap h3)).trans h3, ownsRow_same h4 (fun k hk => hb.block k (h4.lt k hk).2), h5, fun i c hc => by
    obtain ⟨v, e1, e2⟩ := h6 i c hc
    exact ⟨v, e1, e2.fr hf⟩⟩
theorem Sst.ans {c : Cx} {w : World} {G : Gh} {s : Sx} (h : Sst c w G s) {r : Int} {a : Nat} (ha : G.ab r = some a) : ∃ d ws, s.A r = some (d, ws) ∧ w.heap[a]? = some (.cells #[.bool d, G.wv r] 86 (0, 0)) ∧ AnsV w G c.bs r d ws := by
  have hd := h.dom r
  rw [ha] at hd
  cases e : s.A r with
  | none => rw [e] at hd; simp at hd
  | some x =>
    obtain ⟨d, ws⟩ := x
    have han := h.an r d ws e
    obtain ⟨a', vals, h1, h2, h3, _⟩ := han
    rw [ha] at h1
    obtain rfl := Option.some.inj h1
    exact ⟨d, ws, rfl, h3, h.an r d ws e⟩

/-! ### The steps. -/
section
variable {c : Cx} {w : World} {G : Gh} {s : Sx} {r : Int}
/-- A ref is asked for: a new answer. -/
theorem Sst.ask (h : Sst c w G s) (hr : hasB c.L.length r = true) (hA : s.A r = none) {b : Bool} {a : Nat} {w1 w2 : World} (hb : Below w.heap.size w w1) (ha : w.heap.size ≤ a) (h1 : w1.heap[a]? = some (.cells #[.bool b, .slice none 0 0] 86 (0, 0)))
    (hm : MapP w2 c.ma (cnt c.L.length (fun r => (s.A r).isSome) + 1) (fun y => if y = r then some a else G.ab y)) (ht : w1.mapTurned w2 c.ma) :
    ∃ G', G'.ab r = some a ∧ Sst c w2 G' (s.put r (b, [])) ∧ Fr s w w2 G G' := by
  have hg := ht.grown
  have hs1 := hb.size
  have hs2 := hg.size
  have hG : G.ab r = none := by
    have := h.dom r
    rw [hA] at this
    cases e : G.ab r with
    | none => rfl
    | some x => rw [e] at this; cases this
  have hma := h.asd.lt
  have old : ∀ k, k < w.heap.size → k ≠ c.ma → w2.heap[k]? = w.heap[k]? := fun k hk hne => (hg.block k (by omega) (fun e => hne (Option.some.inj e))).trans (hb.block k hk)
  refine ⟨⟨fun k => G.M k ∨ k = a, fun y => if y = r then some a else G.ab y, fun y => if y = r then .slice none 0 0 else G.wv y⟩, by simp, ?_⟩
  have hf : Fr s w w2 G ⟨fun k => G.M k ∨ k = a, fun y => if y = r then some a else G.ab y, fun y => if y = r then .slice none 0 0 else G.wv y⟩ := by
    refine ⟨hg.os.trans hb.os, hg.tape.trans hb.tape, hg.output.trans hb.output, by omega, fun k hk hM => old k hk (fun e => hM (e ▸ h.aM)), fun k hk => ?_, fun y x hy => ?_, fun y hy => ?_⟩
    · rcases hk with e | rfl
      · exact .inl e
      · exact .inr ha
    · show (if y = r then some a else G.ab y) = some x
      rw [if_neg (fun e => by rw [e, hG] at hy; cases hy)]; exact hy
    · show (if y = r then _ else G.wv y) = G.wv y
      rw [if_neg (fun e => by rw [e] at hy; unfold Sx.der at hy; rw [hA] at hy; cases hy)]
  have hk0 : ∀ {k : Nat}, ¬ G.M k → k < w.heap.size → ¬ (G.M k ∨ k = a) := fun hM hk e => by
    rcases e with e | e
    · exact hM e
    · omega
  obtain ⟨m1, m2, m3⟩ := h.arM
  have hne : ∀ {k : Nat}, ¬ G.M k → k ≠ c.ma := fun hM e => hM (e ▸ h.aM)
  refine ⟨⟨h.ar.keep (old _ h.ar.blt (hne m1)) (old _ h.ar.glt (hne m2)) (old _ h.ar.mlt (hne m3)), ⟨hk0 m1 h.ar.blt, hk0 m2 h.ar.glt, hk0 m3 h.ar.mlt⟩, h.kb.fr hf, h.sb.fr hf, h.kn.keep (old _ h.kn.lt h.ne), ?_, .inl h.kM, .inl h.aM, h.ne, (fine_ask h.ok hr hA b).1, fun y => ?_, fun y d ws hy => ?_, fun y y' x hy hy' => ?_, fun y y' k hy hy' e e' => ?_, ?_, fun k hk => ?_⟩, hf⟩
  · have e1 : cnt c.L.length (fun y => ((s.put r (b, [])).A y).isSome) = cnt c.L.length (fun r => (s.A r).isSome) + 1 := by
      rw [← cnt_add (K := fun r => (s.A r).isSome) hr (by rw [hA]; rfl)]
      congr 1
      funext y
      by_cases e : y = r
      · subst e; rw [put_A]; simp
      · rw [put_other e, if_neg e]
    rw [e1]; exact hm
  · show (if y = r then some a else G.ab y).isSome = _
    by_cases e : y = r
    · subst e; rw [put_A]; simp
    · rw [put_other e, if_neg e]; exact h.dom y
  · by_cases e : y = r
    · subst e
      rw [put_A] at hy
      obtain ⟨rfl, rfl⟩ : b = d ∧ [] = ws := by simpa using hy
      refine ⟨a, [], by simp, .inr rfl, ?_, ?_, fun k hk => ?_, fun i c hc => by simp at hc⟩
      · have : a ≠ c.ma := fun e => by omega
        rw [hg.block a (lt_of_heap h1) (fun e => this (Option.some.inj e))]
        simp only [if_true]; exact h1
      · simp only [if_true]; exact World.ownsRow_nil _ _ _ _
      · simp only [if_true] at hk; cases hk
    · rw [put_other e] at hy
      obtain ⟨a', vals, g1, g2, g3, g4, g5, g6⟩ := h.an y d ws hy
      obtain ⟨es, cc, hob⟩ := h.asd.obj
      have na : a' ≠ c.ma := fun e => by rw [e, hob] at g3; cases g3
      refine ⟨a', vals, by simp only [if_neg e]; exact g1, .inl g2, ?_, ?_, fun k hk => ?_, fun i cl hc => ?_⟩
      · simp only [if_neg e]; rw [old _ (lt_of_heap g3) na]; exact g3
      · simp only [if_neg e]
        refine ownsRow_same g4 (fun k hk => old k (g4.lt k hk).2 (fun e => ?_))
        obtain ⟨c', fz, hc⟩ := Lib.ownsRow_kind g4 k hk
        rw [e, hob] at hc; cases hc
      · simp only [if_neg e] at hk; exact .inl (g5 k hk)
      · obtain ⟨v, e1, e2⟩ := g6 i cl hc
        exact ⟨v, e1, e2.fr hf⟩
  · simp only at hy hy'
    have key : ∀ {z}, G.ab z = some a → False := fun hz => by
      obtain ⟨_, _, _, e, _⟩ := h.ans hz
      have := lt_of_heap e; omega
    by_cases e : y = r <;> by_cases e' : y' = r
    · rw [e, e']
    · rw [if_pos e] at hy
      rw [if_neg e'] at hy'
      obtain rfl := Option.some.inj hy
      exact (key hy').elim
    · rw [if_neg e] at hy
      rw [if_pos e'] at hy'
      obtain rfl := Option.some.inj hy'
      exact (key hy).elim
    · rw [if_neg e] at hy
      rw [if_neg e'] at hy'
      exact h.inj _ _ _ hy hy'
  · simp only at e e'
    by_cases x : y = r
    · rw [if_pos x] at e; cases e
    · by_cases x' : y' = r
      · rw [if_pos x'] at e'; cases e'
      · rw [if_neg x] at e
        rw [if_neg x'] at e'
        rw [put_other x] at hy
        rw [put_other x'] at hy'
        exact h.inj2 _ _ _ hy hy' e e'
  · have := (fine_ask h.ok hr hA b).2.2
    have := h.ph
    omega
  · rcases hk with e | rfl
    · have := h.mlt k e; omega
    · have := lt_of_heap h1; omega
end
end Go.Proofs.YtlckajnbmkkpeaaDoor

/- Layer 3: a search in memory: the steps that reach, wait, and make known. -/
namespace Go.Proofs.YtlckajnbmkkpeaaDoor
open Go.RowKit Go.Maps

theorem setCell_two {w : World} {b : Nat} {u v0 v1 : Value} {t : TypeId} (h : w.heap[b]? = some (.cells #[v0, v1] t (0, 0))) : (w.setCell ⟨b, 0, none⟩ u).heap[b]? = some (.cells #[u, v1] t (0, 0)) := by
  have hlt := lt_of_heap h
  simp [World.setCell, h, Array.getElem?_modify]
theorem setCell_two1 {w : World} {b : Nat} {u v0 v1 : Value} {t : TypeId} (h : w.heap[b]? = some (.cells #[v0, v1] t (0, 0))) : (w.setCell ⟨b, 1, none⟩ u).heap[b]? = some (.cells #[v0, u] t (0, 0)) := by
  have hlt := lt_of_heap h
  simp [World.setCell, h, Array.getElem?_modify]

section
variable {c : Cx} {w : World} {G : Gh} {s : Sx} {r : Int}
/-- Blocks that are no answers, no rows and no maps. -/
theorem Sst.row_ne (h : Sst c w G s) {y : Int} {d : Bool} {ws : List Clo} (hy : s.A y = some (d, ws)) {k : Nat} (hk : (G.wv y).ownBlock = some k) {a : Nat} {cs : Array Value} {t : TypeId} {z : Nat × Nat} (ha : w.heap[a]? = some (.cells cs t z)) (ht : t ≠ 1) : k ≠ a := fun e => by
  obtain ⟨a', vals, g1, g2, g3, g4, g5, g6⟩ := h.an y d ws hy
  obtain ⟨c', fz, hc⟩ := Lib.ownsRow_kind g4 k hk
  rw [e, ha] at hc
  simp only [Option.some.injEq, Obj.cells.injEq] at hc
  exact ht hc.2.1
/-- A term is reached. -/
theorem Sst.reach (h : Sst c w G s) {a : Nat} {ws : List Clo} (ha : G.ab r = some a) (hA : s.A r = some (false, ws)) :
    Sst c (w.setCell ⟨a, 0, none⟩ (.bool true)) G (s.put r (true, ws)) ∧ Fr s w (w.setCell ⟨a, 0, none⟩ (.bool true)) G G := by
  obtain ⟨a', vals, g1, g2, g3, g4, g5, g6⟩ := h.an r false ws hA
  obtain rfl : a = a' := by rw [ha] at g1; exact Option.some.inj g1
  have oth : ∀ {k : Nat}, k ≠ a → (w.setCell ⟨a, 0, none⟩ (.bool true)).heap[k]? = w.heap[k]? := fun hk => heap_setCell_other _ _ _ _ (by simpa using hk)
  have hf : Fr s w (w.setCell ⟨a, 0, none⟩ (.bool true)) G G := ⟨rfl, rfl, rfl, by simp, fun k _ hM => oth (fun e => hM (e ▸ g2)), fun _ h => .inl h, fun _ _ h => h, fun _ _ => rfl⟩
  obtain ⟨m1, m2, m3⟩ := h.arM
  have ne : ∀ {k : Nat}, ¬ G.M k → k ≠ a := fun hM e => hM (e ▸ g2)
  have nm : ∀ {k : Nat} {es : Array MapEntry} {cc : Nat}, w.heap[k]? = some (.map es cc) → k ≠ a := fun hk e => by rw [e, g3] at hk; cases hk
  obtain ⟨e1, c1, o1⟩ := h.kn.obj
  obtain ⟨e2, c2, o2⟩ := h.asd.obj
  obtain ⟨f1, f2, f3⟩ := fine_reach h.ok hA
  refine ⟨⟨h.ar.keep (oth (ne m1)) (oth (ne m2)) (oth (ne m3)), h.arM, h.kb.fr hf, h.sb.fr hf, h.kn.keep (oth (nm o1)), ?_, h.kM, h.aM, h.ne, f1, fun y => ?_, fun y d ws' hy => ?_, h.inj, fun y y' k hy hy' => ?_, by have := h.ph; omega, fun k hk => by have := h.mlt k hk; simpa using this⟩, hf⟩
  · have e : (fun y => ((s.put r (true, ws)).A y).isSome) = fun y => (s.A y).isSome := funext fun y => by
      by_cases e : y = r
      · subst e; rw [put_A, hA]; rfl
      · rw [put_other e]
    rw [e]; exact h.asd.keep (oth (nm o2))
  · by_cases e : y = r
    · subst e; rw [put_A, ha]; rfl
    · rw [put_other e]; exact h.dom y
  · by_cases e : y = r
    · subst e
      rw [put_A] at hy
      obtain ⟨rfl, rfl⟩ : true = d ∧ ws = ws' := by simpa using hy
      refine ⟨a, vals, ha, g2, setCell_two g3, ownsRow_same g4 (fun k hk => oth (h.row_ne hA hk g3 (by decide))), g5, fun i cl hc => ?_⟩
      obtain ⟨v, e1, e2⟩ := g6 i cl hc
      exact ⟨v, e1, e2.fr hf⟩
    · rw [put_other e] at hy
      obtain ⟨a', vals', k1, k2, k3, k4, k5, k6⟩ := h.an y d ws' hy
      have na : a' ≠ a := fun e' => e (h.inj _ _ _ k1 (e' ▸ ha))
      refine ⟨a', vals', k1, k2, (oth na).trans k3, ownsRow_same k4 (fun k hk => oth (h.row_ne hy hk g3 (by decide))), k5, fun i cl hc => ?_⟩
      obtain ⟨v, e1, e2⟩ := k6 i cl hc
      exact ⟨v, e1, e2.fr hf⟩
  · have q : ∀ {z}, ((s.put r (true, ws)).A z).isSome = true → (s.A z).isSome = true := fun {z} hz => by
      by_cases e : z = r
      · subst e; rw [hA]; rfl
      · rw [put_other e] at hz; exact hz
    exact h.inj2 y y' k (q hy) (q hy')

/-- A closure waits: its row has grown, and stands in the answer. -/
theorem Sst.wait (h : Sst c w G s) {a : Nat} {ws : List Clo} (ha : G.ab r = some a) (hA : s.A r = some (false, ws)) {cl : Clo} (hcl : cOk c.L cl) (hph : phi c.L s + (1 + cl.2.length) ≤ 600000) {vals : List Value} {v u : Value} (hvals : w.ownsRow 0 1 1 (G.wv r) ws.length vals) {w1 w2 : World} (hb : Below w.heap.size w w1)
    (hown : w2.ownsRow 0 1 1 v (ws.length + 1) (vals ++ [u])) (hg : w1.grownBy w2 (G.wv r).ownBlock) (hat : ∀ k, v.ownBlock = some k → (G.wv r).ownBlock = some k ∨ w1.heap.size ≤ k) (_hv : ∃ k, v.ownBlock = some k)
    (hu : CloV w1 G c.bs u cl) :
    ∃ G', Sst c (w2.setCell ⟨a, 1, none⟩ v) G' (s.wait r cl) ∧ Fr s w (w2.setCell ⟨a, 1, none⟩ v) G G' := by
  obtain ⟨a', vals', g1, g2, g3, g4, g5, g6⟩ := h.an r false ws hA
  obtain rfl : a = a' := by rw [ha] at g1; exact Option.some.inj g1
  have hvv : vals = vals' := by
    rcases hvals.2 with ⟨e, h0⟩ | ⟨p, cp, cur, e, _, hp, _, _, _, ht⟩
    · have l1 := hvals.1
      have l2 := g4.1
      rw [h0] at l1 l2
      simp at l1 l2
      rw [l1, l2]
    · rcases g4.2 with ⟨e', _⟩ | ⟨p', cp', cur', e', _, hp', _, _, _, ht'⟩
      · rw [e] at e'; cases e'
      · rw [e] at e'
        injection e' with e1 e2 e3
        injection e1 with e1
        injection e1 with e1
        subst e1
        rw [hp] at hp'
        simp only [Option.some.injEq, Obj.cells.injEq, and_true] at hp'
        rw [← ht, ← ht', hp']
  subst hvv
  rw [Sx.wait_eq hA]
  have hs1 := hb.size
  have hs2 := hg.size
  have rowlt : ∀ k, (G.wv r).ownBlock = some k → k < w.heap.size := fun k hk => (g4.lt k hk).2
  have oth : ∀ {k : Nat}, k < w.heap.size → k ≠ a → (G.wv r).ownBlock ≠ some k → (w2.setCell ⟨a, 1, none⟩ v).heap[k]? = w.heap[k]? := fun {k} hk hka hkr => by
    rw [heap_setCell_other _ _ _ _ (by simpa using hka), hg.block k (by omega) (fun e => hkr e.symm), hb.block k hk]
  refine ⟨⟨fun k => G.M k ∨ v.ownBlock = some k, G.ab, fun y => if y = r then v else G.wv y⟩, ?_⟩
  have hf : Fr s w (w2.setCell ⟨a, 1, none⟩ v) G ⟨fun k => G.M k ∨ v.ownBlock = some k, G.ab, fun y => if y = r then v else G.wv y⟩ := by
    refine ⟨hg.os.trans hb.os, hg.tape.trans hb.tape, hg.output.trans hb.output, by simp; omega, fun k hk hM => oth hk (fun e => hM (e ▸ g2)) (fun e => hM (g5 k e)), fun k hk => ?_, fun _ _ h => h, fun y hy => ?_⟩
    · rcases hk with e | e
      · exact .inl e
      · rcases hat k e with e' | e'
        · exact .inl (g5 k e')
        · exact .inr (by omega)
    · show (if y = r then _ else G.wv y) = G.wv y
      rw [if_neg (fun e => by rw [e] at hy; unfold Sx.der at hy; rw [hA] at hy; cases hy)]
  have hf1 : Fr s w1 (w2.setCell ⟨a, 1, none⟩ v) G ⟨fun k => G.M k ∨ v.ownBlock = some k, G.ab, fun y => if y = r then v else G.wv y⟩ := by
    refine ⟨hg.os, hg.tape, hg.output, by simpa using hs2, fun k hk hM => ?_, fun k hk => ?_, fun _ _ h => h, fun y hy => ?_⟩
    · rw [heap_setCell_other _ _ _ _ (by intro e; exact hM (e ▸ g2)), hg.block k hk (fun e => hM (g5 k e.symm))]
    · rcases hk with e | e
      · exact .inl e
      · rcases hat k e with e' | e'
        · exact .inl (g5 k e')
        · exact .inr e'
    · show (if y = r then _ else G.wv y) = G.wv y
      rw [if_neg (fun e => by rw [e] at hy; unfold Sx.der at hy; rw [hA] at hy; cases hy)]
  have newM : ∀ {k : Nat}, k < w.heap.size → ¬ G.M k → ¬ (G.M k ∨ v.ownBlock = some k) := fun hk hM e => hf.not hk hM e
  obtain ⟨m1, m2, m3⟩ := h.arM
  have ne : ∀ {k : Nat}, ¬ G.M k → k ≠ a := fun hM e => hM (e ▸ g2)
  have nr : ∀ {k : Nat}, ¬ G.M k → (G.wv r).ownBlock ≠ some k := fun hM e => hM (g5 _ e)
  have nm : ∀ {k : Nat} {es : Array MapEntry} {cc : Nat}, w.heap[k]? = some (.map es cc) → k ≠ a ∧ (G.wv r).ownBlock ≠ some k := by
    intro k es cc hk
    refine ⟨fun e => (by rw [e, g3] at hk; cases hk), fun e => ?_⟩
    obtain ⟨c', fz, hc⟩ := Lib.ownsRow_kind g4 k e
    rw [hk] at hc; cases hc
  obtain ⟨e1, c1, o1⟩ := h.kn.obj
  obtain ⟨e2, c2, o2⟩ := h.asd.obj
  have hfw := fine_wait (L := c.L) h.ok (r := r) (by rw [hA]; rfl) (by unfold Sx.der; rw [hA]; simp) hcl
  rw [Sx.wait_eq hA] at hfw
  -- a row that is new, or the old one, is no answer's block
  have vne : ∀ {k a2 : Nat} {cs : Array Value} {t : TypeId} {z : Nat × Nat}, v.ownBlock = some k → w.heap[a2]? = some (.cells cs t z) → t ≠ 1 → k ≠ a2 := fun {k a2 cs t z} hk h2 ht e => by
    rcases hat k hk with e' | e'
    · exact h.row_ne hA e' h2 ht e
    · have := lt_of_heap h2; omega
  have ha2 : w2.heap[a]? = some (.cells #[.bool false, G.wv r] 86 (0, 0)) := by
    rw [hg.block a (by have := lt_of_heap g3; omega) (fun e => h.row_ne hA e.symm g3 (by decide) rfl), hb.block a (lt_of_heap g3)]; exact g3
  refine ⟨⟨h.ar.keep (oth h.ar.blt (ne m1) (nr m1)) (oth h.ar.glt (ne m2) (nr m2)) (oth h.ar.mlt (ne m3) (nr m3)), ⟨newM h.ar.blt m1, newM h.ar.glt m2, newM h.ar.mlt m3⟩, h.kb.fr hf, h.sb.fr hf, h.kn.keep (oth h.kn.lt (nm o1).1 (nm o1).2), ?_, .inl h.kM, .inl h.aM, h.ne, hfw.ok, fun y => ?_, fun y d ws' hy => ?_, h.inj, fun y y' k hy hy' e e' => ?_, by have := hfw.ph; omega, fun k hk => ?_⟩, hf⟩
  · have e : (fun y => ((s.put r (false, ws ++ [cl])).A y).isSome) = fun y => (s.A y).isSome := funext fun y => by
      by_cases e : y = r
      · subst e; rw [put_A, hA]; rfl
      · rw [put_other e]
    rw [e]; exact h.asd.keep (oth h.asd.lt (nm o2).1 (nm o2).2)
  · by_cases e : y = r
    · subst e; rw [put_A]; show (G.ab y).isSome = _; rw [ha]; rfl
    · rw [put_other e]; exact h.dom y
  · by_cases e : y = r
    · subst e
      rw [put_A] at hy
      obtain ⟨rfl, rfl⟩ : false = d ∧ ws ++ [cl] = ws' := by simpa using hy
      refine ⟨a, vals ++ [u], ha, .inl g2, ?_, ?_, fun k hk => ?_, fun i x hx => ?_⟩
      · simp only [if_true]; exact setCell_two1 ha2
      · simp only [if_true, List.length_append, List.length_cons, List.length_nil]
        refine ownsRow_same hown (fun k hk => heap_setCell_other _ _ _ _ ?_)
        exact vne hk g3 (by decide)
      · simp only [if_true] at hk; exact .inr hk
      · have hlen : vals.length = ws.length := by have := hvals.1; simpa using this
        rcases Nat.lt_or_ge i ws.length with hi | hi
        · rw [List.getElem?_append_left hi] at hx
          obtain ⟨v', k1, k2⟩ := g6 i x hx
          exact ⟨v', by rw [List.getElem?_append_left (by omega)]; exact k1, k2.fr hf⟩
        · rw [List.getElem?_append_right hi] at hx
          have hi0 : i = ws.length := by
            rcases Nat.lt_or_ge (i - ws.length) 1 with z | z
            · omega
            · rw [List.getElem?_eq_none (by simpa using z)] at hx; cases hx
          subst hi0
          simp at hx
          subst hx
          exact ⟨u, by rw [List.getElem?_append_right (by omega), hlen]; simp, hu.fr hf1⟩
    · rw [put_other e] at hy
      obtain ⟨a', vals', k1, k2, k3, k4, k5, k6⟩ := h.an y d ws' hy
      have na : a' ≠ a := fun e' => e (h.inj _ _ _ k1 (e' ▸ ha))
      have nrow : ∀ k, (G.wv y).ownBlock = some k → (G.wv r).ownBlock ≠ some k := fun k hk hk' => e (h.inj2 _ _ k (by rw [hy]; rfl) (by rw [hA]; rfl) hk hk')
      refine ⟨a', vals', k1, .inl k2, ?_, ?_, fun k hk => ?_, fun i x hx => ?_⟩
      · simp only [if_neg e]
        rw [oth (lt_of_heap k3) na (fun e' => h.row_ne hA e' k3 (by decide) rfl)]; exact k3
      · simp only [if_neg e]
        exact ownsRow_same k4 (fun k hk => oth (k4.lt k hk).2 (h.row_ne hy hk g3 (by decide)) (nrow k hk))
      · simp only [if_neg e] at hk; exact .inl (k5 k hk)
      · obtain ⟨v', q1, q2⟩ := k6 i x hx
        exact ⟨v', q1, q2.fr hf⟩
  · have q : ∀ {z}, ((s.put r (false, ws ++ [cl])).A z).isSome = true → (s.A z).isSome = true := fun {z} hz => by
      by_cases e : z = r
      · subst e; rw [hA]; rfl
      · rw [put_other e] at hz; exact hz
    have q0 : (s.A r).isSome = true := by rw [hA]; rfl
    have old : ∀ {z k}, (s.A z).isSome = true → (G.wv z).ownBlock = some k → v.ownBlock = some k → z = r := fun {z k} hz hk hvk => by
      rcases hat k hvk with x | x
      · exact h.inj2 _ _ k hz q0 hk x
      · obtain ⟨⟨d, l⟩, hzz⟩ := Option.isSome_iff_exists.1 hz
        obtain ⟨_, _, _, _, _, k4, _⟩ := h.an z d l hzz
        have := (k4.lt k hk).2
        omega
    simp only at e e'
    by_cases x : y = r <;> by_cases x' : y' = r
    · rw [x, x']
    · rw [if_pos x] at e
      rw [if_neg x'] at e'
      rw [x]; exact (old (q hy') e' e).symm
    · rw [if_neg x] at e
      rw [if_pos x'] at e'
      rw [x']; exact old (q hy) e e'
    · rw [if_neg x] at e
      rw [if_neg x'] at e'
      exact h.inj2 _ _ k (q hy) (q hy') e e'
  · have hsz : (w2.setCell ⟨a, 1, none⟩ v).heap.size = w2.heap.size := by simp
    rw [hsz]
    rcases hk with e | e
    · have := h.mlt k e; omega
    · exact (hown.lt k e).2

/-- A term is made known. -/
theorem Sst.know (h : Sst c w G s) (hr : hasB c.L.length r = true) (hK : s.K r = false) {w2 : World} (hm : MapU w2 c.mq (cnt c.L.length s.K + 1) (fun y => if y = r then true else s.K y)) (ht : w.mapTurned w2 c.mq) :
    Sst c w2 G (s.know r) ∧ Fr s w w2 G G := by
  have hg := ht.grown
  have old : ∀ k, k < w.heap.size → k ≠ c.mq → w2.heap[k]? = w.heap[k]? := fun k hk hne => hg.block k hk (fun e => hne (Option.some.inj e))
  have hf : Fr s w w2 G G := ⟨hg.os, hg.tape, hg.output, hg.size, fun k hk hM => old k hk (fun e => hM (e ▸ h.kM)), fun _ h => .inl h, fun _ _ h => h, fun _ _ => rfl⟩
  obtain ⟨m1, m2, m3⟩ := h.arM
  have ne : ∀ {k : Nat}, ¬ G.M k → k ≠ c.mq := fun hM e => hM (e ▸ h.kM)
  obtain ⟨e1, c1, o1⟩ := h.kn.obj
  refine ⟨⟨h.ar.keep (old _ h.ar.blt (ne m1)) (old _ h.ar.glt (ne m2)) (old _ h.ar.mlt (ne m3)), h.arM, h.kb.fr hf, h.sb.fr hf, ?_, h.asd.keep (old _ h.asd.lt (Ne.symm h.ne)), h.kM, h.aM, h.ne, h.ok.know hr, h.dom, fun y d ws hy => ?_, h.inj, h.inj2, ?_, fun k hk => Nat.lt_of_lt_of_le (h.mlt k hk) hg.size⟩, hf⟩
  · show MapU w2 c.mq (cnt c.L.length (fun y => if y = r then true else s.K y)) (fun y => if y = r then true else s.K y)
    rw [cnt_add hr hK]; exact hm
  · obtain ⟨a, vals, g1, g2, g3, g4, g5, g6⟩ := h.an y d ws hy
    refine ⟨a, vals, g1, g2, (old _ (lt_of_heap g3) (fun e => by rw [e, o1] at g3; cases g3)).trans g3, ownsRow_same g4 (fun k hk => old k (g4.lt k hk).2 (fun e => ?_)), g5, fun i cl hc => ?_⟩
    · obtain ⟨c', fz, hc⟩ := Lib.ownsRow_kind g4 k hk
      rw [e, o1] at hc; cases hc
    · obtain ⟨v, q1, q2⟩ := g6 i cl hc
      exact ⟨v, q1, q2.fr hf⟩
  · have := phi_know (L := c.L) (s := s) hr (by rw [hK]; simp)
    have := h.ph
    omega
end
end Go.Proofs.YtlckajnbmkkpeaaDoor

/- Layer 3: walks: what is known, the Pub of a secret, a new search. -/
namespace Go.Proofs.YtlckajnbmkkpeaaDoor
open Go.RowKit Go.Maps

/-- What is known, in memory. -/
structure Kw (w : World) (bk b mk n : Nat) (hv : Value) (K : Int → Bool) : Prop where
  box : w.heap[bk]? = some (.cells #[.pointer (some ⟨b, 0, none⟩), hv, .map (some mk)] 76 (0, 0))
  kn : MapU w mk n K
theorem Sst.kw {c : Cx} {w : World} {G : Gh} {s : Sx} (h : Sst c w G s) : Kw w c.bk c.b c.mq (cnt c.L.length s.K) c.hv s.K := ⟨h.kb.1, h.kn⟩
section
variable {w : World} {bk b mk n : Nat} {hv : Value} {K : Int → Bool}
theorem Kw.c0 (h : Kw w bk b mk n hv K) : w.cell? ⟨bk, 0, none⟩ = some (.pointer (some ⟨b, 0, none⟩)) := by rw [cell_of_row w bk 0 _ _ _ h.box]; rfl
theorem Kw.c1 (h : Kw w bk b mk n hv K) : w.cell? ⟨bk, 1, none⟩ = some hv := by rw [cell_of_row w bk 1 _ _ _ h.box]; rfl
theorem Kw.c2 (h : Kw w bk b mk n hv K) : w.cell? ⟨bk, 2, none⟩ = some (.map (some mk)) := by rw [cell_of_row w bk 2 _ _ _ h.box]; rfl
theorem Kw.keep (h : Kw w bk b mk n hv K) {w' : World} (hb : Below w.heap.size w w') : Kw w' bk b mk n hv K := ⟨(hb.block _ (lt_of_heap h.box)).trans h.box, h.kn.keep (hb.block _ h.kn.lt)⟩
end
theorem Sst.s0 {c : Cx} {w : World} {G : Gh} {s : Sx} (h : Sst c w G s) : w.cell? ⟨c.bs, 0, none⟩ = some (.pointer (some ⟨c.bk, 0, none⟩)) := by rw [cell_of_row w c.bs 0 _ _ _ h.sb.1]; rfl
theorem Sst.s1 {c : Cx} {w : World} {G : Gh} {s : Sx} (h : Sst c w G s) : w.cell? ⟨c.bs, 1, none⟩ = some (.map (some c.ma)) := by rw [cell_of_row w c.bs 1 _ _ _ h.sb.1]; rfl

set_option maxRecDepth 100000 in
set_option maxHeartbeats 1000000 in
theorem knows_any {bk b mk n : Nat} {hv : Value} {K : Int → Bool} (r : Int) (hr : i64ok r) (w : World) (h : Kw w bk b mk n hv K) :
    Calls Tryd.prog 16 #[.pointer (some ⟨bk, 0, none⟩), .int .i64 r] w fun e w' => e = .returned (.bool (K r)) ∧ Below w.heap.size w w' := by
  have c2 := h.c2
  have hl := h.kn.look hr
  have hlt := lt_of_heap h.box
  generalize K r = y at *
  clear h
  go_enter Tryd.func16, Tryd.ntmps16
  go_wp2_with fail
  go_ret
  exact ⟨rfl, (Below.refl _ _).alloc (Nat.le_refl _) _⟩

set_option maxRecDepth 100000 in
set_option maxHeartbeats 1000000 in
theorem public_any {c : Cx} {w : World} {G : Gh} {s : Sx} (h : Sst c w G s) (x : Int) (hx : i64ok x) :
    Calls Tryd.prog 78 #[.pointer (some ⟨c.bs, 0, none⟩), .int .i64 x] w fun e w' => e = .returned (.int .i64 (pubR c.L x)) ∧ Below w.heap.size w w' := by
  have c0 := h.s0
  have k0 := h.kw.c0
  have HF := Lib.hid (find_any c.b c.g c.bm c.cap c.lim c.L 2 0 x 0 0 w h.ar ⟨by simp [i64ok], by simp [u64ok], hx, by simp [i64ok], by simp [i64ok]⟩)
  clear h
  unfold pubR
  cases hi : ix ⟨2, 0, x, 0, 0⟩ c.L with
  | none =>
    rw [hi] at HF
    clear hi
    go_enter Tryd.func78, Tryd.ntmps78
    go_wp2_with (go_at_call 51; refine HF.out.mono ?_; rintro e w1 ⟨rfl, hb1⟩; simp only [Option.getD_none, Option.isSome_none])
    go_ret
    exact ⟨rfl, hb1⟩
  | some i =>
    rw [hi] at HF
    clear hi
    go_enter Tryd.func78, Tryd.ntmps78
    go_wp2_with (go_at_call 51; refine HF.out.mono ?_; rintro e w1 ⟨rfl, hb1⟩; simp only [Option.getD_some, Option.isSome_some])
    go_ret
    exact ⟨rfl, hb1⟩
end Go.Proofs.YtlckajnbmkkpeaaDoor

/- Layer 3: walks of a search: what waits is taken up again. -/
namespace Go.Proofs.YtlckajnbmkkpeaaDoor
open Go.RowKit Go.Maps

def SPost (c : Cx) (s s' : Sx) (w : World) (G : Gh) (e : Ending) (w' : World) : Prop := e = .returned (.tuple #[]) ∧ ∃ G', Sst c w' G' s' ∧ Fr s w w' G G'
theorem SPost.from {c : Cx} {s s' : Sx} {w w1 : World} {G : Gh} {e : Ending} {w' : World} (h : SPost c s s' w1 G e w') (hb : Below w.heap.size w w1) : SPost c s s' w G e w' := by
  obtain ⟨h1, G', h2, h3⟩ := h
  exact ⟨h1, G', h2, (Fr.below hb).trans (Le.refl s) h3⟩
/-- What the functions of a search do, as deep as the machine goes. -/
structure Wk (c : Cx) (n : Nat) : Prop where
  ask : ∀ (s s' : Sx) (r : Int) (w : World) (G : Gh), Run c.L n (.ask r) s s' → Sst c w G s → hasB c.L.length r = true →
    Calls Tryd.prog 42 #[.pointer (some ⟨c.bs, 0, none⟩), .int .i64 r] w fun e w' => ∃ a G', e = .returned (.pointer (some ⟨a, 0, none⟩)) ∧ G'.ab r = some a ∧ Sst c w' G' s' ∧ Fr s w w' G G'
  compose : ∀ (s s' : Sx) (r : Int) (a : Nat) (w : World) (G : Gh), Run c.L n (.compose r) s s' → Sst c w G s → phi c.L s + 4 ≤ 600000 → hasB c.L.length r = true → G.ab r = some a →
    Calls Tryd.prog 58 #[.pointer (some ⟨c.bs, 0, none⟩), agg (nd c.L r), reachV a] w (SPost c s s' w G)
  when_ : ∀ (s s' : Sx) (t : Thn) (rs : List Int) (tv rv : Value) (w : World) (G : Gh), Run c.L n (.when_ t rs) s s' → Sst c w G s → cOk c.L (t, rs) → rs.length ≤ 3 → phi c.L s + rs.length ≤ 600000 → ThnV w G c.bs tv t → RefsV w G rv rs →
    Calls Tryd.prog 61 #[.pointer (some ⟨c.bs, 0, none⟩), tv, rv] w (SPost c s s' w G)
  reach : ∀ (s s' : Sx) (r : Int) (a : Nat) (w : World) (G : Gh), Run c.L n (.reach r) s s' → Sst c w G s → G.ab r = some a →
    Calls Tryd.prog 59 #[.pointer (some ⟨a, 0, none⟩)] w (SPost c s s' w G)
  learn : ∀ (s s' : Sx) (r : Int) (w : World) (G : Gh), Run c.L n (.learn r) s s' → Sst c w G s → hasB c.L.length r = true →
    Calls Tryd.prog 46 #[.pointer (some ⟨c.bs, 0, none⟩), .int .i64 r] w (SPost c s s' w G)

theorem add_off' (k o j : Nat) : (⟨k, o, none⟩ : Addr).add (j + 1) = ⟨k, o + (j + 1), none⟩ := by unfold Addr.add; simp
theorem getD_drop (l : List Int) (j i : Nat) : (l.drop j).getD i 0 = l.getD (j + i) 0 := by
  rw [List.getD_eq_getElem?_getD, List.getD_eq_getElem?_getD, List.getElem?_drop]
set_option maxRecDepth 100000 in
set_option maxHeartbeats 1000000 in
theorem when1_any {c : Cx} {n : Nat} (hW : Wk c n) {s s' : Sx} {t : Thn} {rs : List Int} {w : World} {G : Gh} {p q r i : Nat} (hR : Run c.L n (.when_ t rs) s s') (h : Sst c w G s) (hc : cOk c.L (t, rs)) (hp : phi c.L s + rs.length ≤ 600000) (hv : CloV w G c.bs (whenV p q r i) (t, rs)) :
    Calls Tryd.prog 79 #[.pointer (some ⟨p, 0, none⟩), .pointer (some ⟨q, 0, none⟩), .pointer (some ⟨r, 0, none⟩), .pointer (some ⟨i, 0, none⟩)] w (SPost c s s' w G) := by
  obtain ⟨p', q', r', i', tv, rv, all, j, h1, h2, h3, h4, h5, h6, h7, h8, h9, h10⟩ := hv
  injection h1 with _ _ h1
  simp only [Array.mk.injEq, List.cons.injEq, Value.pointer.injEq, Option.some.injEq, Addr.mk.injEq, and_true] at h1
  obtain ⟨rfl, rfl, rfl, rfl⟩ := h1
  have h10 : all.drop (j + 1) = rs := h10
  have h4 : ThnV w G c.bs tv t := h4
  obtain ⟨k, o, cp, rfl, l1, l2, l3, l4⟩ := h6
  have c1 := cell_of_one h2.1
  have c2 := cell_of_one h3.1
  have c3 := cell_of_one h5.1
  have c4 := cell_of_one h7.1
  have hrs : rs.length = all.length - (j + 1) := by rw [← h10, List.length_drop]
  have HC : Hid (∀ w1 rv, Below w.heap.size w w1 → RefsV w G rv rs → Calls Tryd.prog 61 #[.pointer (some ⟨c.bs, 0, none⟩), tv, rv] w1 (SPost c s s' w1 G)) := Lib.hid (fun w1 rv hb hrv => by
    have hf : Fr s w w1 G G := Fr.below hb
    exact hW.when_ s s' t rs tv rv w1 G hR (h.keep hb) hc (by omega) hp (h4.fr hf) (hrv.fr hf))
  have hj : (j : Int) + 1 ≤ all.length := by omega
  have hl3 : (all.length : Int) ≤ cp := by omega
  have hj0 : (0 : Int) ≤ j := by omega
  have hwr : IntKind.i64.wrap ((j : Int) + 1) = (j : Int) + 1 := IntWalk.i64_in _ (by omega)
  have hj1 : (0 : Int) ≤ (j : Int) + 1 := by omega
  have HB : Hid (Below w.heap.size w w.drew) := Lib.hid (Below.refl _ _).drew
  by_cases e : cp = j + 1
  · have HR : Hid (RefsV w G (.slice (some ⟨k, o, none⟩) (all.length - (j + 1)) 0) rs) := Lib.hid ⟨k, o, 0, by rw [hrs], by omega, l2, l3, fun m hm => by omega⟩
    subst e
    clear h h2 h3 h5 h7 hW hR h4 hc hp hrs l1 l2 l3 l4 h9 h8
    go_enter Tryd.func79, Tryd.ntmps79
    go_wp2_with fail
    go_still_tail 6, (by kernel_rfl)
    change wpList _ _ _ _ _ w.drew
    have hd := HB.out
    generalize w.drew = w2 at *
    go_wp2_with (go_at_call 61; refine (HC.out _ _ hd HR.out).mono ?_; rintro e w3 ⟨rfl, hg⟩)
    go_end0
    exact SPost.from ⟨rfl, hg⟩ hd
  · have HR : Hid (RefsV w G (.slice (some ⟨k, o + (j + 1), none⟩) (all.length - (j + 1)) (cp - (j + 1))) rs) := Lib.hid ⟨k, o + (j + 1), cp - (j + 1), by rw [hrs], by omega, l2, l3, fun m hm => by
      rw [← h10, getD_drop, ← l4 (j + 1 + m) (by omega)]
      congr 2; omega⟩
    clear h h2 h3 h5 h7 hW hR h4 hc hp hrs l1 l2 l3 l4 h9 h8
    have ha := add_off' k o j
    go_enter Tryd.func79, Tryd.ntmps79
    go_wp2_with fail
    go_still_tail 6, (by kernel_rfl)
    change wpList _ _ _ _ _ w.drew
    have hd := HB.out
    generalize w.drew = w2 at *
    go_wp2_with (go_at_call 61; refine (HC.out _ _ hd HR.out).mono ?_; rintro e w3 ⟨rfl, hg⟩)
    go_end0
    exact SPost.from ⟨rfl, hg⟩ hd
end Go.Proofs.YtlckajnbmkkpeaaDoor
