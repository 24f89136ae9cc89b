/- Layer 3: a search in memory: what shows which state, and what stays while it goes on. -/
import Derived.Test.YtemigefkkjgehaaDoorXa
import Derived.Lib.OwnKind
namespace Go.Proofs.YtemigefkkjgehaaDoor
open Go.RowKit Go.Maps

/-! ### How many. -/
def cnt (n : Nat) (K : Int → Bool) : Nat := ((List.range n).map fun i => if K (i : Nat) = true then 1 else 0).sum
theorem cnt_le (n : Nat) (K : Int → Bool) : cnt n K ≤ n := by
  have : ∀ l : List Nat, (l.map fun i => if K (i : Nat) = true then 1 else 0).sum ≤ l.length := by
    intro l
    induction l with
    | nil => simp
    | cons i l ih =>
      have : (if K (i : Nat) = true then 1 else 0) ≤ 1 := by split <;> omega
      simp only [List.map_cons, List.sum_cons, List.length_cons]; omega
  have h := this (List.range n)
  rw [List.length_range] at h
  exact h
theorem cnt_add {n : Nat} {K : Int → Bool} {r : Int} (hr : hasB n r = true) (hk : K r = false) : cnt n (fun y => if y = r then true else K y) = cnt n K + 1 := by
  obtain ⟨h0, h1⟩ := hasB_iff.1 hr
  obtain ⟨j, rfl⟩ : ∃ j : Nat, r = j := ⟨r.toNat, by omega⟩
  have := sum_upd (f := fun i => if (if ((i : Nat) : Int) = j then true else K i) = true then 1 else 0) (g := fun i => if K (i : Nat) = true then 1 else 0) (j := j) (fun i hi => by
    rw [if_neg (show ¬ ((i : Int) = j) by omega)]) n (by omega)
  simp only [if_true, hk] at this
  unfold cnt
  simp at this ⊢
  omega

/-! ### Values. -/
structure Gh where
  M : Nat → Prop
  ab : Int → Option Nat
  wv : Int → Value
def ptr (a : Nat) : Value := .pointer (some ⟨a, 0, none⟩)
def reachV (a : Nat) : Value := .func (.func 59) #[.pointer (some ⟨a, 0, none⟩)] #[]
def openV (p q : Nat) : Value := .func (.func 62) #[] #[.pointer (some ⟨p, 0, none⟩), .pointer (some ⟨q, 0, none⟩)]
def whenV (p q r i : Nat) : Value := .func (.func 79) #[] #[.pointer (some ⟨p, 0, none⟩), .pointer (some ⟨q, 0, none⟩), .pointer (some ⟨r, 0, none⟩), .pointer (some ⟨i, 0, none⟩)]
def Fx (w : World) (G : Gh) (k : Nat) (o : Obj) : Prop := w.heap[k]? = some o ∧ ¬ G.M k
def ThnV (w : World) (G : Gh) (bs : Nat) (v : Value) : Thn → Prop
  | .reach r => ∃ a, G.ab r = some a ∧ v = reachV a
  | .learn r => ∃ p q k n a b, v = openV p q ∧ Fx w G p (.cells #[.pointer (some ⟨bs, 0, none⟩)] 88 (0, 0)) ∧ Fx w G q (.cells #[.int .i64 k, .int .u64 n, .int .i64 a, .int .i64 b, .int .i64 r] 67 (0, 0))
def RefsV (w : World) (G : Gh) (v : Value) (rs : List Int) : Prop :=
  ∃ k o c, v = .slice (some ⟨k, o, none⟩) rs.length c ∧ rs.length ≤ c ∧ k < w.heap.size ∧ ¬ G.M k ∧ ∀ i, i < rs.length → w.cell? ⟨k, o + i, none⟩ = some (.int .i64 (rs.getD i 0))
def CloV (w : World) (G : Gh) (bs : Nat) (v : Value) (c : Clo) : Prop :=
  ∃ p q r i tv rv all j, v = whenV p q r i ∧ Fx w G p (.cells #[.pointer (some ⟨bs, 0, none⟩)] 88 (0, 0)) ∧ Fx w G q (.cells #[tv] 1 (0, 0)) ∧ ThnV w G bs tv c.1 ∧
    Fx w G r (.cells #[rv] 23 (0, 0)) ∧ RefsV w G rv all ∧ Fx w G i (.cells #[.int .i64 (j : Nat)] 3 (0, 0)) ∧ j < all.length ∧ all.length ≤ 3 ∧ all.drop (j + 1) = c.2

/-- What stays while a search goes on. -/
structure Fr (s : Sx) (w w' : World) (G G' : Gh) : Prop where
  os : w'.os = w.os
  tape : w'.tape = w.tape
  output : w'.output = w.output
  size : w.heap.size ≤ w'.heap.size
  kept : ∀ k, k < w.heap.size → ¬ G.M k → w'.heap[k]? = w.heap[k]?
  at_ : ∀ k, G'.M k → G.M k ∨ w.heap.size ≤ k
  ab : ∀ r a, G.ab r = some a → G'.ab r = some a
  tw : ∀ r, s.der r = true → G'.wv r = G.wv r
theorem Fr.below {s : Sx} {w w' : World} {G : Gh} (h : Below w.heap.size w w') : Fr s w w' G G := ⟨h.os, h.tape, h.output, h.size, fun k hk _ => h.block k hk, fun _ h => .inl h, fun _ _ h => h, fun _ _ => rfl⟩
theorem Fr.refl (s : Sx) (w : World) (G : Gh) : Fr s w w G G := Fr.below (Below.refl _ _)
theorem Fr.trans {s s1 : Sx} {w w1 w2 : World} {G G1 G2 : Gh} (h : Fr s w w1 G G1) (hl : Le s s1) (h' : Fr s1 w1 w2 G1 G2) : Fr s w w2 G G2 := by
  have hs := h.size
  refine ⟨h'.os.trans h.os, h'.tape.trans h.tape, h'.output.trans h.output, Nat.le_trans h.size h'.size, fun k hk hM => ?_, fun k hk => ?_, fun r a ha => h'.ab r a (h.ab r a ha), fun r hr => ?_⟩
  · rw [h'.kept k (by omega) (fun e => by rcases h.at_ k e with e' | e'; exact hM e'; omega)]
    exact h.kept k hk hM
  · rcases h'.at_ k hk with e | e
    · exact h.at_ k e
    · exact .inr (by omega)
  · rw [h'.tw r (hl.d hr)]; exact h.tw r hr
theorem Fr.not {s : Sx} {w w' : World} {G G' : Gh} (h : Fr s w w' G G') {k : Nat} (hk : k < w.heap.size) (hM : ¬ G.M k) : ¬ G'.M k := fun e => by
  rcases h.at_ k e with e' | e'
  · exact hM e'
  · omega
section
variable {s : Sx} {w w' : World} {G G' : Gh} {bs : Nat}
theorem Fx.fr {k : Nat} {o : Obj} (h : Fx w G k o) (hf : Fr s w w' G G') : Fx w' G' k o := ⟨(hf.kept k (lt_of_heap h.1) h.2).trans h.1, hf.not (lt_of_heap h.1) h.2⟩
theorem ThnV.fr {v : Value} {t : Thn} (h : ThnV w G bs v t) (hf : Fr s w w' G G') : ThnV w' G' bs v t := by
  cases t with
  | reach r => obtain ⟨a, h1, h2⟩ := h; exact ⟨a, hf.ab _ _ h1, h2⟩
  | learn r => obtain ⟨p, q, k, n, a, b, h1, h2, h3⟩ := h; exact ⟨p, q, k, n, a, b, h1, h2.fr hf, h3.fr hf⟩
theorem RefsV.fr {v : Value} {rs : List Int} (h : RefsV w G v rs) (hf : Fr s w w' G G') : RefsV w' G' v rs := by
  obtain ⟨k, o, c, h1, h2, h3, h4, h5⟩ := h
  exact ⟨k, o, c, h1, h2, Nat.lt_of_lt_of_le h3 hf.size, hf.not h3 h4, fun i hi => by rw [World.cell?_of_block (hf.kept k h3 h4)]; exact h5 i hi⟩
theorem CloV.fr {v : Value} {c : Clo} (h : CloV w G bs v c) (hf : Fr s w w' G G') : CloV w' G' bs v c := by
  obtain ⟨p, q, r, i, tv, rv, all, j, h1, h2, h3, h4, h5, h6, h7, h8⟩ := h
  exact ⟨p, q, r, i, tv, rv, all, j, h1, h2.fr hf, h3.fr hf, h4.fr hf, h5.fr hf, h6.fr hf, h7.fr hf, h8⟩
end
theorem ownsRow_same {w w' : World} {B e z n : Nat} {v : Value} {xs : List Value} (h : w.ownsRow B e z v n xs) (hk : ∀ k, v.ownBlock = some k → w'.heap[k]? = w.heap[k]?) : w'.ownsRow B e z v n xs := by
  refine ⟨h.1, ?_⟩
  rcases h.2 with hn | ⟨g, cap, cur, rfl, hb, hg, rest⟩
  · exact .inl hn
  · exact .inr ⟨g, cap, cur, rfl, hb, (hk g rfl).trans hg, rest⟩

/-- The answer of a ref, with what waits for it. -/
def AnsV (w : World) (G : Gh) (bs : Nat) (r : Int) (d : Bool) (ws : List Clo) : Prop :=
  ∃ a vals, G.ab r = some a ∧ G.M a ∧ w.heap[a]? = some (.cells #[.bool d, G.wv r] 86 (0, 0)) ∧ w.ownsRow 0 1 1 (G.wv r) ws.length vals ∧ (∀ k, (G.wv r).ownBlock = some k → G.M k) ∧
    ∀ (i : Nat) (c : Clo), ws[i]? = some c → ∃ v, vals[i]? = some v ∧ CloV w G bs v c
structure Cx where
  b : Nat
  g : Nat
  bm : Nat
  cap : Nat
  lim : Nat
  L : List Nd
  bk : Nat
  mq : Nat
  bs : Nat
  ma : Nat
  hv : Value
/-- Memory shows a state of a search. -/
structure Sst (c : Cx) (w : World) (G : Gh) (s : Sx) : Prop where
  ar : Ar w c.b c.g c.bm c.cap c.lim c.L
  arM : ¬ G.M c.b ∧ ¬ G.M c.g ∧ ¬ G.M c.bm
  kb : Fx w G c.bk (.cells #[.pointer (some ⟨c.b, 0, none⟩), c.hv, .map (some c.mq)] 76 (0, 0))
  sb : Fx w G c.bs (.cells #[.pointer (some ⟨c.bk, 0, none⟩), .map (some c.ma)] 114 (0, 0))
  kn : MapU w c.mq (cnt c.L.length s.K) s.K
  asd : MapP w c.ma (cnt c.L.length fun r => (s.A r).isSome) G.ab
  kM : G.M c.mq
  aM : G.M c.ma
  ne : c.mq ≠ c.ma
  ok : Ok c.L s
  dom : ∀ r, (G.ab r).isSome = (s.A r).isSome
  an : ∀ r d ws, s.A r = some (d, ws) → AnsV w G c.bs r d ws
  inj : ∀ r r' a, G.ab r = some a → G.ab r' = some a → r = r'
  inj2 : ∀ r r' k, (s.A r).isSome = true → (s.A r').isSome = true → (G.wv r).ownBlock = some k → (G.wv r').ownBlock = some k → r = r'
  ph : phi c.L s ≤ 600000
  mlt : ∀ k, G.M k → k < w.heap.size
theorem Sst.keep {c : Cx} {w w' : World} {G : Gh} {s : Sx} (h : Sst c w G s) (hb : Below w.heap.size w w') : Sst c w' G s := by
  have hf : Fr s w w' G G := Fr.below hb
  refine ⟨h.ar.below hb, h.arM, h.kb.fr hf, h.sb.fr hf, h.kn.keep (hb.block _ h.kn.lt), h.asd.keep (hb.block _ h.asd.lt), h.kM, h.aM, h.ne, h.ok, h.dom, fun r d ws hr => ?_, h.inj, h.inj2, h.ph, fun k hk => Nat.lt_of_lt_of_le (h.mlt k hk) hb.size⟩
  obtain ⟨a, vals, h1, h2, h3, h4, h5, h6⟩ := h.an r d ws hr
  exact ⟨a, vals, h1, h2, (hb.block _ (lt_of_heap h3)).trans h3, ownsRow_same h4 (fun k hk => hb.block k (h4.lt k hk).2), h5, fun i c hc => by
    obtain ⟨v, e1, e2⟩ := h6 i c hc
    exact ⟨v, e1, e2.fr hf⟩⟩
theorem Sst.ans {c : Cx} {w : World} {G : Gh} {s : Sx} (h : Sst c w G s) {r : Int} {a : Nat} (ha : G.ab r = some a) : ∃ d ws, s.A r = some (d, ws) ∧ w.heap[a]? = some (.cells #[.bool d, G.wv r] 86 (0, 0)) ∧ AnsV w G c.bs r d ws := by
  have hd := h.dom r
  rw [ha] at hd
  cases e : s.A r with
  | none => rw [e] at hd; simp at hd
  | some x =>
    obtain ⟨d, ws⟩ := x
    have han := h.an r d ws e
    obtain ⟨a', vals, h1, h2, h3, _⟩ := han
    rw [ha] at h1
    obtain rfl := Option.some.inj h1
    exact ⟨d, ws, rfl, h3, h.an r d ws e⟩

/-! ### The steps. -/
section
variable {c : Cx} {w : World} {G : Gh} {s : Sx} {r : Int}
/-- A ref is asked for: a new answer. -/
theorem Sst.ask (h : Sst c w G s) (hr : hasB c.L.length r = true) (hA : s.A r = none) {b : Bool} {a : Nat} {w1 w2 : World} (hb : Below w.heap.size w w1) (ha : w.heap.size ≤ a) (h1 : w1.heap[a]? = some (.cells #[.bool b, .slice none 0 0] 86 (0, 0)))
    (hm : MapP w2 c.ma (cnt c.L.length (fun r => (s.A r).isSome) + 1) (fun y => if y = r then some a else G.ab y)) (ht : w1.mapTurned w2 c.ma) :
    ∃ G', G'.ab r = some a ∧ Sst c w2 G' (s.put r (b, [])) ∧ Fr s w w2 G G' := by
  have hg := ht.grown
  have hs1 := hb.size
  have hs2 := hg.size
  have hG : G.ab r = none := by
    have := h.dom r
    rw [hA] at this
    cases e : G.ab r with
    | none => rfl
    | some x => rw [e] at this; cases this
  have hma := h.asd.lt
  have old : ∀ k, k < w.heap.size → k ≠ c.ma → w2.heap[k]? = w.heap[k]? := fun k hk hne => (hg.block k (by omega) (fun e => hne (Option.some.inj e))).trans (hb.block k hk)
  refine ⟨⟨fun k => G.M k ∨ k = a, fun y => if y = r then some a else G.ab y, fun y => if y = r then .slice none 0 0 else G.wv y⟩, by simp, ?_⟩
  have hf : Fr s w w2 G ⟨fun k => G.M k ∨ k = a, fun y => if y = r then some a else G.ab y, fun y => if y = r then .slice none 0 0 else G.wv y⟩ := by
    refine ⟨hg.os.trans hb.os, hg.tape.trans hb.tape, hg.output.trans hb.output, by omega, fun k hk hM => old k hk (fun e => hM (e ▸ h.aM)), fun k hk => ?_, fun y x hy => ?_, fun y hy => ?_⟩
    · rcases hk with e | rfl
      · exact .inl e
      · exact .inr ha
    · show (if y = r then some a else G.ab y) = some x
      rw [if_neg (fun e => by rw [e, hG] at hy; cases hy)]; exact hy
    · show (if y = r then _ else G.wv y) = G.wv y
      rw [if_neg (fun e => by rw [e] at hy; unfold Sx.der at hy; rw [hA] at hy; cases hy)]
  have hk0 : ∀ {k : Nat}, ¬ G.M k → k < w.heap.size → ¬ (G.M k ∨ k = a) := fun hM hk e => by
    rcases e with e | e
    · exact hM e
    · omega
  obtain ⟨m1, m2, m3⟩ := h.arM
  have hne : ∀ {k : Nat}, ¬ G.M k → k ≠ c.ma := fun hM e => hM (e ▸ h.aM)
  refine ⟨⟨h.ar.keep (old _ h.ar.blt (hne m1)) (old _ h.ar.glt (hne m2)) (old _ h.ar.mlt (hne m3)), ⟨hk0 m1 h.ar.blt, hk0 m2 h.ar.glt, hk0 m3 h.ar.mlt⟩, h.kb.fr hf, h.sb.fr hf, h.kn.keep (old _ h.kn.lt h.ne), ?_, .inl h.kM, .inl h.aM, h.ne, (fine_ask h.ok hr hA b).1, fun y => ?_, fun y d ws hy => ?_, fun y y' x hy hy' => ?_, fun y y' k hy hy' e e' => ?_, ?_, fun k hk => ?_⟩, hf⟩
  · have e1 : cnt c.L.length (fun y => ((s.put r (b, [])).A y).isSome) = cnt c.L.length (fun r => (s.A r).isSome) + 1 := by
      rw [← cnt_add (K := fun r => (s.A r).isSome) hr (by rw [hA]; rfl)]
      congr 1
      funext y
      by_cases e : y = r
      · subst e; rw [put_A]; simp
      · rw [put_other e, if_neg e]
    rw [e1]; exact hm
  · show (if y = r then some a else G.ab y).isSome = _
    by_cases e : y = r
    · subst e; rw [put_A]; simp
    · rw [put_other e, if_neg e]; exact h.dom y
  · by_cases e : y = r
    · subst e
      rw [put_A] at hy
      obtain ⟨rfl, rfl⟩ : b = d ∧ [] = ws := by simpa using hy
      refine ⟨a, [], by simp, .inr rfl, ?_, ?_, fun k hk => ?_, fun i c hc => by simp at hc⟩
      · have : a ≠ c.ma := fun e => by omega
        rw [hg.block a (lt_of_heap h1) (fun e => this (Option.some.inj e))]
        simp only [if_true]; exact h1
      · simp only [if_true]; exact World.ownsRow_nil _ _ _ _
      · simp only [if_true] at hk; cases hk
    · rw [put_other e] at hy
      obtain ⟨a', vals, g1, g2, g3, g4, g5, g6⟩ := h.an y d ws hy
      obtain ⟨es, cc, hob⟩ := h.asd.obj
      have na : a' ≠ c.ma := fun e => by rw [e, hob] at g3; cases g3
      refine ⟨a', vals, by simp only [if_neg e]; exact g1, .inl g2, ?_, ?_, fun k hk => ?_, fun i cl hc => ?_⟩
      · simp only [if_neg e]; rw [old _ (lt_of_heap g3) na]; exact g3
      · simp only [if_neg e]
        refine ownsRow_same g4 (fun k hk => old k (g4.lt k hk).2 (fun e => ?_))
        obtain ⟨c', fz, hc⟩ := Lib.ownsRow_kind g4 k hk
        rw [e, hob] at hc; cases hc
      · simp only [if_neg e] at hk; exact .inl (g5 k hk)
      · obtain ⟨v, e1, e2⟩ := g6 i cl hc
        exact ⟨v, e1, e2.fr hf⟩
  · simp only at hy hy'
    have key : ∀ {z}, G.ab z = some a → False := fun hz => by
      obtain ⟨_, _, _, e, _⟩ := h.ans hz
      have := lt_of_heap e; omega
    by_cases e : y = r <;> by_cases e' : y' = r
    · rw [e, e']
    · rw [if_pos e] at hy
      rw [if_neg e'] at hy'
      obtain rfl := Option.some.inj hy
      exact (key hy').elim
    · rw [if_neg e] at hy
      rw [if_pos e'] at hy'
      obtain rfl := Option.some.inj hy'
      exact (key hy).elim
    · rw [if_neg e] at hy
      rw [if_neg e'] at hy'
      exact h.inj _ _ _ hy hy'
  · simp only at e e'
    by_cases x : y = r
    · rw [if_pos x] at e; cases e
    · by_cases x' : y' = r
      · rw [if_pos x'] at e'; cases e'
      · rw [if_neg x] at e
        rw [if_neg x'] at e'
        rw [put_other x] at hy
        rw [put_other x'] at hy'
        exact h.inj2 _ _ _ hy hy' e e'
  · have := (fine_ask h.ok hr hA b).2.2
    have := h.ph
    omega
  · rcases hk with e | rfl
    · have := h.mlt k e; omega
    · have := lt_of_heap h1; omega
end
end Go.Proofs.YtemigefkkjgehaaDoor
