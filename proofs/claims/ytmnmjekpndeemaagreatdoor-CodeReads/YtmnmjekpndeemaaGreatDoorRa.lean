/- Layer 2 in plain mathematics: the rows of a term, and where each lies. No program is named. -/
import Derived.Test.YtmnmjekpndeemaaGreatDoorPa
import Derived.Lib.ItoaNum
namespace Go.Proofs.YtmnmjekpndeemaaGreatDoor

/-- The parts that a node has. -/
def prt (d : Nd) : List Int := [d.a, d.b, d.c].take (many d.k).toNat
theorem prt_len (d : Nd) : (prt d).length ≤ 3 := by unfold prt; simp; omega
theorem many_range (k : Int) : -1 ≤ many k ∧ many k ≤ 3 := by unfold many; split <;> (try split) <;> (try split) <;> (try split) <;> omega
theorem prt_length {d : Nd} (h : 0 ≤ many d.k) : ((prt d).length : Int) = many d.k := by
  have := many_range d.k
  unfold prt; simp; omega

/-- The rows so far, and those of a ref. -/
def vis (L : List Nd) : Nat → List Int → Int → List Int
  | 0, acc, _ => acc
  | f + 1, acc, r => if r ∈ acc then acc else if hasB L.length r = true then (prt (nd L r)).foldl (vis L f) acc ++ [r] else acc
def rows (L : List Nd) (r : Int) : List Int := vis L (r.toNat + 1) [] r

theorem vis_old {L : List Nd} {f : Nat} {acc : List Int} {r : Int} (h : r ∈ acc) : vis L f acc r = acc := by cases f <;> simp [vis, h]
theorem vis_no {L : List Nd} {f : Nat} {acc : List Int} {r : Int} (h : hasB L.length r = false) : vis L f acc r = acc := by cases f <;> simp [vis, h]
theorem vis_new {L : List Nd} {f : Nat} {acc : List Int} {r : Int} (h : r ∉ acc) (h2 : hasB L.length r = true) : vis L (f + 1) acc r = (prt (nd L r)).foldl (vis L f) acc ++ [r] := by simp [vis, h, h2]

theorem prt_in {L : List Nd} (h : WF L) {r : Int} (hr : hasB L.length r = true) {p : Int} (hp : p ∈ prt (nd L r)) : 0 ≤ p ∧ p < r := by
  obtain ⟨h0, h1⟩ := hasB_iff.1 hr
  have hg := right_iff.1 (h.good r.toNat (by omega))
  have hP := h.toWFp.nd_parts h0 h1
  rw [show L.getD r.toNat zN = nd L r from rfl] at hg
  have hpo : 0 < r := by
    rcases Int.lt_or_eq_of_le h0 with e | e
    · exact e
    · exfalso
      have hz : nd L r = zN := by
        have := h.toWFp.head
        unfold nd; rw [← e]; simp [List.getD, this]
      rw [hz] at hp
      simp [prt, zN, many] at hp
  have hmem : p = (nd L r).a ∨ p = (nd L r).b ∨ p = (nd L r).c := by
    have := List.mem_of_mem_take hp
    simpa using this
  unfold inAt at hP
  rcases hmem with e | e | e <;> subst e <;> omega

theorem prt_has {L : List Nd} (h : WF L) {r : Int} (hr : hasB L.length r = true) {p : Int} (hp : p ∈ prt (nd L r)) : hasB L.length p = true := by
  have := prt_in h hr hp
  have := hasB_iff.1 hr
  exact hasB_iff.2 ⟨by omega, by omega⟩

theorem foldl_same {α β : Type} {f g : β → α → β} : ∀ {l : List α} {b : β}, (∀ b, ∀ a ∈ l, f b a = g b a) → l.foldl f b = l.foldl g b
  | [], _, _ => rfl
  | x :: l, b, h => by
    simp only [List.foldl_cons]
    rw [h b x (by simp)]
    exact foldl_same fun b a ha => h b a (by simp [ha])

theorem vis_fuel {L : List Nd} (h : WF L) : ∀ (f f' : Nat) (acc : List Int) (r : Int), r.toNat < f → r.toNat < f' → vis L f acc r = vis L f' acc r
  | 0, _, _, _, h1, _ => by omega
  | _ + 1, 0, _, _, _, h2 => by omega
  | f + 1, f' + 1, acc, r, h1, h2 => by
    by_cases hm : r ∈ acc
    · rw [vis_old hm, vis_old hm]
    · by_cases hr : hasB L.length r = true
      · rw [vis_new hm hr, vis_new hm hr]
        congr 1
        refine foldl_same fun b p hp => ?_
        have := prt_in h hr hp
        exact vis_fuel h f f' b p (by omega) (by omega)
      · have hr : hasB L.length r = false := by simpa using hr
        rw [vis_no hr, vis_no hr]

/-- What a list of rows is: each once, each there. -/
structure Acc (L : List Nd) (acc : List Int) : Prop where
  nodup : acc.Nodup
  has : ∀ x ∈ acc, hasB L.length x = true
theorem Acc.nil (L : List Nd) : Acc L [] := ⟨List.nodup_nil, by simp⟩

theorem nodup_bound : ∀ (n : Nat) (l : List Nat), l.Nodup → (∀ x ∈ l, x < n) → l.length ≤ n
  | 0, l, _, h => by
    cases l with
    | nil => simp
    | cons x l => have := h x (by simp); omega
  | n + 1, l, hn, h => by
    by_cases hm : n ∈ l
    · have h1 := List.length_erase_of_mem hm
      have h2 := nodup_bound n (l.erase n) (hn.erase n) (fun x hx => by
        have h3 := (hn.mem_erase_iff).1 hx
        have := h x h3.2
        omega)
      omega
    · have h2 := nodup_bound n l hn (fun x hx => by
        have := h x hx
        have : x ≠ n := fun e => hm (e ▸ hx)
        omega)
      omega

theorem Acc.len {L : List Nd} {acc : List Int} (h : Acc L acc) : acc.length ≤ L.length := by
  have := nodup_bound L.length (acc.map Int.toNat) (by
    refine (List.pairwise_map).2 (h.nodup.imp_of_mem ?_)
    intro a b ha hb hne e
    have h1 := hasB_iff.1 (h.has a ha)
    have h2 := hasB_iff.1 (h.has b hb)
    exact hne (by omega)) (fun x hx => by
    obtain ⟨y, hy, rfl⟩ := List.mem_map.1 hx
    have := hasB_iff.1 (h.has y hy)
    omega)
  simpa using this

/-- What a visit does to a list of rows. -/
structure Vis (L : List Nd) (r : Int) (acc acc' : List Int) : Prop where
  ext : ∃ m, acc' = acc ++ m
  ok : Acc L acc'
  new : ∀ x ∈ acc', x ∈ acc ∨ x ≤ r

theorem vis_fold {L : List Nd} {r : Int} {g : List Int → Int → List Int} : ∀ (ps : List Int) (acc : List Int), (∀ p ∈ ps, p < r) → (∀ p ∈ ps, ∀ a, Acc L a → Vis L p a (g a p)) → Acc L acc →
    (∃ m, ps.foldl g acc = acc ++ m) ∧ Acc L (ps.foldl g acc) ∧ (∀ x ∈ ps.foldl g acc, x ∈ acc ∨ x < r)
  | [], acc, _, _, ha => ⟨⟨[], by simp⟩, ha, fun x hx => .inl hx⟩
  | p :: ps, acc, hp, hg, ha => by
    have h1 := hg p (by simp) acc ha
    obtain ⟨⟨m, hm⟩, h3, h4⟩ := vis_fold ps (g acc p) (fun q hq => hp q (by simp [hq])) (fun q hq => hg q (by simp [hq])) h1.ok
    obtain ⟨m1, hm1⟩ := h1.ext
    refine ⟨⟨m1 ++ m, ?_⟩, h3, ?_⟩
    · simp only [List.foldl_cons]; rw [hm, hm1, List.append_assoc]
    · intro x hx
      rcases h4 x hx with e | e
      · rcases h1.new x e with e' | e'
        · exact .inl e'
        · have := hp p (by simp); exact .inr (by omega)
      · exact .inr e

theorem vis_ok {L : List Nd} (h : WF L) : ∀ (f : Nat) (acc : List Int) (r : Int), Acc L acc → Vis L r acc (vis L f acc r)
  | 0, acc, r, ha => ⟨⟨[], by simp [vis]⟩, ha, fun x hx => .inl hx⟩
  | f + 1, acc, r, ha => by
    by_cases hm : r ∈ acc
    · rw [vis_old hm]; exact ⟨⟨[], by simp⟩, ha, fun x hx => .inl hx⟩
    · by_cases hr : hasB L.length r = true
      · rw [vis_new hm hr]
        obtain ⟨⟨m, e⟩, h2, h3⟩ := vis_fold (L := L) (r := r) (g := vis L f) (prt (nd L r)) acc (fun p hp => (prt_in h hr hp).2) (fun p _ a ha => vis_ok h f a p ha) ha
        have hn : r ∉ (prt (nd L r)).foldl (vis L f) acc := fun hx => by
          rcases h3 r hx with e | e
          · exact hm e
          · omega
        refine ⟨⟨m ++ [r], by rw [e, List.append_assoc]⟩, ⟨?_, ?_⟩, ?_⟩
        · rw [List.nodup_append]
          refine ⟨h2.nodup, by simp, fun a ha b hb => ?_⟩
          simp only [List.mem_singleton] at hb
          subst hb
          exact fun e => hn (e ▸ ha)
        · intro x hx
          rcases List.mem_append.1 hx with e | e
          · exact h2.has x e
          · simp only [List.mem_singleton] at e; subst e; exact hr
        · intro x hx
          rcases List.mem_append.1 hx with e | e
          · rcases h3 x e with e' | e'
            · exact .inl e'
            · exact .inr (by omega)
          · simp only [List.mem_singleton] at e; subst e; exact .inr (Int.le_refl _)
      · have hr : hasB L.length r = false := by simpa using hr
        rw [vis_no hr]; exact ⟨⟨[], by simp⟩, ha, fun x hx => .inl hx⟩

/-- Behind a ref's parts it is not there yet. -/
theorem vis_parts {L : List Nd} (h : WF L) {f : Nat} {acc : List Int} {r : Int} (ha : Acc L acc) (hm : r ∉ acc) (hr : hasB L.length r = true) (ps : List Int) (hps : ∀ p ∈ ps, p ∈ prt (nd L r)) :
    Acc L (ps.foldl (vis L f) acc) ∧ r ∉ ps.foldl (vis L f) acc := by
  obtain ⟨_, h2, h3⟩ := vis_fold (L := L) (r := r) (g := vis L f) ps acc (fun p hp => (prt_in h hr (hps p hp)).2) (fun p _ a ha => vis_ok h f a p ha) ha
  refine ⟨h2, fun hx => ?_⟩
  rcases h3 r hx with e | e
  · exact hm e
  · omega

/-- Where a ref lies in a list. -/
def px (x : Int) : List Int → Option Nat
  | [] => none
  | y :: r => if y = x then some 0 else (px x r).map (· + 1)
theorem px_some {x : Int} : ∀ {l : List Int} {i : Nat}, px x l = some i → l[i]? = some x
  | [], _, h => by simp [px] at h
  | y :: r, i, h => by
    unfold px at h
    split at h
    · rename_i e; obtain rfl := Option.some.inj h; simp [e]
    · obtain ⟨j, hj, rfl⟩ := Option.map_eq_some_iff.1 h
      simpa using px_some hj
theorem px_none {x : Int} : ∀ {l : List Int}, px x l = none ↔ x ∉ l
  | [] => by simp [px]
  | y :: r => by
    unfold px
    split
    · rename_i e; simp [e]
    · rename_i e
      rw [Option.map_eq_none_iff, px_none (l := r)]
      simp [Ne.symm e]
theorem px_isSome {x : Int} {l : List Int} : (px x l).isSome = decide (x ∈ l) := by
  cases h : px x l with
  | none => have := px_none.1 h; simp [this]
  | some i => have := List.mem_of_getElem? (px_some h); simp [this]
theorem px_snoc_same {x : Int} : ∀ {l : List Int}, x ∉ l → px x (l ++ [x]) = some l.length
  | [], _ => by simp [px]
  | y :: r, h => by
    simp only [List.mem_cons, not_or] at h
    simp only [List.cons_append, px]
    rw [if_neg (Ne.symm h.1), px_snoc_same h.2]; simp
theorem px_snoc_other {x y : Int} (h : x ≠ y) : ∀ {l : List Int}, px x (l ++ [y]) = px x l
  | [] => by simp [px, Ne.symm h]
  | z :: r => by simp only [List.cons_append, px]; rw [px_snoc_other h]
theorem px_at {x : Int} : ∀ {l : List Int}, l.Nodup → ∀ {i : Nat}, l[i]? = some x → px x l = some i
  | [], _, i, h => by simp at h
  | y :: r, hn, i, h => by
    have hn' := List.nodup_cons.1 hn
    unfold px
    cases i with
    | zero => simp at h; simp [h]
    | succ j =>
      simp only [List.getElem?_cons_succ] at h
      have : y ≠ x := fun e => hn'.1 (e ▸ List.mem_of_getElem? h)
      rw [if_neg this, px_at hn'.2 h]; rfl
theorem px_lt {x : Int} {l : List Int} {i : Nat} (h : px x l = some i) : i < l.length := by
  have := px_some h
  exact (List.getElem?_eq_some_iff.1 this).1
/-- The place of a ref; 0 of one that is not there. -/
def pz (x : Int) (l : List Int) : Nat := (px x l).getD 0
theorem pz_lt {x : Int} {l : List Int} (h : x ∈ l) : pz x l < l.length := by
  unfold pz
  cases e : px x l with
  | none => exact absurd h (px_none.1 e)
  | some i => exact px_lt e
theorem pz_le (x : Int) (l : List Int) : pz x l ≤ l.length := by
  unfold pz
  cases e : px x l with
  | none => simp
  | some i => have := px_lt e; simp; omega
theorem pz_at {x : Int} {l : List Int} (h : x ∈ l) : l[pz x l]? = some x := by
  unfold pz
  cases e : px x l with
  | none => exact absurd h (px_none.1 e)
  | some i => exact px_some e

/-- The numbers of a ref's row. -/
def rowN (L : List Nd) (R : List Int) (r : Int) : List Nat := (nd L r).k.toNat :: (nd L r).n.toNat :: (prt (nd L r)).map (pz · R)
def nums (L : List Nd) (r : Int) : List (List Nat) := (rows L r).map (rowN L (rows L r))
/-- A row as a text. -/
def rtx : List Nat → List UInt8
  | [] => [59]
  | x :: l => Lib.decDigits x ++ l.flatMap (fun y => 32 :: Lib.decDigits y) ++ [59]
def prn (l : List (List Nat)) : List UInt8 := l.flatMap rtx
def txt (L : List Nd) (r : Int) : List UInt8 := prn (nums L r)

theorem rows_no {L : List Nd} {r : Int} (h : hasB L.length r = false) : rows L r = [] := vis_no h
theorem txt_no {L : List Nd} {r : Int} (h : hasB L.length r = false) : txt L r = [] := by unfold txt nums; rw [rows_no h]; rfl
theorem rows_acc {L : List Nd} (h : WF L) (r : Int) : Acc L (rows L r) := (vis_ok h _ [] r (Acc.nil L)).ok
theorem rows_last {L : List Nd} {r : Int} (h : hasB L.length r = true) : ∃ m, rows L r = m ++ [r] := ⟨_, vis_new (by simp) h⟩
end Go.Proofs.YtmnmjekpndeemaaGreatDoor
