/- Layer 2 in plain mathematics: rows come behind what they are made of; terms that are the same in two arenas have one text. No program is named. -/
import Derived.Test.YtmnmjekpndeemaaGreatDoorRh
namespace Go.Proofs.YtmnmjekpndeemaaGreatDoor

/-- Each row is behind the rows of its parts. -/
def Ord (L : List Nd) (acc : List Int) : Prop := ∀ (k : Nat) (h : k < acc.length), ∀ p ∈ prt (nd L acc[k]), p ∈ acc.take k
theorem Ord.nil (L : List Nd) : Ord L [] := fun k h => by simp at h
theorem Ord.snoc {L : List Nd} {acc : List Int} {r : Int} (h : Ord L acc) (hr : ∀ p ∈ prt (nd L r), p ∈ acc) : Ord L (acc ++ [r]) := by
  intro k hk p hp
  by_cases hl : k < acc.length
  · rw [List.getElem_append_left hl] at hp
    rw [List.take_append_of_le_length (by omega)]
    exact h k hl p hp
  · have hk' : k = acc.length := by simp at hk; omega
    subst hk'
    rw [List.getElem_append_right (by omega)] at hp
    simp only [Nat.sub_self, List.getElem_cons_zero] at hp
    rw [List.take_left']
    · exact hr p hp
    · rfl
theorem Ord.closed {L : List Nd} {acc : List Int} (h : Ord L acc) {r : Int} (hr : r ∈ acc) {p : Int} (hp : p ∈ prt (nd L r)) : p ∈ acc := by
  obtain ⟨k, hk, rfl⟩ := List.mem_iff_getElem.1 hr
  exact List.mem_of_mem_take (h k hk p hp)

theorem vis_ord {L : List Nd} (h : WF L) : ∀ (f : Nat) (acc : List Int) (r : Int), r.toNat < f → Ord L acc → Ord L (vis L f acc r) ∧ (∀ x ∈ acc, x ∈ vis L f acc r) ∧ (hasB L.length r = true → r ∈ vis L f acc r)
  | 0, _, _, hf, _ => by omega
  | f + 1, acc, r, hf, ho => by
    by_cases hm : r ∈ acc
    · rw [vis_old hm]; exact ⟨ho, fun x hx => hx, fun _ => hm⟩
    · by_cases hr : hasB L.length r = true
      · rw [vis_new hm hr]
        have key : ∀ (ps : List Int) (a : List Int), (∀ p ∈ ps, p ∈ prt (nd L r)) → Ord L a → Ord L (ps.foldl (vis L f) a) ∧ (∀ x ∈ a, x ∈ ps.foldl (vis L f) a) ∧ (∀ p ∈ ps, p ∈ ps.foldl (vis L f) a) := by
          intro ps
          induction ps with
          | nil => intro a _ ha; exact ⟨ha, fun x hx => hx, by simp⟩
          | cons p ps ih =>
            intro a hps ha
            have hp := hps p (by simp)
            have hin := prt_in h hr hp
            obtain ⟨h1, h2, h3⟩ := vis_ord h f a p (by omega) ha
            obtain ⟨k1, k2, k3⟩ := ih (vis L f a p) (fun q hq => hps q (by simp [hq])) h1
            refine ⟨k1, fun x hx => k2 x (h2 x hx), fun q hq => ?_⟩
            simp only [List.mem_cons] at hq
            rcases hq with rfl | hq
            · exact k2 _ (h3 (prt_has h hr hp))
            · exact k3 q hq
        obtain ⟨k1, k2, k3⟩ := key (prt (nd L r)) acc (fun p hp => hp) ho
        exact ⟨k1.snoc k3, fun x hx => by simp [k2 x hx], fun _ => by simp⟩
      · have hr' : hasB L.length r = false := by simpa using hr
        rw [vis_no hr']; exact ⟨ho, fun x hx => hx, fun e => absurd e hr⟩
theorem rows_ord {L : List Nd} (h : WF L) (r : Int) : Ord L (rows L r) := (vis_ord h _ [] r (by omega) (Ord.nil L)).1
theorem rows_self {L : List Nd} {r : Int} (hr : hasB L.length r = true) : r ∈ rows L r := by
  obtain ⟨m, hm⟩ := rows_last hr
  rw [hm]; simp
/-- A term's rows lie in every list that has it, and what its rows are made of. -/
theorem vis_sub {L : List Nd} {D : List Int} (hc : ∀ r ∈ D, ∀ p ∈ prt (nd L r), p ∈ D) : ∀ (f : Nat) (acc : List Int) (r : Int), r ∈ D → (∀ x ∈ acc, x ∈ D) → ∀ x ∈ vis L f acc r, x ∈ D
  | 0, acc, r, _, ha, x, hx => ha x hx
  | f + 1, acc, r, hr, ha, x, hx => by
    unfold vis at hx
    split at hx
    · exact ha x hx
    · split at hx
      · rcases List.mem_append.1 hx with e | e
        · have key : ∀ (ps : List Int) (a : List Int), (∀ p ∈ ps, p ∈ D) → (∀ x ∈ a, x ∈ D) → ∀ x ∈ ps.foldl (vis L f) a, x ∈ D := by
            intro ps
            induction ps with
            | nil => intro a _ h; exact h
            | cons p ps ih =>
              intro a hp h
              exact ih _ (fun q hq => hp q (by simp [hq])) (vis_sub hc f a p (hp p (by simp)) h)
          exact key _ _ (hc r hr) ha x e
        · simp only [List.mem_singleton] at e; subst e; exact hr
      · exact ha x hx
theorem rows_sub {L : List Nd} (h : WF L) {r x : Int} (hx : x ∈ rows L r) : ∀ y ∈ rows L x, y ∈ rows L r := fun y hy =>
  vis_sub (fun _ hr _ hp => (rows_ord h r).closed hr hp) _ [] x hx (by simp) y hy

/-- The terms D of one arena are terms of another one. -/
structure Iso (L M : List Nd) (D : List Int) (f : Int → Int) : Prop where
  has : ∀ x ∈ D, hasB L.length x = true ∧ hasB M.length (f x) = true
  inj : ∀ x ∈ D, ∀ y ∈ D, f x = f y → x = y
  closed : ∀ x ∈ D, ∀ p ∈ prt (nd L x), p ∈ D
  node : ∀ x ∈ D, (nd M (f x)).k = (nd L x).k ∧ (nd M (f x)).n = (nd L x).n ∧ prt (nd M (f x)) = (prt (nd L x)).map f

theorem foldl_map_iso {f : Int → Int} {g h : List Int → Int → List Int} : ∀ (ps a : List Int) (P : List Int → Prop), P a → (∀ b, P b → ∀ p ∈ ps, P (h b p) ∧ g (b.map f) (f p) = (h b p).map f) → (ps.map f).foldl g (a.map f) = (ps.foldl h a).map f
  | [], _, _, _, _ => rfl
  | p :: ps, a, P, ha, H => by
    simp only [List.map_cons, List.foldl_cons]
    obtain ⟨h1, h2⟩ := H a ha p (by simp)
    rw [h2]
    exact foldl_map_iso ps (h a p) P h1 (fun b hb q hq => H b hb q (by simp [hq]))
theorem Iso.visE {L M : List Nd} {D : List Int} {f : Int → Int} (h : Iso L M D f) : ∀ (n : Nat) (acc : List Int) (r : Int), r ∈ D → (∀ x ∈ acc, x ∈ D) → vis M n (acc.map f) (f r) = (vis L n acc r).map f
  | 0, acc, r, _, _ => rfl
  | n + 1, acc, r, hr, ha => by
    have hh := h.has r hr
    by_cases hm : r ∈ acc
    · rw [vis_old hm, vis_old (List.mem_map.2 ⟨r, hm, rfl⟩)]
    · have hm' : f r ∉ acc.map f := fun hx => by
        obtain ⟨y, hy, e⟩ := List.mem_map.1 hx
        exact hm (h.inj y (ha y hy) r hr e ▸ hy)
      rw [vis_new hm hh.1, vis_new hm' hh.2, (h.node r hr).2.2, List.map_append]
      congr 1
      refine foldl_map_iso (prt (nd L r)) acc (fun a => ∀ x ∈ a, x ∈ D) ha (fun b hb p hp => ?_)
      have hpD := h.closed r hr p hp
      exact ⟨vis_sub h.closed n b p hpD hb, Iso.visE h n b p hpD hb⟩
theorem Iso.rowsE {L M : List Nd} {D : List Int} {f : Int → Int} (h : Iso L M D f) (hL : WF L) (hM : WF M) {r : Int} (hr : r ∈ D) : rows M (f r) = (rows L r).map f := by
  have e := h.visE (r.toNat + (f r).toNat + 1) [] r hr (by simp)
  unfold rows
  rw [vis_fuel hL (r.toNat + 1) (r.toNat + (f r).toNat + 1) [] r (by omega) (by omega), ← e]
  exact vis_fuel hM _ _ [] (f r) (by omega) (by omega)
theorem px_map {f : Int → Int} {D : List Int} (hi : ∀ x ∈ D, ∀ y ∈ D, f x = f y → x = y) {x : Int} (hx : x ∈ D) : ∀ {l : List Int}, (∀ y ∈ l, y ∈ D) → px (f x) (l.map f) = px x l
  | [], _ => rfl
  | y :: l, h => by
    simp only [List.map_cons, px]
    rw [px_map hi hx (fun z hz => h z (by simp [hz]))]
    by_cases e : y = x
    · rw [if_pos e, if_pos (by rw [e])]
    · rw [if_neg e, if_neg (fun e' => e (hi y (h y (by simp)) x hx e'))]
theorem Iso.numsE {L M : List Nd} {D : List Int} {f : Int → Int} (h : Iso L M D f) (hL : WF L) (hM : WF M) {r : Int} (hr : r ∈ D) : nums M (f r) = nums L r := by
  have hD : ∀ x ∈ rows L r, x ∈ D := vis_sub h.closed _ [] r hr (by simp)
  unfold nums
  rw [h.rowsE hL hM hr, List.map_map]
  refine List.map_congr_left fun x hx => ?_
  have hn := h.node x (hD x hx)
  simp only [Function.comp_apply]
  unfold rowN
  rw [hn.1, hn.2.1, hn.2.2, List.map_map]
  congr 2
  refine List.map_congr_left fun p hp => ?_
  simp only [Function.comp_apply]
  unfold pz
  rw [px_map h.inj (h.closed x (hD x hx) p hp) hD]
theorem Iso.txtE {L M : List Nd} {D : List Int} {f : Int → Int} (h : Iso L M D f) (hL : WF L) (hM : WF M) {r : Int} (hr : r ∈ D) : txt M (f r) = txt L r := by
  unfold txt
  rw [h.numsE hL hM hr]
end Go.Proofs.YtmnmjekpndeemaaGreatDoor
