/- Layer 2 in plain mathematics: what is carried over has the same text; carried over again it is found. -/
import Derived.Test.YtmnmjekpndeemaaGreatDoorRm
import Derived.Test.YtmnmjekpndeemaaGreatDoorSa
namespace Go.Proofs.YtmnmjekpndeemaaGreatDoor

/-- A right node is what its kind, number and parts say. -/
theorem prt_get {n : Nat} {d : Nd} (h : partsOk n d = true) : d.a = (prt d).getD 0 0 ∧ d.b = (prt d).getD 1 0 ∧ d.c = (prt d).getD 2 0 := by
  unfold partsOk partOk at h
  simp only [Bool.and_eq_true] at h
  obtain ⟨h0, h1, h2⟩ := h
  have hm := many_range d.k
  unfold prt
  generalize many d.k = m at *
  rcases (show m = -1 ∨ m = 0 ∨ m = 1 ∨ m = 2 ∨ m = 3 by omega) with rfl | rfl | rfl | rfl | rfl <;> simp at h0 h1 h2 ⊢ <;> (first | exact ⟨h0, h1, h2⟩ | exact ⟨h1, h2⟩ | exact h2 | skip)
theorem nd_of_prt {L : List Nd} (h : WF L) {x y : Int} (hx : hasB L.length x = true) (hy : hasB L.length y = true) (hk : (nd L x).k = (nd L y).k) (hn : (nd L x).n = (nd L y).n) (hp : prt (nd L x) = prt (nd L y)) : x = y := by
  have b1 := hasB_iff.1 hx
  have b2 := hasB_iff.1 hy
  have g1 := prt_get (right_iff.1 (h.good x.toNat (by omega))).2.1
  have g2 := prt_get (right_iff.1 (h.good y.toNat (by omega))).2.1
  change (nd L x).a = (prt (nd L x)).getD 0 0 ∧ (nd L x).b = (prt (nd L x)).getD 1 0 ∧ (nd L x).c = (prt (nd L x)).getD 2 0 at g1
  change (nd L y).a = (prt (nd L y)).getD 0 0 ∧ (nd L y).b = (prt (nd L y)).getD 1 0 ∧ (nd L y).c = (prt (nd L y)).getD 2 0 at g2
  refine h.toWFp.nd_inj (by unfold both; rw [hx, hy]; rfl) (Nd.ext5 hk hn ?_ ?_ ?_)
  · rw [g1.1, g2.1, hp]
  · rw [g1.2.1, g2.2.1, hp]
  · rw [g1.2.2, g2.2.2, hp]
theorem map_inj_on {f : Int → Int} {D : List Int} (hi : ∀ x ∈ D, ∀ y ∈ D, f x = f y → x = y) : ∀ {l m : List Int}, (∀ x ∈ l, x ∈ D) → (∀ x ∈ m, x ∈ D) → l.map f = m.map f → l = m
  | [], [], _, _, _ => rfl
  | [], _ :: _, _, _, h => by simp at h
  | _ :: _, [], _, _, h => by simp at h
  | a :: l, b :: m, hl, hm, h => by
    simp only [List.map_cons, List.cons.injEq] at h
    rw [hi a (hl a (by simp)) b (hm b (by simp)) h.1, map_inj_on hi (fun x hx => hl x (by simp [hx])) (fun x hx => hm x (by simp [hx])) h.2]

def fz (f : Int → Option Int) (x : Int) : Int := (f x).getD 0
theorem fz_put {f : Int → Option Int} {x v y : Int} : fz (put1 f x v) y = if y = x then v else fz f y := by unfold fz put1; split <;> rfl
theorem cnode_prt (own : List Nd) (f : Int → Option Int) (x : Int) : prt (cnode own f x) = (prt (nd own x)).map (fz f) := by
  unfold prt cnode fz
  rw [List.map_take]; rfl

/-- One more term, whose parts are there. -/
theorem Iso.snoc {L M M' : List Nd} {D : List Int} {f : Int → Option Int} (h : Iso L M D (fz f)) (hL : WF L) {x : Int} (hx : hasB L.length x = true) (hxD : x ∉ D) (hp : ∀ p ∈ prt (nd L x), p ∈ D) {r : Int} (hr : hasB M'.length r = true) (hn : nd M' r = cnode L f x) (hM : ∃ N, M' = M ++ N) : Iso L M' (D ++ [x]) (fz (put1 f x r)) := by
  obtain ⟨N, rfl⟩ := hM
  have hne : ∀ y ∈ D, y ≠ x := fun y hy e => hxD (e ▸ hy)
  have hf : ∀ y ∈ D, fz (put1 f x r) y = fz f y := fun y hy => by rw [fz_put, if_neg (hne y hy)]
  have hfx : fz (put1 f x r) x = r := by rw [fz_put, if_pos rfl]
  have hold : ∀ y ∈ D, nd (M ++ N) (fz f y) = nd M (fz f y) := fun y hy => by
    have := hasB_iff.1 (h.has y hy).2
    exact nd_append this.1 this.2
  have hmap : ∀ l : List Int, (∀ p ∈ l, p ∈ D) → l.map (fz (put1 f x r)) = l.map (fz f) := fun l hl => List.map_congr_left fun p hp' => hf p (hl p hp')
  have hxne : ∀ y ∈ D, fz f y ≠ r := fun y hy e => by
    have h1 := hold y hy
    rw [e, hn] at h1
    have h2 := h.node y hy
    rw [e] at h2
    rw [← h1] at h2
    have e1 : (nd L x).k = (nd L y).k := h2.1
    have e2 : (nd L x).n = (nd L y).n := h2.2.1
    have e3 := h2.2.2
    rw [cnode_prt] at e3
    have e4 := map_inj_on h.inj hp (h.closed y hy) e3
    exact hne y hy (nd_of_prt hL hx (h.has y hy).1 e1 e2 e4).symm
  refine ⟨?_, ?_, ?_, ?_⟩
  · intro y hy
    rcases List.mem_append.1 hy with hy | hy
    · rw [hf y hy]
      have := h.has y hy
      exact ⟨this.1, by have := hasB_iff.1 this.2; exact hasB_iff.2 ⟨by omega, by simp; omega⟩⟩
    · simp only [List.mem_singleton] at hy; subst hy; rw [hfx]; exact ⟨hx, hr⟩
  · intro y hy z hz e
    rcases List.mem_append.1 hy with hy1 | hy1 <;> rcases List.mem_append.1 hz with hz1 | hz1
    · rw [hf y hy1, hf z hz1] at e; exact h.inj y hy1 z hz1 e
    · have hz2 := List.mem_singleton.1 hz1; rw [hz2, hf y hy1, hfx] at e; exact absurd e (hxne y hy1)
    · have hy2 := List.mem_singleton.1 hy1; rw [hy2, hf z hz1, hfx] at e; exact absurd e.symm (hxne z hz1)
    · rw [List.mem_singleton.1 hy1, List.mem_singleton.1 hz1]
  · intro y hy p hp'
    rcases List.mem_append.1 hy with hy | hy
    · exact List.mem_append.2 (.inl (h.closed y hy p hp'))
    · simp only [List.mem_singleton] at hy; subst hy; exact List.mem_append.2 (.inl (hp p hp'))
  · intro y hy
    rcases List.mem_append.1 hy with hy | hy
    · rw [hf y hy, hold y hy, hmap _ (h.closed y hy)]; exact h.node y hy
    · simp only [List.mem_singleton] at hy; subst hy
      rw [hfx, hn, hmap _ hp]
      exact ⟨rfl, rfl, cnode_prt L f y⟩

theorem car_iso {lim : Nat} {own : List Nd} (hw : WF own) (hm : lim ≤ 65536) : ∀ (t D : List Int) (M : List Nd) (f : Int → Option Int), Iso own M D (fz f) → (∀ y x, f y = some x → 0 ≤ x ∧ x ≤ 65536) → WF M → M.length ≤ lim → Ord own (D ++ t) → Acc own (D ++ t) → (car lim own t M f).2.2 = 0 →
    Iso own (car lim own t M f).1 (D ++ t) (fz (car lim own t M f).2.1) ∧ WF (car lim own t M f).1 ∧ (∃ N, (car lim own t M f).1 = M ++ N)
  | [], D, M, f, h, _, hM, _, _, _, _ => by
    rw [List.append_nil]; exact ⟨h, hM, ⟨[], by simp [car]⟩⟩
  | x :: t, D, M, f, h, hf, hM, hl, ho, ha, he => by
    have hxa := ha.has x (by simp)
    have hx' := hasB_iff.1 hxa
    obtain ⟨i, rfl⟩ : ∃ i : Nat, x = i := ⟨x.toNat, by omega⟩
    have hok := cnode_ok hw hf (x := i) (by omega)
    unfold car at he ⊢
    by_cases hE : mkE lim M (cnode own f i) = 0
    · rw [if_pos hE] at he ⊢
      obtain ⟨_, j, hj1, hj2, hj3, hj4, _, hj6⟩ := mk_at hM hok hE
      have hxD : (i : Int) ∉ D := by
        have := ha.nodup
        rw [List.nodup_append] at this
        exact fun hx => this.2.2 _ hx _ (by simp) rfl
      have hp : ∀ p ∈ prt (nd own i), p ∈ D := fun p hp => by
        have h1 := ho D.length (by simp) p (by rw [List.getElem_append_right (by omega)]; simpa using hp)
        rwa [List.take_left' rfl] at h1
      have h2 := h.snoc (M' := mkL lim M (cnode own f i)) hw hxa hxD hp (r := mkR lim M (cnode own f i)) (by rw [hj1]; exact hasB_iff.2 ⟨by omega, by omega⟩) (by rw [hj1]; exact hj3) hj6
      have hl2 := mk_len (d := cnode own f i) hl
      have e : D ++ (i : Int) :: t = (D ++ [(i : Int)]) ++ t := by simp
      rw [e] at ho ha ⊢
      obtain ⟨k1, k2, N, k3⟩ := car_iso hw hm t (D ++ [(i : Int)]) _ _ h2 (by
        intro y z hz
        unfold put1 at hz
        split at hz
        · obtain rfl := Option.some.inj hz; exact mkR_ok hM hok hl hm
        · exact hf y z hz) (mk_wf hM hok) hl2.2.1 ho ha he
      obtain ⟨N', hN'⟩ := hj6
      exact ⟨k1, k2, N' ++ N, by rw [k3, hN', List.append_assoc]⟩
    · rw [if_neg hE] at he
      exact absurd he hE

theorem carry_iso {lim : Nat} {M own : List Nd} {ref : Int} (hw : WF own) (_hr : hasB own.length ref = true) (hM : WF M) (hl : M.length ≤ lim) (hm : lim ≤ 65536) (he : (carry lim M own ref).2.2 = 0) :
    Iso own (carry lim M own ref).1 (rows own ref) (fz (carry lim M own ref).2.1) ∧ WF (carry lim M own ref).1 ∧ (∃ N, (carry lim M own ref).1 = M ++ N) :=
  car_iso hw hm (rows own ref) [] M f0 ⟨by simp, by simp, by simp, by simp⟩ f0_rng hM hl (rows_ord hw ref) (rows_acc hw ref) he

/-- What is carried over has the same text. -/
theorem carry_txt {lim : Nat} {M own : List Nd} {ref : Int} (hw : WF own) (hr : hasB own.length ref = true) (hM : WF M) (hl : M.length ≤ lim) (hm : lim ≤ 65536) (he : (carry lim M own ref).2.2 = 0) :
    txt (carry lim M own ref).1 (((carry lim M own ref).2.1 ref).getD 0) = txt own ref ∧ hasB (carry lim M own ref).1.length (((carry lim M own ref).2.1 ref).getD 0) = true ∧ WF (carry lim M own ref).1 := by
  obtain ⟨h1, h2, _⟩ := carry_iso hw hr hM hl hm he
  have hs := rows_self hr
  exact ⟨h1.txtE hw h2 hs, (h1.has ref hs).2, h2⟩

theorem car_pre {lim : Nat} {own : List Nd} : ∀ (t : List Int) (M : List Nd) (f : Int → Option Int), ∃ N, (car lim own t M f).1 = M ++ N
  | [], M, f => ⟨[], by simp [car]⟩
  | x :: t, M, f => by
    unfold car
    split
    · obtain ⟨N, hN⟩ := car_pre (lim := lim) (own := own) t (mkL lim M (cnode own f x)) (put1 f x (mkR lim M (cnode own f x)))
      rw [hN]
      unfold mkL
      split
      · split
        · exact ⟨N, rfl⟩
        · split
          · exact ⟨N, rfl⟩
          · exact ⟨[cnode own f x] ++ N, by rw [List.append_assoc]⟩
      · exact ⟨N, rfl⟩
    · exact ⟨[], by simp⟩
/-- Carried over again it is found. -/
theorem car_again {lim : Nat} {own : List Nd} (hw : WF own) (hm : lim ≤ 65536) : ∀ (t : List Int) (M M2 : List Nd) (f : Int → Option Int), (∀ y x, f y = some x → 0 ≤ x ∧ x ≤ 65536) → WF M → M.length ≤ lim → Acc own t → (car lim own t M f).2.2 = 0 → WF M2 → (∃ N, M2 = (car lim own t M f).1 ++ N) →
    car lim own t M2 f = (M2, (car lim own t M f).2.1, 0)
  | [], M, M2, f, _, _, _, _, _, _, _ => rfl
  | x :: t, M, M2, f, hf, hM, hl, ha, he, hM2, hN => by
    have hx' := hasB_iff.1 (ha.has x (by simp))
    obtain ⟨i, rfl⟩ : ∃ i : Nat, x = i := ⟨x.toNat, by omega⟩
    have hok := cnode_ok hw hf (x := i) (by omega)
    rw [car] at he hN ⊢
    by_cases hE : mkE lim M (cnode own f i) = 0
    · rw [if_pos hE] at he hN
      obtain ⟨_, j, hj1, hj2, hj3, hj4, _, hj6⟩ := mk_at hM hok hE
      have hl2 := mk_len (d := cnode own f i) hl
      have hf2 : ∀ y z, put1 f i (mkR lim M (cnode own f i)) y = some z → 0 ≤ z ∧ z ≤ 65536 := by
        intro y z hz
        unfold put1 at hz
        split at hz
        · obtain rfl := Option.some.inj hz; exact mkR_ok hM hok hl hm
        · exact hf y z hz
      have ha2 : Acc own t := ⟨(List.nodup_cons.1 ha.nodup).2, fun y hy => ha.has y (by simp [hy])⟩
      have hpre := car_pre (lim := lim) (own := own) t (mkL lim M (cnode own f i)) (put1 f i (mkR lim M (cnode own f i)))
      obtain ⟨N1, hN1⟩ := hpre
      obtain ⟨N, hN⟩ := hN
      have hix : ix (cnode own f i) M2 = some j := by rw [hN, hN1, List.append_assoc]; exact ix_append hj4
      obtain ⟨q1, q2, q3⟩ := mk_had (lim := lim) hM2 hix
      rw [if_pos q3, q1, q2, ← hj1]
      have := car_again hw hm t _ M2 _ hf2 (mk_wf hM hok) hl2.2.1 ha2 he hM2 ⟨N, hN⟩
      rw [this, car, if_pos hE]
    · rw [if_neg hE] at he; exact absurd he hE
end Go.Proofs.YtmnmjekpndeemaaGreatDoor
