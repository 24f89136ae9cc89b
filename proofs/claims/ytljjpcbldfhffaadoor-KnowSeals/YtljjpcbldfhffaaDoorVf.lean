/- Layer 3 in plain mathematics: the document's own answer for what can be made. No program is named. -/
import Derived.Test.YtljjpcbldfhffaaDoorVe
namespace Go.Proofs.YtljjpcbldfhffaaDoor

/-- Is the public key of a term known, or can the term be made? -/
def rpub (L : List Nd) (k out : List Bool) (x : Int) : Bool := out.getD x.toNat false || (List.range L.length).any fun i => k.getD i false && (decide ((L.getD i zN).k = 2) && decide ((L.getD i zN).a = x))
/-- Whether the next term can be made. -/
def rstep (L : List Nd) (k out : List Bool) (i : Nat) : Bool :=
  if (L.getD i zN).k = 0 ∨ (L.getD i zN).k = 9 then true
  else if (L.getD i zN).k = 1 then k.getD i false || decide (4294967296 ≤ (L.getD i zN).n)
  else if (L.getD i zN).k = 2 then k.getD i false || out.getD (L.getD i zN).a.toNat false
  else if (L.getD i zN).k = 3 then k.getD i false || (out.getD (L.getD i zN).a.toNat false && rpub L k out (L.getD i zN).b) || (out.getD (L.getD i zN).b.toNat false && rpub L k out (L.getD i zN).a)
  else if (L.getD i zN).k = 7 then k.getD i false || (out.getD (L.getD i zN).a.toNat false && out.getD (L.getD i zN).b.toNat false && out.getD (L.getD i zN).c.toNat false)
  else k.getD i false || (out.getD (L.getD i zN).a.toNat false && out.getD (L.getD i zN).b.toNat false)
def rcan (L : List Nd) (k : List Bool) : Nat → List Bool
  | 0 => []
  | n + 1 => rcan L k n ++ [rstep L k (rcan L k n) n]
theorem rcan_len (L : List Nd) (k : List Bool) : ∀ n, (rcan L k n).length = n
  | 0 => rfl
  | n + 1 => by simp [rcan, rcan_len L k n]
def knB (k : List Bool) : Int → Prop := fun r => 0 ≤ r ∧ k.getD r.toNat false = true

theorem can_iff {L : List Nd} (_hL : WF L) {K : Int → Prop} {r : Int} (hr : hasB L.length r = true) : Can L K r ↔ K r ∨ ((nd L r).k = 0 ∨ (nd L r).k = 9) ∨ ((nd L r).k = 1 ∧ 4294967296 ≤ (nd L r).n) ∨
    ((nd L r).k = 3 ∧ ((Can L K (nd L r).a ∧ (Can L K (nd L r).b ∨ ∃ p, hasB L.length p = true ∧ K p ∧ nd L p = ⟨2, 0, (nd L r).b, 0, 0⟩)) ∨ (Can L K (nd L r).b ∧ (Can L K (nd L r).a ∨ ∃ p, hasB L.length p = true ∧ K p ∧ nd L p = ⟨2, 0, (nd L r).a, 0, 0⟩)))) ∨
    ((nd L r).k ≠ 0 ∧ (nd L r).k ≠ 1 ∧ (nd L r).k ≠ 3 ∧ (nd L r).k ≠ 9 ∧ Can L K (nd L r).a ∧ Can L K (nd L r).b ∧ Can L K (nd L r).c) := by
  constructor
  · intro h
    cases h with
    | known _ hk => exact .inl hk
    | free _ hk => exact .inr (.inl hk)
    | own _ hk hn => exact .inr (.inr (.inl ⟨hk, hn⟩))
    | dh _ hk ha hb => exact .inr (.inr (.inr (.inl ⟨hk, .inl ⟨ha, .inl hb⟩⟩)))
    | dhA _ hk ha hp hpk hpn => exact .inr (.inr (.inr (.inl ⟨hk, .inl ⟨ha, .inr ⟨_, hp, hpk, hpn⟩⟩⟩)))
    | dhB _ hk hb hp hpk hpn => exact .inr (.inr (.inr (.inl ⟨hk, .inr ⟨hb, .inr ⟨_, hp, hpk, hpn⟩⟩⟩)))
    | parts _ h0 h1 h3 h9 ha hb hc => exact .inr (.inr (.inr (.inr ⟨h0, h1, h3, h9, ha, hb, hc⟩)))
  · rintro (h | h | h | ⟨hk, h⟩ | ⟨h0, h1, h3, h9, ha, hb, hc⟩)
    · exact .known hr h
    · exact .free hr h
    · exact .own hr h.1 h.2
    · rcases h with ⟨ha, hb | ⟨p, hp, hpk, hpn⟩⟩ | ⟨hb, ha | ⟨p, hp, hpk, hpn⟩⟩
      · exact .dh hr hk ha hb
      · exact .dhA hr hk ha hp hpk hpn
      · exact .dh hr hk ha hb
      · exact .dhB hr hk hb hp hpk hpn
    · exact .parts hr h0 h1 h3 h9 ha hb hc

theorem rpub_iff {L : List Nd} (hL : WF L) {k out : List Bool} {x : Int} {A : Prop} (hx : out.getD x.toNat false = true ↔ A) : rpub L k out x = true ↔ A ∨ ∃ p, hasB L.length p = true ∧ knB k p ∧ nd L p = ⟨2, 0, x, 0, 0⟩ := by
  unfold rpub
  rw [Bool.or_eq_true, hx]
  refine or_congr Iff.rfl ?_
  rw [List.any_eq_true]
  constructor
  · rintro ⟨i, hi, h⟩
    simp only [Bool.and_eq_true, decide_eq_true_eq] at h
    have hb : hasB L.length (i : Int) = true := hasB_iff.2 ⟨by omega, by have := List.mem_range.1 hi; omega⟩
    have hn := nd_pub hL hb (show (nd L (i : Int)).k = 2 from h.2.1)
    rw [show (nd L (i : Int)).a = x from h.2.2] at hn
    exact ⟨i, hb, ⟨by omega, h.1⟩, hn⟩
  · rintro ⟨p, hp, hk, hn⟩
    have h := hasB_iff.1 hp
    refine ⟨p.toNat, List.mem_range.2 (by omega), ?_⟩
    have e : L.getD p.toNat zN = ⟨2, 0, x, 0, 0⟩ := hn
    rw [e, hk.2]
    simp
theorem rstep_iff {L : List Nd} (hL : WF L) {k out : List Bool} {n : Nat} (hn : n < L.length) (ho : ∀ i : Nat, i < n → (out.getD i false = true ↔ Can L (knB k) i)) : rstep L k out n = true ↔ Can L (knB k) n := by
  have hb : hasB L.length (n : Int) = true := hasB_iff.2 ⟨by omega, by omega⟩
  rw [can_iff hL hb]
  have e : nd L (n : Int) = L.getD n zN := rfl
  obtain ⟨g1, g2, g3⟩ := nd_good hL hb
  have hp := hL.parts n hn
  have kB : knB k (n : Int) ↔ k.getD n false = true := ⟨fun h => h.2, fun h => ⟨by omega, h⟩⟩
  rw [e] at g1 g2 g3 ⊢
  rw [kB]
  unfold rstep
  obtain ⟨d, hd⟩ : ∃ d, d = L.getD n zN := ⟨_, rfl⟩
  rw [← hd] at g1 g2 g3 hp ⊢
  have pt : ∀ p : Int, inAt p n → d.k ≠ 0 → (out.getD p.toNat false = true ↔ Can L (knB k) p) := fun p h h0 => by
    have hn0 : 0 < n := by
      rcases Nat.eq_zero_or_pos n with z | z
      · subst z
        have := nd_zero hL
        rw [show nd L 0 = L.getD 0 zN from rfl, ← hd] at this
        rw [this] at h0; exact absurd rfl h0
      · exact z
    have h' := ho p.toNat (by unfold inAt at h; omega)
    rw [h', show ((p.toNat : Nat) : Int) = p by unfold inAt at h; omega]
  by_cases k0 : d.k = 0 ∨ d.k = 9
  · rw [if_pos k0]
    exact ⟨fun _ => .inr (.inl k0), fun _ => rfl⟩
  · rw [if_neg k0]
    have n0 : d.k ≠ 0 := fun h => k0 (.inl h)
    have n9 : d.k ≠ 9 := fun h => k0 (.inr h)
    have pa := pt d.a hp.1 n0
    have pb := pt d.b hp.2.1 n0
    have pc := pt d.c hp.2.2 n0
    by_cases k1 : d.k = 1
    · rw [if_pos k1, Bool.or_eq_true, decide_eq_true_eq]
      constructor
      · rintro (h | h)
        · exact .inl h
        · exact .inr (.inr (.inl ⟨k1, h⟩))
      · rintro (h | h | h | h | h)
        · exact .inl h
        · exact absurd h k0
        · exact .inr h.2
        · omega
        · omega
    · rw [if_neg k1]
      unfold partsOk partOk at g2
      by_cases k2 : d.k = 2
      · rw [if_pos k2, Bool.or_eq_true, pa]
        rw [k2] at g2
        simp [many] at g2
        have z := can_zero hL (knB k)
        constructor
        · rintro (h | h)
          · exact .inl h
          · exact .inr (.inr (.inr (.inr ⟨n0, k1, by omega, n9, h, by rw [g2.2.1]; exact z, by rw [g2.2.2]; exact z⟩)))
        · rintro (h | h | h | h | h)
          · exact .inl h
          · exact absurd h k0
          · omega
          · omega
          · exact .inr h.2.2.2.2.1
      · rw [if_neg k2]
        by_cases k3 : d.k = 3
        · rw [if_pos k3]
          simp only [Bool.or_eq_true, Bool.and_eq_true, pa, pb, rpub_iff hL pa, rpub_iff hL pb]
          constructor
          · rintro ((h | h) | h)
            · exact .inl h
            · exact .inr (.inr (.inr (.inl ⟨k3, .inl h⟩)))
            · exact .inr (.inr (.inr (.inl ⟨k3, .inr h⟩)))
          · rintro (h | h | h | h | h)
            · exact .inl (.inl h)
            · exact absurd h k0
            · omega
            · rcases h.2 with h | h
              · exact .inl (.inr h)
              · exact .inr h
            · exact absurd k3 h.2.2.1
        · rw [if_neg k3]
          by_cases k7 : d.k = 7
          · rw [if_pos k7]
            simp only [Bool.or_eq_true, Bool.and_eq_true, pa, pb, pc]
            constructor
            · rintro (h | h)
              · exact .inl h
              · exact .inr (.inr (.inr (.inr ⟨n0, k1, k3, n9, h.1.1, h.1.2, h.2⟩)))
            · rintro (h | h | h | h | h)
              · exact .inl h
              · exact absurd h k0
              · omega
              · omega
              · exact .inr ⟨⟨h.2.2.2.2.1, h.2.2.2.2.2.1⟩, h.2.2.2.2.2.2⟩
          · rw [if_neg k7]
            have hm2 : many d.k = 2 := by
              unfold many at g1 ⊢
              split at g1 <;> (try split at g1) <;> (try split at g1) <;> (try split at g1) <;> simp_all <;> omega
            rw [hm2] at g2
            simp at g2
            have z := can_zero hL (knB k)
            simp only [Bool.or_eq_true, Bool.and_eq_true, pa, pb]
            constructor
            · rintro (h | h)
              · exact .inl h
              · exact .inr (.inr (.inr (.inr ⟨n0, k1, k3, n9, h.1, h.2, by rw [g2.2.2]; exact z⟩)))
            · rintro (h | h | h | h | h)
              · exact .inl h
              · exact absurd h k0
              · omega
              · omega
              · exact .inr ⟨h.2.2.2.2.1, h.2.2.2.2.2.1⟩
theorem rcan_iff {L : List Nd} (hL : WF L) (k : List Bool) : ∀ n, n ≤ L.length → ∀ i : Nat, i < n → ((rcan L k n).getD i false = true ↔ Can L (knB k) i)
  | 0, _, i, hi => by omega
  | n + 1, hn, i, hi => by
    have ih := rcan_iff hL k n (by omega)
    have hl := rcan_len L k n
    rw [rcan]
    rcases Nat.lt_or_ge i n with h | h
    · rw [List.getD_eq_getElem?_getD, List.getElem?_append_left (by omega), ← List.getD_eq_getElem?_getD]; exact ih i h
    · obtain rfl : i = n := by omega
      rw [List.getD_eq_getElem?_getD, List.getElem?_append_right (by omega), hl, Nat.sub_self]
      exact rstep_iff hL (by omega) ih
end Go.Proofs.YtljjpcbldfhffaaDoor
