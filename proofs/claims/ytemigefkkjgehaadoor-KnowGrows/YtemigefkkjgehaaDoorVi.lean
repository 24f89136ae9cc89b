/- Layer 3 in plain mathematics: what can be made of what can be made; a Dh. No program is named. -/
import Derived.Test.YtemigefkkjgehaaDoorVz
namespace Go.Proofs.YtemigefkkjgehaaDoor

/-- What can be made of what can be made can be made. -/
theorem can_idem {L : List Nd} (hL : WF L) {K : Int → Prop} {r : Int} (h : Can L (Can L K) r) : Can L K r := by
  induction h with
  | known _ hk => exact hk
  | free h hk => exact .free h hk
  | own h hk hn => exact .own h hk hn
  | dh h hk _ _ ha hb => exact .dh h hk ha hb
  | dhA h hk _ hp hpk hpn ha =>
    rcases can_pub hL hpn hpk with e | e
    · exact .dhA h hk ha hp e hpn
    · exact .dh h hk ha e
  | dhB h hk _ hp hpk hpn hb =>
    rcases can_pub hL hpn hpk with e | e
    · exact .dhB h hk hb hp e hpn
    · exact .dh h hk e hb
  | parts h h0 h1 h3 h9 _ _ _ ha hb hc => exact .parts h h0 h1 h3 h9 ha hb hc
/-- What can be made is shut, if what is known is. -/
theorem can_shut {L : List Nd} (hL : WF L) {K : Int → Prop} (hK : Shut L K) : Shut L (Can L K) := fun r hr h => by
  obtain ⟨pa, pb, pc⟩ := nd_has hL hr
  refine ⟨fun k8 => ?_, fun k7 hc => ?_⟩
  · cases h with
    | known _ hk => exact ⟨.known pa ((hK r hr hk).1 k8).1, .known pb ((hK r hr hk).1 k8).2⟩
    | free _ hk => omega
    | own _ hk => omega
    | dh _ hk => omega
    | dhA _ hk => omega
    | dhB _ hk => omega
    | parts _ _ _ _ _ ha hb _ => exact ⟨ha, hb⟩
  · cases h with
    | known _ hk => exact .known pc ((hK r hr hk).2 k7 (can_idem hL hc))
    | free _ hk => omega
    | own _ hk => omega
    | dh _ hk => omega
    | dhA _ hk => omega
    | dhB _ hk => omega
    | parts _ _ _ _ _ _ _ hc' => exact hc'
/-- Learning what can be made makes nothing more. -/
theorem can_cut {L : List Nd} (hL : WF L) {K : Int → Prop} (hK : Shut L K) (hh : ∀ y, K y → hasB L.length y = true) {x y : Int} (hx : Can L K x) (h : Can L (cl L fun y => K y ∨ y = x) y) : Can L K y :=
  can_idem hL (h.mono fun _ hz => cl_least (can_shut hL hK) (fun q hq => by
    rcases hq with hq | rfl
    · exact .known (hh q hq) hq
    · exact hx) hz)
/-- Can it, or its public key, be made. -/
def pubC (L : List Nd) (K : Int → Prop) (x : Int) : Prop := Can L K x ∨ ∃ i : Nat, i < L.length ∧ (nd L i).k = 2 ∧ (nd L i).a = x ∧ Can L K i
theorem dh_iff {L : List Nd} (hL : WF L) {K : Int → Prop} {r : Int} (hr : hasB L.length r = true) (k3 : (nd L r).k = 3) :
    Can L K r ↔ K r ∨ (Can L K (nd L r).a ∧ pubC L K (nd L r).b) ∨ (Can L K (nd L r).b ∧ pubC L K (nd L r).a) := by
  have into : ∀ {p x : Int}, hasB L.length p = true → K p → nd L p = ⟨2, 0, x, 0, 0⟩ → pubC L K x := fun {p x} hp hk hn => by
    obtain ⟨p0, p1⟩ := hasB_iff.1 hp
    have e : ((p.toNat : Nat) : Int) = p := by omega
    exact .inr ⟨p.toNat, by omega, by rw [e, hn], by rw [e, hn], by rw [e]; exact .known hp hk⟩
  have out : ∀ {i : Nat} {x : Int}, i < L.length → (nd L i).k = 2 → (nd L i).a = x → Can L K i → (hasB L.length (i : Int) = true ∧ nd L (i : Int) = ⟨2, 0, x, 0, 0⟩ ∧ K i) ∨ Can L K x := fun {i x} hi h2 ha hc => by
    have hb : hasB L.length (i : Int) = true := hasB_iff.2 ⟨by omega, by omega⟩
    have hn := nd_pub hL hb h2
    rw [ha] at hn
    rcases can_pub hL hn hc with e | e
    · exact .inl ⟨hb, hn, e⟩
    · exact .inr e
  constructor
  · intro h
    cases h with
    | known _ hk => exact .inl hk
    | free _ hk => omega
    | own _ hk => omega
    | dh _ _ ha hb => exact .inr (.inl ⟨ha, .inl hb⟩)
    | dhA _ _ ha hp hpk hpn => exact .inr (.inl ⟨ha, into hp hpk hpn⟩)
    | dhB _ _ hb hp hpk hpn => exact .inr (.inr ⟨hb, into hp hpk hpn⟩)
    | parts _ _ _ h3 => exact absurd k3 h3
  · rintro (h | ⟨ha, hb | ⟨i, hi, e1, e2, e3⟩⟩ | ⟨hb, ha | ⟨i, hi, e1, e2, e3⟩⟩)
    · exact .known hr h
    · exact .dh hr k3 ha hb
    · rcases out hi e1 e2 e3 with ⟨hp, hn, hk⟩ | e
      · exact .dhA hr k3 ha hp hk hn
      · exact .dh hr k3 ha e
    · exact .dh hr k3 ha hb
    · rcases out hi e1 e2 e3 with ⟨hp, hn, hk⟩ | e
      · exact .dhB hr k3 hb hp hk hn
      · exact .dh hr k3 e hb
end Go.Proofs.YtemigefkkjgehaaDoor
