import Derived.Test.YtlckajnbmkkpeaaDoorVz

/- Layer 4 in plain mathematics: what a recipe makes, and that it can be made. No program is named. -/
namespace Go.Proofs.YtlckajnbmkkpeaaDoor

/-- A step. -/
structure Sp where
  op : Int
  n : Int
  a : Int
  b : Int
  c : Int
def zSp : Sp := ⟨0, 0, 0, 0, 0⟩
/-- Which numbers an op allows, and how many indices it uses. -/
def loS (op : Int) : Int := if op = 6 then 1 else 0
def hiS (op : Int) : Int := if op = 1 then 1048575 else if op = 6 then 4 else if op = 7 ∨ op = 9 then 18446744073709551615 else 0
def ixS (op : Int) : Nat := if op = 1 ∨ op = 9 ∨ op = 13 then 0 else if op = 0 ∨ op = 2 ∨ op = 10 ∨ op = 11 then 1 else if op = 7 then 3 else 2
def opOk (op : Int) : Bool := decide (0 ≤ op) && decide (op ≤ 13) && decide (op ≠ 4)
def usedB (s : Sp) : Bool := opOk s.op && decide (loS s.op ≤ s.n) && decide (s.n ≤ hiS s.op) && (decide (1 ≤ ixS s.op) || decide (s.a = 0)) && (decide (2 ≤ ixS s.op) || decide (s.b = 0)) && (decide (3 ≤ ixS s.op) || decide (s.c = 0))
def idx (s : Sp) : List Int := [s.a, s.b, s.c].take (ixS s.op)
/-- The refs with these indices. -/
def pickB (l : List Int) (is : List Int) : Bool := is.all fun i => decide (0 ≤ i) && decide (i < l.length)
def pickL (l : List Int) (is : List Int) : List Int := is.map fun i => l.getD i.toNat 0
/-- What a step yields: the arena, the ref, the error. -/
structure Yd where
  L : List Nd
  r : Int
  e : Int
def bad (L : List Nd) : Yd := ⟨L, 0, 12⟩
def mkY (lim : Nat) (L : List Nd) (d : Nd) : Yd := ⟨mkL lim L d, mkR lim L d, mkE lim L d⟩
def shY (lim : Nat) (L : List Nd) (x y : Int) : Yd := ⟨shL lim L x y, shR lim L x y, shE lim L x y⟩
def outY (L : List Nd) (op x y : Int) : Yd :=
  if op = 10 ∧ (nd L x).k = 8 then ⟨L, (nd L x).a, 0⟩ else if op = 11 ∧ (nd L x).k = 8 then ⟨L, (nd L x).b, 0⟩ else if op = 12 ∧ (nd L x).k = 7 ∧ (nd L x).a = y then ⟨L, (nd L x).c, 0⟩ else bad L
def doY (lim : Nat) (L : List Nd) (s : Sp) (x y z : Int) : Yd :=
  if s.op = 0 then ⟨L, x, 0⟩ else if s.op = 1 then mkY lim L ⟨1, 4294967296 + s.n, 0, 0, 0⟩ else if s.op = 3 then shY lim L x y
  else if s.op = 10 ∨ s.op = 11 ∨ s.op = 12 then outY L s.op x y else if s.op = 13 then ⟨L, 0, 0⟩ else mkY lim L ⟨s.op, s.n, x, y, z⟩
def srcS (H Y : List Int) (s : Sp) : List Int := if s.op = 0 then H else Y
def stepY (lim : Nat) (H : List Int) (L : List Nd) (Y : List Int) (s : Sp) : Yd :=
  if usedB s = true then
    (if pickB (srcS H Y s) (idx s) = true then
      doY lim L s ((pickL (srcS H Y s) (idx s)).getD 0 0) ((pickL (srcS H Y s) (idx s)).getD 1 0) ((pickL (srcS H Y s) (idx s)).getD 2 0) else bad L)
  else bad L
/-- A whole recipe. -/
structure Rn where
  L : List Nd
  Y : List Int
  i : Nat
  e : Int
def runY (lim : Nat) (H : List Int) : List Sp → List Nd → List Int → Nat → Rn
  | [], L, Y, _ => ⟨L, Y, 0, 0⟩
  | s :: r, L, Y, i => if (stepY lim H L Y s).e = 0 then runY lim H r (stepY lim H L Y s).L (Y ++ [(stepY lim H L Y s).r]) (i + 1) else ⟨L, [], i, (stepY lim H L Y s).e⟩

/-! Arenas that grow. -/
theorem nd_ext {L M : List Nd} {r : Int} (h : hasB L.length r = true) : nd (L ++ M) r = nd L r := by
  obtain ⟨h0, h1⟩ := hasB_iff.1 h
  unfold nd
  rw [List.getD_eq_getElem?_getD, List.getD_eq_getElem?_getD, List.getElem?_append_left (by omega)]
theorem has_ext {L M : List Nd} {r : Int} (h : hasB L.length r = true) : hasB (L ++ M).length r = true := by
  obtain ⟨h0, h1⟩ := hasB_iff.1 h
  exact hasB_iff.2 ⟨h0, by rw [List.length_append]; omega⟩
theorem can_ext {L M : List Nd} {K : Int → Prop} {r : Int} (h : Can L K r) : Can (L ++ M) K r := by
  induction h with
  | known h hk => exact .known (has_ext h) hk
  | free h hk => exact .free (has_ext h) (by rw [nd_ext h]; exact hk)
  | own h hk hn => exact .own (has_ext h) (by rw [nd_ext h]; exact hk) (by rw [nd_ext h]; exact hn)
  | dh h hk _ _ ha hb => exact .dh (has_ext h) (by rw [nd_ext h]; exact hk) (by rw [nd_ext h]; exact ha) (by rw [nd_ext h]; exact hb)
  | dhA h hk _ hp hpk hpn ha => exact .dhA (has_ext h) (by rw [nd_ext h]; exact hk) (by rw [nd_ext h]; exact ha) (has_ext hp) hpk (by rw [nd_ext h, nd_ext hp]; exact hpn)
  | dhB h hk _ hp hpk hpn hb => exact .dhB (has_ext h) (by rw [nd_ext h]; exact hk) (by rw [nd_ext h]; exact hb) (has_ext hp) hpk (by rw [nd_ext h, nd_ext hp]; exact hpn)
  | parts h h0 h1 h3 h9 _ _ _ ha hb hc => exact .parts (has_ext h) (by rw [nd_ext h]; exact h0) (by rw [nd_ext h]; exact h1) (by rw [nd_ext h]; exact h3) (by rw [nd_ext h]; exact h9) (by rw [nd_ext h]; exact ha) (by rw [nd_ext h]; exact hb) (by rw [nd_ext h]; exact hc)
theorem parts_has {L : List Nd} (hL : WF L) {r : Int} (h : hasB L.length r = true) : hasB L.length (nd L r).a = true ∧ hasB L.length (nd L r).b = true ∧ hasB L.length (nd L r).c = true := by
  obtain ⟨h0, h1⟩ := hasB_iff.1 h
  have hp := partsOk_held hL.pos (right_iff.1 (hL.good r.toNat (by omega))).2.1
  rw [show L.getD r.toNat zN = nd L r from rfl] at hp
  exact ⟨hasB_iff.2 hp.1, hasB_iff.2 hp.2.1, hasB_iff.2 hp.2.2⟩
/-- What an elder term needs is elder. -/
theorem can_old {L M : List Nd} {K : Int → Prop} (hL : WF L) (hK : ∀ x, K x → hasB L.length x = true) {r : Int} (h : Can (L ++ M) K r) : hasB L.length r = true → Can L K r := by
  induction h with
  | known h hk => exact fun hr => .known hr hk
  | free h hk => exact fun hr => .free hr (by rw [nd_ext hr] at hk; exact hk)
  | own h hk hn => exact fun hr => .own hr (by rw [nd_ext hr] at hk; exact hk) (by rw [nd_ext hr] at hn; exact hn)
  | dh h hk _ _ ha hb =>
    intro hr
    rw [nd_ext hr] at hk ha hb
    obtain ⟨pa, pb, _⟩ := parts_has hL hr
    exact .dh hr hk (ha pa) (hb pb)
  | dhA h hk _ hp hpk hpn ha =>
    intro hr
    have hp' := hK _ hpk
    rw [nd_ext hr] at hk ha hpn
    rw [nd_ext hp'] at hpn
    exact .dhA hr hk (ha (parts_has hL hr).1) hp' hpk hpn
  | dhB h hk _ hp hpk hpn hb =>
    intro hr
    have hp' := hK _ hpk
    rw [nd_ext hr] at hk hb hpn
    rw [nd_ext hp'] at hpn
    exact .dhB hr hk (hb (parts_has hL hr).2.1) hp' hpk hpn
  | parts h h0 h1 h3 h9 _ _ _ ha hb hc =>
    intro hr
    rw [nd_ext hr] at h0 h1 h3 h9 ha hb hc
    obtain ⟨pa, pb, pc⟩ := parts_has hL hr
    exact .parts hr h0 h1 h3 h9 (ha pa) (hb pb) (hc pc)
theorem shut_ext {L M : List Nd} {K : Int → Prop} (hL : WF L) (hK : ∀ x, K x → hasB L.length x = true) (h : Shut L K) : Shut (L ++ M) K := fun r _ hr => by
  have hh := hK r hr
  rw [nd_ext hh]
  obtain ⟨h8, h7⟩ := h r hh hr
  exact ⟨h8, fun e hc => h7 e (can_old hL hK hc (parts_has hL hh).1)⟩
end Go.Proofs.YtlckajnbmkkpeaaDoor

/- Layer 4 in plain mathematics: all that a recipe makes can be made. -/
namespace Go.Proofs.YtlckajnbmkkpeaaDoor

/-- What is known, closed, and held by an arena; what was heard is known. -/
structure Kit (L : List Nd) (K : Int → Prop) (H : List Int) : Prop where
  wf : WF L
  has : ∀ x, K x → hasB L.length x = true
  shut : Shut L K
  heard : ∀ x ∈ H, K x
theorem Kit.ext {L M : List Nd} {K : Int → Prop} {H : List Int} (h : Kit L K H) (hw : WF (L ++ M)) : Kit (L ++ M) K H := ⟨hw, fun x hx => has_ext (h.has x hx), shut_ext h.wf h.has h.shut, h.heard⟩
theorem mem_getD {l : List Int} {i : Int} (h0 : 0 ≤ i) (h1 : i < l.length) : l.getD i.toNat 0 ∈ l := by
  rw [List.getD_eq_getElem?_getD, List.getElem?_eq_getElem (by omega)]
  exact List.getElem_mem _
theorem pick_in {l is : List Int} (h : pickB l is = true) (j : Nat) : (pickL l is).getD j 0 ∈ l ∨ (pickL l is).getD j 0 = 0 := by
  rcases Nat.lt_or_ge j is.length with hj | hj
  · left
    have := List.all_eq_true.1 h _ (List.getElem_mem hj)
    simp only [Bool.and_eq_true, decide_eq_true_eq] at this
    unfold pickL
    rw [List.getD_eq_getElem?_getD, List.getElem?_map, List.getElem?_eq_getElem hj]
    exact mem_getD this.1 this.2
  · right
    unfold pickL
    rw [List.getD_eq_getElem?_getD, List.getElem?_eq_none (by simpa using hj)]; rfl
theorem mkY_can {lim : Nat} {L : List Nd} {K : Int → Prop} {H : List Int} {d : Nd} (h : Kit L K H) (hok : d.ok) (he : mkE lim L d = 0) (hc : ∀ M, WF (L ++ M) → ∀ r, hasB (L ++ M).length r = true → nd (L ++ M) r = d → Can (L ++ M) K r) :
    ∃ M, mkL lim L d = L ++ M ∧ WF (L ++ M) ∧ Can (L ++ M) K (mkR lim L d) := by
  obtain ⟨_, i, hr, hi, hd, _, _, M, hM⟩ := mk_at h.wf hok he
  have hw := mk_wf (lim := lim) h.wf hok
  rw [hM] at hw hi hd
  refine ⟨M, hM, hw, ?_⟩
  rw [hr]
  refine hc M hw _ (hasB_iff.2 ⟨by omega, by omega⟩) ?_
  unfold nd
  rw [Int.toNat_natCast]; exact hd
/-- Taking out. -/
theorem out_pair {L : List Nd} {K : Int → Prop} {H : List Int} (h : Kit L K H) {x : Int} (hx : Can L K x) (hk : (nd L x).k = 8) : Can L K (nd L x).a ∧ Can L K (nd L x).b := by
  obtain ⟨pa, pb, _⟩ := parts_has h.wf hx.has
  cases hx with
  | known h1 hK =>
    obtain ⟨h8, _⟩ := h.shut _ h1 hK
    exact ⟨.known pa (h8 hk).1, .known pb (h8 hk).2⟩
  | free _ hk' => omega
  | own _ hk' _ => omega
  | dh _ hk' _ _ => omega
  | dhA _ hk' _ _ _ _ => omega
  | dhB _ hk' _ _ _ _ => omega
  | parts _ _ _ _ _ ha hb _ => exact ⟨ha, hb⟩
theorem out_seal {L : List Nd} {K : Int → Prop} {H : List Int} (h : Kit L K H) {x : Int} (hx : Can L K x) (hk : (nd L x).k = 7) (hy : Can L K (nd L x).a) : Can L K (nd L x).c := by
  obtain ⟨_, _, pc⟩ := parts_has h.wf hx.has
  cases hx with
  | known h1 hK => exact .known pc ((h.shut _ h1 hK).2 hk hy)
  | free _ hk' => omega
  | own _ hk' _ => omega
  | dh _ hk' _ _ => omega
  | dhA _ hk' _ _ _ _ => omega
  | dhB _ hk' _ _ _ _ => omega
  | parts _ _ _ _ _ _ _ hc => exact hc
theorem out_pub {L : List Nd} {K : Int → Prop} {y : Int} (hy : Can L K y) (hk : (nd L y).k = 2) : K y ∨ Can L K (nd L y).a := by
  cases hy with
  | known _ hK => exact .inl hK
  | free _ hk' => omega
  | own _ hk' _ => omega
  | dh _ hk' _ _ => omega
  | dhA _ hk' _ _ _ _ => omega
  | dhB _ hk' _ _ _ _ => omega
  | parts _ _ _ _ _ ha _ _ => exact .inr ha
theorem shY_can {lim : Nat} {L : List Nd} {K : Int → Prop} {H : List Int} (h : Kit L K H) (hl : L.length ≤ 65536) {x y : Int} (hx : Can L K x) (hy : Can L K y) (he : shE lim L x y = 0) :
    ∃ M, shL lim L x y = L ++ M ∧ WF (L ++ M) ∧ Can (L ++ M) K (shR lim L x y) := by
  have hb := sh_both he
  have e1 : shL lim L x y = mkL lim L (shN L x y) := by unfold shL; rw [if_pos hb]
  have e2 : shR lim L x y = mkR lim L (shN L x y) := by unfold shR; rw [if_pos hb]
  have e3 : mkE lim L (shN L x y) = 0 := by rw [← he]; unfold shE; rw [if_pos hb]
  rw [e1, e2]
  refine mkY_can h (shN_ok h.wf hl hb) e3 fun M hw r hr hn => ?_
  by_cases hk : (nd L y).k = 2
  · have hpub := nd_pub h.wf hy.has hk
    rcases out_pub hy hk with hK | hz
    · have hp : nd (L ++ M) y = ⟨2, 0, (nd L y).a, 0, 0⟩ := by rw [nd_ext hy.has]; exact hpub
      unfold shN at hn
      rw [if_neg (by simpa using hk)] at hn
      split at hn
      · exact .dhA hr (by rw [hn]) (by rw [hn]; exact can_ext hx) (has_ext hy.has) hK (by rw [hn]; exact hp)
      · exact .dhB hr (by rw [hn]) (by rw [hn]; exact can_ext hx) (has_ext hy.has) hK (by rw [hn]; exact hp)
    · unfold shN at hn
      rw [if_neg (by simpa using hk)] at hn
      split at hn
      · exact .dh hr (by rw [hn]) (by rw [hn]; exact can_ext hx) (by rw [hn]; exact can_ext hz)
      · exact .dh hr (by rw [hn]) (by rw [hn]; exact can_ext hz) (by rw [hn]; exact can_ext hx)
  · unfold shN at hn
    rw [if_pos (by simpa using hk)] at hn
    exact .parts hr (by rw [hn]; exact (by decide : (4 : Int) ≠ 0)) (by rw [hn]; exact (by decide : (4 : Int) ≠ 1)) (by rw [hn]; exact (by decide : (4 : Int) ≠ 3)) (by rw [hn]; exact (by decide : (4 : Int) ≠ 9)) (by rw [hn]; exact can_ext hx) (by rw [hn]; exact can_ext hy) (by rw [hn]; exact can_zero hw K)
theorem outY_can {L : List Nd} {K : Int → Prop} {H : List Int} (h : Kit L K H) {op x y : Int} (hx : Can L K x) (hy : Can L K y) (he : (outY L op x y).e = 0) : (outY L op x y).L = L ∧ Can L K (outY L op x y).r := by
  unfold outY at *
  split
  · rename_i h1
    exact ⟨rfl, (out_pair h hx h1.2).1⟩
  · split
    · rename_i h1
      exact ⟨rfl, (out_pair h hx h1.2).2⟩
    · split
      · rename_i h1
        exact ⟨rfl, out_seal h hx h1.2.1 (by rw [h1.2.2]; exact hy)⟩
      · rename_i h1 h2 h3
        rw [if_neg h1, if_neg h2, if_neg h3] at he
        exact absurd (show (12 : Int) = 0 from he) (by decide)
theorem used_op {s : Sp} (h : usedB s = true) : (0 ≤ s.op ∧ s.op ≤ 13 ∧ s.op ≠ 4) ∧ loS s.op ≤ s.n ∧ s.n ≤ hiS s.op := by
  simp only [usedB, opOk, Bool.and_eq_true, decide_eq_true_eq] at h
  exact ⟨⟨h.1.1.1.1.1.1.1, h.1.1.1.1.1.1.2, h.1.1.1.1.1.2⟩, h.1.1.1.1.2, h.1.1.1.2⟩
theorem used_n {s : Sp} (h : usedB s = true) : 0 ≤ s.n ∧ s.n ≤ 18446744073709551615 ∧ (s.op = 1 → s.n ≤ 1048575) := by
  obtain ⟨_, h1, h2⟩ := used_op h
  refine ⟨?_, ?_, fun e => ?_⟩
  · unfold loS at h1; split at h1 <;> omega
  · unfold hiS at h2; split at h2
    · omega
    · split at h2
      · omega
      · split at h2 <;> omega
  · unfold hiS at h2; rw [if_pos e] at h2; exact h2
theorem can_i64 {L : List Nd} {K : Int → Prop} (hl : L.length ≤ 65536) {x : Int} (h : Can L K x) : i64ok x := i64ok_of (hasB_iff.1 h.has) hl
/-- One step. -/
theorem stepY_can {lim : Nat} {L : List Nd} {K : Int → Prop} {H Y : List Int} (h : Kit L K H) (hl : L.length ≤ 65536) (hY : ∀ y ∈ Y, Can L K y) {s : Sp} (he : (stepY lim H L Y s).e = 0) :
    ∃ M, (stepY lim H L Y s).L = L ++ M ∧ WF (L ++ M) ∧ Can (L ++ M) K (stepY lim H L Y s).r := by
  unfold stepY at *
  cases hu : usedB s with
  | false => rw [hu, if_neg (by decide)] at he; exact absurd (show (12 : Int) = 0 from he) (by decide)
  | true =>
    rw [hu] at he
    rw [if_pos rfl] at he ⊢
    cases hp : pickB (srcS H Y s) (idx s) with
    | false => rw [hp, if_neg (by decide)] at he; exact absurd (show (12 : Int) = 0 from he) (by decide)
    | true =>
      rw [hp] at he
      rw [if_pos rfl] at he ⊢
      have stay : ∀ r, Can L K r → ∃ M, L = L ++ M ∧ WF (L ++ M) ∧ Can (L ++ M) K r := fun r hr => ⟨[], by simp, by rw [List.append_nil]; exact h.wf, by rw [List.append_nil]; exact hr⟩
      have el : ∀ j, Can L K ((pickL (srcS H Y s) (idx s)).getD j 0) := fun j => by
        rcases pick_in hp j with e | e
        · unfold srcS at e
          unfold srcS
          split at e
          · rename_i h0
            rw [if_pos h0]
            exact .known (h.has _ (h.heard _ e)) (h.heard _ e)
          · rename_i h0
            rw [if_neg h0]
            exact hY _ e
        · rw [e]; exact can_zero h.wf K
      have cx := el 0
      have cy := el 1
      have cz := el 2
      generalize (pickL (srcS H Y s) (idx s)).getD 0 0 = x at *
      generalize (pickL (srcS H Y s) (idx s)).getD 1 0 = y at *
      generalize (pickL (srcS H Y s) (idx s)).getD 2 0 = z at *
      obtain ⟨⟨o0, o1, o2⟩, _, _⟩ := used_op hu
      obtain ⟨n0, n1, n2⟩ := used_n hu
      unfold doY at *
      by_cases c0 : s.op = 0
      · rw [if_pos c0]; exact stay x cx
      · rw [if_neg c0] at he ⊢
        by_cases c1 : s.op = 1
        · rw [if_pos c1] at he ⊢
          have := n2 c1
          exact mkY_can (lim := lim) (d := ⟨1, 4294967296 + s.n, 0, 0, 0⟩) h ⟨by unfold i64ok; simp only; omega, by unfold u64ok; simp only; omega, by unfold i64ok; simp only; omega, by unfold i64ok; simp only; omega, by unfold i64ok; simp only; omega⟩ he fun M hw r hr hn => .own hr (by rw [hn]) (by rw [hn]; simp only; omega)
        · rw [if_neg c1] at he ⊢
          by_cases c3 : s.op = 3
          · rw [if_pos c3] at he ⊢; exact shY_can h hl cx cy he
          · rw [if_neg c3] at he ⊢
            by_cases c10 : s.op = 10 ∨ s.op = 11 ∨ s.op = 12
            · rw [if_pos c10] at he ⊢
              obtain ⟨e1, e2⟩ := outY_can h cx cy he
              rw [e1]; exact stay _ e2
            · rw [if_neg c10] at he ⊢
              by_cases c13 : s.op = 13
              · rw [if_pos c13]; exact stay 0 (can_zero h.wf K)
              · rw [if_neg c13] at he ⊢
                refine mkY_can (lim := lim) (d := ⟨s.op, s.n, x, y, z⟩) h ⟨by unfold i64ok; simp only; omega, by unfold u64ok; simp only; omega, can_i64 hl cx, can_i64 hl cy, can_i64 hl cz⟩ he fun M hw r hr hn => ?_
                by_cases c9 : s.op = 9
                · exact .free hr (.inr (by rw [hn]; exact c9))
                · exact .parts hr (by rw [hn]; exact c0) (by rw [hn]; exact c1) (by rw [hn]; exact c3) (by rw [hn]; exact c9) (by rw [hn]; exact can_ext cx) (by rw [hn]; exact can_ext cy) (by rw [hn]; exact can_ext cz)
theorem outY_L (L : List Nd) (op x y : Int) : (outY L op x y).L = L := by
  unfold outY bad
  repeat' split
  all_goals rfl
theorem stepY_len {lim : Nat} {H : List Int} {L : List Nd} {Y : List Int} {s : Sp} (hl : L.length ≤ lim) : (stepY lim H L Y s).L.length ≤ lim := by
  have hm : ∀ d, (mkL lim L d).length ≤ lim := fun d => (mk_len hl).2.1
  have hs : ∀ x y, (shL lim L x y).length ≤ lim := fun x y => by
    unfold shL; split
    · exact hm _
    · exact hl
  unfold stepY
  split
  · split
    · unfold doY mkY shY
      repeat' split
      all_goals first | exact hl | (dsimp only; exact hm _) | (dsimp only; exact hs _ _) | (rw [outY_L]; exact hl)
    · exact hl
  · exact hl
/-- Whole recipes: what is made can be made; arenas grow. -/
theorem runY_can {lim : Nat} (hlim : lim ≤ 65536) {K : Int → Prop} {H : List Int} : ∀ (l : List Sp) (L : List Nd) (Y : List Int) (i : Nat), Kit L K H → L.length ≤ lim → (∀ y ∈ Y, Can L K y) →
    (runY lim H l L Y i).e = 0 → ∃ M, (runY lim H l L Y i).L = L ++ M ∧ WF (L ++ M) ∧ ∀ y ∈ (runY lim H l L Y i).Y, Can (L ++ M) K y
  | [], L, Y, i, h, _, hY, _ => ⟨[], by simp [runY], by rw [List.append_nil]; exact h.wf, by rw [List.append_nil]; exact hY⟩
  | s :: r, L, Y, i, h, hl, hY, he => by
    unfold runY at *
    by_cases e0 : (stepY lim H L Y s).e = 0
    · rw [if_pos e0] at he ⊢
      obtain ⟨M, e1, hw, hc⟩ := stepY_can h (by omega) hY e0
      have hl2 := stepY_len (H := H) (Y := Y) (s := s) hl
      rw [e1] at he hl2 ⊢
      obtain ⟨M2, e2, hw2, hc2⟩ := runY_can hlim r (L ++ M) (Y ++ [(stepY lim H L Y s).r]) (i + 1) (h.ext hw) hl2 (fun y hy => by
        rcases List.mem_append.1 hy with h1 | h1
        · exact can_ext (hY y h1)
        · rw [List.mem_singleton.1 h1]; exact hc) he
      exact ⟨M ++ M2, by rw [e2, List.append_assoc], by rw [← List.append_assoc]; exact hw2, by rw [← List.append_assoc]; exact hc2⟩
    · rw [if_neg e0] at he
      exact absurd he e0
theorem runY_len {lim : Nat} {H : List Int} : ∀ (l : List Sp) (L : List Nd) (Y : List Int) (i : Nat), (runY lim H l L Y i).e = 0 → (runY lim H l L Y i).Y.length = Y.length + l.length
  | [], L, Y, i, _ => by simp [runY]
  | s :: r, L, Y, i, he => by
    unfold runY at *
    by_cases e0 : (stepY lim H L Y s).e = 0
    · rw [if_pos e0] at he ⊢
      rw [runY_len r _ _ _ he]; simp; omega
    · rw [if_neg e0] at he
      exact absurd he e0
end Go.Proofs.YtlckajnbmkkpeaaDoor

/- Layer 4 in plain mathematics: a recipe that is run again makes the same, and nothing new. -/
namespace Go.Proofs.YtlckajnbmkkpeaaDoor

theorem mkY_again {lim : Nat} {L M : List Nd} {d : Nd} (h : WF L) (hok : d.ok) (he : mkE lim L d = 0) (hw : WF (mkL lim L d ++ M)) : mkL lim (mkL lim L d ++ M) d = mkL lim L d ++ M ∧ mkR lim (mkL lim L d ++ M) d = mkR lim L d ∧ mkE lim (mkL lim L d ++ M) d = 0 := by
  obtain ⟨_, i, hr, _, _, hix, hrt, _⟩ := mk_at h hok he
  have hwl := mk_wf (lim := lim) h hok
  have := mk_old (lim := lim) (right_append hwl.toWFp hw.toWFp hrt) (ix_append (M := M) hix)
  rw [hr]; exact this
theorem shY_again {lim : Nat} {L M : List Nd} {x y : Int} (h : WF L) (hl : L.length ≤ 65536) (he : shE lim L x y = 0) (hw : WF (shL lim L x y ++ M)) : shL lim (shL lim L x y ++ M) x y = shL lim L x y ++ M ∧ shR lim (shL lim L x y ++ M) x y = shR lim L x y ∧ shE lim (shL lim L x y ++ M) x y = 0 := by
  have hb := sh_both he
  have e1 : shL lim L x y = mkL lim L (shN L x y) := by unfold shL; rw [if_pos hb]
  have e2 : shR lim L x y = mkR lim L (shN L x y) := by unfold shR; rw [if_pos hb]
  have e3 : mkE lim L (shN L x y) = 0 := by rw [← he]; unfold shE; rw [if_pos hb]
  have hok := shN_ok h hl hb
  obtain ⟨_, _, _, _, _, _, _, N, hN⟩ := mk_at h hok e3
  rw [e1] at hw ⊢
  have hw2 : WF (L ++ (N ++ M)) := by rw [← List.append_assoc, ← hN]; exact hw
  have hb2 : both (mkL lim L (shN L x y) ++ M) x y = true := by
    rw [hN, List.append_assoc]
    obtain ⟨bx, by'⟩ := both_iff.1 hb
    exact both_iff.2 ⟨⟨bx.1, by have := bx.2; rw [List.length_append]; omega⟩, ⟨by'.1, by have := by'.2; rw [List.length_append]; omega⟩⟩
  have hs : shN (mkL lim L (shN L x y) ++ M) x y = shN L x y := by
    conv => lhs; rw [hN, List.append_assoc]
    exact shN_append h hw2 hb
  obtain ⟨a1, a2, a3⟩ := mkY_again (M := M) h hok e3 hw
  refine ⟨?_, ?_, ?_⟩
  · unfold shL; rw [if_pos hb2, hs]; exact a1
  · unfold shR; rw [if_pos hb2, hs, a2, if_pos hb]
  · unfold shE; rw [if_pos hb2, hs]; exact a3

theorem outY_again {L M : List Nd} {op x y : Int} (hx : hasB L.length x = true) (he : (outY L op x y).e = 0) : outY (L ++ M) op x y = ⟨L ++ M, (outY L op x y).r, 0⟩ := by
  unfold outY at *
  rw [nd_ext hx]
  split
  · rfl
  · split
    · rfl
    · split
      · rfl
      · rename_i h1 h2 h3
        rw [if_neg h1, if_neg h2, if_neg h3] at he
        exact absurd (show (12 : Int) = 0 from he) (by decide)
/-- What a step refers to is there. -/
theorem pick_has {L : List Nd} (h : WF L) {H Y : List Int} (hH : ∀ x ∈ H, hasB L.length x = true) (hY : ∀ y ∈ Y, hasB L.length y = true) {s : Sp} (hp : pickB (srcS H Y s) (idx s) = true) (j : Nat) : hasB L.length ((pickL (srcS H Y s) (idx s)).getD j 0) = true := by
  rcases pick_in hp j with e | e
  · unfold srcS at e
    unfold srcS
    split at e
    · rename_i h0
      rw [if_pos h0]; exact hH _ e
    · rename_i h0
      rw [if_neg h0]; exact hY _ e
  · rw [e]; exact has_zero h
theorem has_int {L : List Nd} (hl : L.length ≤ 65536) {x : Int} (h : hasB L.length x = true) : i64ok x := i64ok_of (hasB_iff.1 h) hl
/-- A step's arena is the elder one, with more. -/
theorem stepY_grow {lim : Nat} {L : List Nd} {H Y : List Int} (h : WF L) (hl : L.length ≤ 65536) (hH : ∀ x ∈ H, hasB L.length x = true) (hY : ∀ y ∈ Y, hasB L.length y = true) (s : Sp) (he : (stepY lim H L Y s).e = 0) :
    (∃ M, (stepY lim H L Y s).L = L ++ M) ∧ WF (stepY lim H L Y s).L ∧ hasB (stepY lim H L Y s).L.length (stepY lim H L Y s).r = true ∧
    ∀ M, WF ((stepY lim H L Y s).L ++ M) → stepY lim H ((stepY lim H L Y s).L ++ M) Y s = ⟨(stepY lim H L Y s).L ++ M, (stepY lim H L Y s).r, 0⟩ := by
  unfold stepY at *
  cases hu : usedB s with
  | false => rw [hu, if_neg (by decide)] at he; exact absurd (show (12 : Int) = 0 from he) (by decide)
  | true =>
    rw [hu] at he
    rw [if_pos rfl] at he
    simp only [if_true]
    cases hp : pickB (srcS H Y s) (idx s) with
    | false => rw [hp, if_neg (by decide)] at he; exact absurd (show (12 : Int) = 0 from he) (by decide)
    | true =>
      rw [hp] at he
      rw [if_pos rfl] at he
      simp only [if_true]
      have hx := pick_has h hH hY hp 0
      have hy := pick_has h hH hY hp 1
      have hz := pick_has h hH hY hp 2
      generalize (pickL (srcS H Y s) (idx s)).getD 0 0 = x at *
      generalize (pickL (srcS H Y s) (idx s)).getD 1 0 = y at *
      generalize (pickL (srcS H Y s) (idx s)).getD 2 0 = z at *
      obtain ⟨⟨o0, o1, o2⟩, _, _⟩ := used_op hu
      obtain ⟨n0, n1, n2⟩ := used_n hu
      have mk : ∀ d : Nd, d.ok → mkE lim L d = 0 → (∃ M, mkL lim L d = L ++ M) ∧ WF (mkL lim L d) ∧ hasB (mkL lim L d).length (mkR lim L d) = true ∧ ∀ M, WF (mkL lim L d ++ M) → mkY lim (mkL lim L d ++ M) d = ⟨mkL lim L d ++ M, mkR lim L d, 0⟩ := fun d hok hd => by
        obtain ⟨_, i, hr, hi, _, _, _, hM⟩ := mk_at h hok hd
        refine ⟨hM, mk_wf h hok, by rw [hr]; exact hasB_iff.2 ⟨by omega, by omega⟩, fun M hw => ?_⟩
        obtain ⟨a1, a2, a3⟩ := mkY_again h hok hd hw
        unfold mkY; rw [a1, a2, a3]
      unfold doY at *
      by_cases c0 : s.op = 0
      · simp only [if_pos c0]
        exact ⟨⟨[], by simp⟩, h, hx, fun M _ => by simp⟩
      · simp only [if_neg c0] at he ⊢
        by_cases c1 : s.op = 1
        · simp only [if_pos c1] at he ⊢
          have := n2 c1
          exact mk ⟨1, 4294967296 + s.n, 0, 0, 0⟩ ⟨by unfold i64ok; simp only; omega, by unfold u64ok; simp only; omega, by unfold i64ok; simp only; omega, by unfold i64ok; simp only; omega, by unfold i64ok; simp only; omega⟩ he
        · simp only [if_neg c1] at he ⊢
          by_cases c3 : s.op = 3
          · simp only [if_pos c3] at he ⊢
            have he' : shE lim L x y = 0 := he
            have hb := sh_both he'
            have e1 : shL lim L x y = mkL lim L (shN L x y) := by unfold shL; rw [if_pos hb]
            have e2 : shR lim L x y = mkR lim L (shN L x y) := by unfold shR; rw [if_pos hb]
            have e3 : mkE lim L (shN L x y) = 0 := by rw [← he']; unfold shE; rw [if_pos hb]
            obtain ⟨g1, g2, g3, _⟩ := mk (shN L x y) (shN_ok h hl hb) e3
            rw [← e1] at g1 g2 g3
            rw [← e2] at g3
            refine ⟨g1, g2, g3, fun M hw => ?_⟩
            obtain ⟨a1, a2, a3⟩ := shY_again h hl he' hw
            show shY lim (shL lim L x y ++ M) x y = _
            unfold shY; rw [a1, a2, a3]
          · simp only [if_neg c3] at he ⊢
            by_cases c10 : s.op = 10 ∨ s.op = 11 ∨ s.op = 12
            · simp only [if_pos c10] at he ⊢
              rw [outY_L]
              refine ⟨⟨[], by simp⟩, h, ?_, fun M _ => outY_again hx he⟩
              obtain ⟨pa, pb, pc⟩ := parts_has h hx
              unfold outY
              split
              · exact pa
              · split
                · exact pb
                · split
                  · exact pc
                  · exact has_zero h
            · simp only [if_neg c10] at he ⊢
              by_cases c13 : s.op = 13
              · simp only [if_pos c13]
                exact ⟨⟨[], by simp⟩, h, has_zero h, fun M _ => by simp⟩
              · simp only [if_neg c13] at he ⊢
                exact mk ⟨s.op, s.n, x, y, z⟩ ⟨by unfold i64ok; simp only; omega, by unfold u64ok; simp only; omega, has_int hl hx, has_int hl hy, has_int hl hz⟩ he
/-- A recipe that is run again. -/
theorem runY_again {lim : Nat} (hlim : lim ≤ 65536) {H : List Int} : ∀ (l : List Sp) (L : List Nd) (Y : List Int) (i : Nat), WF L → L.length ≤ lim → (∀ x ∈ H, hasB L.length x = true) → (∀ y ∈ Y, hasB L.length y = true) →
    ((∃ M, (runY lim H l L Y i).L = L ++ M) ∧ WF (runY lim H l L Y i).L) ∧ runY lim H l (runY lim H l L Y i).L Y i = runY lim H l L Y i
  | [], L, Y, i, h, _, _, _ => ⟨⟨⟨[], by simp [runY]⟩, h⟩, rfl⟩
  | s :: r, L, Y, i, h, hl, hH, hY => by
    by_cases e0 : (stepY lim H L Y s).e = 0
    · obtain ⟨⟨M, hM⟩, hw, hr, hag⟩ := stepY_grow h (by omega) hH hY s e0
      have hl2 := stepY_len (H := H) (Y := Y) (s := s) hl
      have hh : ∀ v, hasB L.length v = true → hasB (stepY lim H L Y s).L.length v = true := fun v hv => by rw [hM]; exact has_ext hv
      obtain ⟨⟨⟨N, hN⟩, hw2⟩, hq⟩ := runY_again hlim r (stepY lim H L Y s).L (Y ++ [(stepY lim H L Y s).r]) (i + 1) hw hl2 (fun x hx => hh x (hH x hx)) (fun y hy => by
        rcases List.mem_append.1 hy with h1 | h1
        · exact hh y (hY y h1)
        · rw [List.mem_singleton.1 h1]; exact hr)
      have eR : runY lim H (s :: r) L Y i = runY lim H r (stepY lim H L Y s).L (Y ++ [(stepY lim H L Y s).r]) (i + 1) := by
        rw [runY, if_pos e0]
      rw [eR]
      refine ⟨⟨⟨M ++ N, by rw [hN, hM, List.append_assoc]⟩, hw2⟩, ?_⟩
      generalize hX : runY lim H r (stepY lim H L Y s).L (Y ++ [(stepY lim H L Y s).r]) (i + 1) = X at *
      have h3 := hag N (by rw [← hN]; exact hw2)
      rw [← hN] at h3
      rw [runY, h3, if_pos rfl]
      exact hq
    · have eR : runY lim H (s :: r) L Y i = ⟨L, [], i, (stepY lim H L Y s).e⟩ := by rw [runY, if_neg e0]
      rw [eR]
      refine ⟨⟨⟨[], by simp⟩, h⟩, ?_⟩
      rw [runY, if_neg e0]
/-- A recipe of two. -/
theorem runY_append {lim : Nat} {H : List Int} (two : List Sp) : ∀ (one : List Sp) (L : List Nd) (Y : List Int) (i : Nat), runY lim H (one ++ two) L Y i = if (runY lim H one L Y i).e = 0 then runY lim H two (runY lim H one L Y i).L (runY lim H one L Y i).Y (i + one.length) else runY lim H one L Y i
  | [], L, Y, i => by simp [runY]
  | s :: r, L, Y, i => by
    rw [List.cons_append]
    by_cases e0 : (stepY lim H L Y s).e = 0
    · have a1 : runY lim H (s :: (r ++ two)) L Y i = runY lim H (r ++ two) (stepY lim H L Y s).L (Y ++ [(stepY lim H L Y s).r]) (i + 1) := by rw [runY, if_pos e0]
      have a2 : runY lim H (s :: r) L Y i = runY lim H r (stepY lim H L Y s).L (Y ++ [(stepY lim H L Y s).r]) (i + 1) := by rw [runY, if_pos e0]
      rw [a1, a2, runY_append two r, List.length_cons, show i + (r.length + 1) = i + 1 + r.length by omega]
    · have a1 : runY lim H (s :: (r ++ two)) L Y i = ⟨L, [], i, (stepY lim H L Y s).e⟩ := by rw [runY, if_neg e0]
      have a2 : runY lim H (s :: r) L Y i = ⟨L, [], i, (stepY lim H L Y s).e⟩ := by rw [runY, if_neg e0]
      rw [a1, a2, if_neg e0]
end Go.Proofs.YtlckajnbmkkpeaaDoor
