/- The plain mathematics of states: what is mixed, sealed, opened, split; the term of a name. No program is named here. -/
import Derived.Test.YtgjhhipkfglpgaaDoorJa
namespace Go.Proofs.YtgjhhipkfglpgaaDoor

/-- A state: chaining key, hash, cipher. -/
structure Sf where
  ck : Int
  h : Int
  c : Cf
def sZ : Sf := ⟨0, 0, cZ⟩
theorem Sf.ext3 {x y : Sf} (h1 : x.ck = y.ck) (h2 : x.h = y.h) (h3 : x.c = y.c) : x = y := by
  cases x; cases y; simp_all
def keyN (i ck x : Int) : Nd := ⟨6, i, ck, x, 0⟩
def hashN (h x : Int) : Nd := ⟨5, 0, h, x, 0⟩
def pairN (a b : Int) : Nd := ⟨8, 0, a, b, 0⟩
def wordN (n : Int) : Nd := ⟨9, n, 0, 0, 0⟩

/-- MixHash. -/
def mhL (lim : Nat) (L : List Nd) (s : Sf) (x : Int) : List Nd := mkL lim L (hashN s.h x)
def mhE (lim : Nat) (L : List Nd) (s : Sf) (x : Int) : Int := mkE lim L (hashN s.h x)
def mhS (lim : Nat) (L : List Nd) (s : Sf) (x : Int) : Sf := if mhE lim L s x = 0 then ⟨s.ck, mkR lim L (hashN s.h x), s.c⟩ else sZ
/-- MixKey. -/
def mk1L (lim : Nat) (L : List Nd) (s : Sf) (x : Int) : List Nd := mkL lim L (keyN 1 s.ck x)
def mk1E (lim : Nat) (L : List Nd) (s : Sf) (x : Int) : Int := mkE lim L (keyN 1 s.ck x)
def mk1R (lim : Nat) (L : List Nd) (s : Sf) (x : Int) : Int := mkR lim L (keyN 1 s.ck x)
def mk2L (lim : Nat) (L : List Nd) (s : Sf) (x : Int) : List Nd := mkL lim (mk1L lim L s x) (keyN 2 s.ck x)
def mk2E (lim : Nat) (L : List Nd) (s : Sf) (x : Int) : Int := mkE lim (mk1L lim L s x) (keyN 2 s.ck x)
def mk2R (lim : Nat) (L : List Nd) (s : Sf) (x : Int) : Int := mkR lim (mk1L lim L s x) (keyN 2 s.ck x)
def mk3L (lim : Nat) (L : List Nd) (s : Sf) (x : Int) : List Nd := mkL lim (mk2L lim L s x) (keyN 3 s.ck x)
def mk3E (lim : Nat) (L : List Nd) (s : Sf) (x : Int) : Int := mkE lim (mk2L lim L s x) (keyN 3 s.ck x)
def mk3R (lim : Nat) (L : List Nd) (s : Sf) (x : Int) : Int := mkR lim (mk2L lim L s x) (keyN 3 s.ck x)

/-- A node that is made well: where it stands, what it is, what stays. -/
structure Made (L M : List Nd) (d : Nd) (r : Int) : Prop where
  wf : WF M
  ext : ∃ T, M = L ++ T
  le : M.length ≤ L.length + 1
  hr : hasB M.length r = true
  at_ : nd M r = d
theorem made {lim : Nat} {L : List Nd} {d : Nd} (hL : WF L) (hok : d.ok) (hl : L.length < lim) (hr : right L d = true) : mkE lim L d = 0 ∧ Made L (mkL lim L d) d (mkR lim L d) := by
  have he := mk_room hr hl
  obtain ⟨_, i, h1, h2, h3, _, _, M, hM⟩ := mk_at hL hok he
  exact ⟨he, mk_wf hL hok, ⟨M, hM⟩, (mk_len (d := d) (Nat.le_of_lt hl)).2.2, by rw [h1]; exact hasB_iff.2 ⟨by omega, by omega⟩, by rw [h1]; unfold nd; rw [Int.toNat_natCast]; exact h3⟩
theorem hasB_ext {L T : List Nd} {x : Int} (h : hasB L.length x = true) : hasB (L ++ T).length x = true := by
  rw [hasB_iff] at *; simp only [List.length_append]; omega
theorem nd_ext2 {L T : List Nd} {x : Int} (h : hasB L.length x = true) : nd (L ++ T) x = nd L x := nd_append (hasB_iff.1 h).1 (hasB_iff.1 h).2
theorem Made.has {L M : List Nd} {d : Nd} {r x : Int} (h : Made L M d r) (hx : hasB L.length x = true) : hasB M.length x = true := by
  obtain ⟨T, hT⟩ := h.ext; rw [hT]; exact hasB_ext hx
theorem Made.keep {L M : List Nd} {d : Nd} {r x : Int} (h : Made L M d r) (hx : hasB L.length x = true) : nd M x = nd L x := by
  obtain ⟨T, hT⟩ := h.ext; rw [hT]; exact nd_ext2 hx
theorem Made.ge {L M : List Nd} {d : Nd} {r : Int} (h : Made L M d r) : L.length ≤ M.length := by
  obtain ⟨T, hT⟩ := h.ext; rw [hT]; simp
/-- Refs of other nodes are others. -/
theorem nd_ne {L : List Nd} {x y : Int} (h : nd L x ≠ nd L y) : x ≠ y := fun e => h (by rw [e])
theorem ref_i64 {n : Nat} {x : Int} (hn : n ≤ 65536) (h : hasB n x = true) : i64ok x := i64ok_of (hasB_iff.1 h) hn
theorem keyN_ok {n : Nat} {i ck x : Int} (hn : n ≤ 65536) (hi : 0 ≤ i ∧ i ≤ 4) (h1 : hasB n ck = true) (h2 : hasB n x = true) : (keyN i ck x).ok :=
  ⟨by simp [keyN, i64ok], by unfold keyN u64ok; constructor <;> simp only <;> omega, ref_i64 hn h1, ref_i64 hn h2, by simp [keyN, i64ok]⟩
theorem keyN_right {L : List Nd} {i ck x : Int} (hi : 1 ≤ i ∧ i ≤ 4) (h1 : hasB L.length ck = true) (h2 : hasB L.length x = true) : right L (keyN i ck x) = true := by
  rw [right_iff]
  exact ⟨by simp [many, keyN], by simp [partsOk, partOk, many, keyN, h1, h2], by unfold numOk; rw [if_pos (show (keyN i ck x).k = 6 from rfl)]; exact decide_eq_true hi, by simp [lastOk, keyN]⟩
theorem hashN_ok {n : Nat} {h x : Int} (hn : n ≤ 65536) (h1 : hasB n h = true) (h2 : hasB n x = true) : (hashN h x).ok :=
  ⟨by simp [hashN, i64ok], by simp [hashN, u64ok], ref_i64 hn h1, ref_i64 hn h2, by simp [hashN, i64ok]⟩
theorem hashN_right {L : List Nd} {h x : Int} (h1 : hasB L.length h = true) (h2 : hasB L.length x = true) : right L (hashN h x) = true := by
  rw [right_iff]
  exact ⟨by simp [many, hashN], by simp [partsOk, partOk, many, hashN, h1, h2], by simp [numOk, hashN], by simp [lastOk, hashN]⟩
theorem pairN_ok {n : Nat} {h x : Int} (hn : n ≤ 65536) (h1 : hasB n h = true) (h2 : hasB n x = true) : (pairN h x).ok :=
  ⟨by simp [pairN, i64ok], by simp [pairN, u64ok], ref_i64 hn h1, ref_i64 hn h2, by simp [pairN, i64ok]⟩
theorem pairN_right {L : List Nd} {h x : Int} (h1 : hasB L.length h = true) (h2 : hasB L.length x = true) : right L (pairN h x) = true := by
  rw [right_iff]
  exact ⟨by simp [many, pairN], by simp [partsOk, partOk, many, pairN, h1, h2], by simp [numOk, pairN], by simp [lastOk, pairN]⟩
theorem wordN_ok {b : Int} (hb : u64ok b) : (wordN b).ok := ⟨by simp [wordN, i64ok], hb, by simp [wordN, i64ok], by simp [wordN, i64ok], by simp [wordN, i64ok]⟩
theorem wordN_right {L : List Nd} {b : Int} : right L (wordN b) = true := by
  rw [right_iff]
  exact ⟨by simp [many, wordN], by simp [partsOk, partOk, many, wordN], by simp [numOk, wordN], by simp [lastOk, wordN]⟩

/-- What is made later of another node is another ref. -/
theorem made_ne {L M P : List Nd} {d d' : Nd} {r r' : Int} (h : Made L M d r) (h' : Made M P d' r') (hne : d ≠ d') : r ≠ r' := fun e => hne (by
  rw [← h.at_, ← h'.at_, ← e, h'.keep h.hr])
theorem Made.trans {L M P : List Nd} {d d' : Nd} {r r' : Int} (h : Made L M d r) (h' : Made M P d' r') : (∃ T, P = L ++ T) ∧ hasB P.length r = true ∧ nd P r = d := by
  obtain ⟨T, hT⟩ := h.ext
  obtain ⟨U, hU⟩ := h'.ext
  exact ⟨⟨T ++ U, by rw [hU, hT, List.append_assoc]⟩, h'.has h.hr, by rw [h'.keep h.hr, h.at_]⟩
theorem keyN_ne {i j ck ck' x x' : Int} (h : i ≠ j ∨ ck ≠ ck' ∨ x ≠ x') : keyN i ck x ≠ keyN j ck' x' := by
  intro e
  simp only [keyN, Nd.mk.injEq] at e
  omega
theorem hashN_ne {h h' x x' : Int} (hh : h ≠ h' ∨ x ≠ x') : hashN h x ≠ hashN h' x' := by
  intro e
  simp only [hashN, Nd.mk.injEq] at e
  omega

/-- What is mixed well. -/
theorem mh_good {lim : Nat} {L : List Nd} {s : Sf} {x : Int} (hL : WF L) (hm : lim ≤ 65536) (hl : L.length < lim) (h1 : hasB L.length s.h = true) (h2 : hasB L.length x = true) :
    mhE lim L s x = 0 ∧ Made L (mhL lim L s x) (hashN s.h x) (mkR lim L (hashN s.h x)) ∧ mhS lim L s x = ⟨s.ck, mkR lim L (hashN s.h x), s.c⟩ := by
  obtain ⟨e, m⟩ := made (lim := lim) hL (hashN_ok (n := L.length) (by omega) h1 h2) hl (hashN_right h1 h2)
  exact ⟨e, m, by unfold mhS; exact if_pos e⟩
theorem mk1_good {lim : Nat} {L : List Nd} {s : Sf} {x : Int} (hL : WF L) (hm : lim ≤ 65536) (hl : L.length < lim) (h1 : hasB L.length s.ck = true) (h2 : hasB L.length x = true) :
    mk1E lim L s x = 0 ∧ Made L (mk1L lim L s x) (keyN 1 s.ck x) (mk1R lim L s x) :=
  made hL (keyN_ok (n := L.length) (by omega) (by omega) h1 h2) hl (keyN_right (by omega) h1 h2)
theorem mk2_good {lim : Nat} {L : List Nd} {s : Sf} {x : Int} (hL : WF L) (hm : lim ≤ 65536) (hl : L.length + 1 < lim) (h1 : hasB L.length s.ck = true) (h2 : hasB L.length x = true) :
    mk2E lim L s x = 0 ∧ Made (mk1L lim L s x) (mk2L lim L s x) (keyN 2 s.ck x) (mk2R lim L s x) := by
  obtain ⟨_, m⟩ := mk1_good (s := s) (x := x) hL hm (by omega) h1 h2
  have := m.le
  exact made m.wf (keyN_ok (n := (mk1L lim L s x).length) (by omega) (by omega) (m.has h1) (m.has h2)) (by omega) (keyN_right (by omega) (m.has h1) (m.has h2))
theorem mk3_good {lim : Nat} {L : List Nd} {s : Sf} {x : Int} (hL : WF L) (hm : lim ≤ 65536) (hl : L.length + 2 < lim) (h1 : hasB L.length s.ck = true) (h2 : hasB L.length x = true) :
    mk3E lim L s x = 0 ∧ Made (mk2L lim L s x) (mk3L lim L s x) (keyN 3 s.ck x) (mk3R lim L s x) := by
  obtain ⟨_, m⟩ := mk1_good (s := s) (x := x) hL hm (by omega) h1 h2
  obtain ⟨_, m2⟩ := mk2_good (s := s) (x := x) hL hm (by omega) h1 h2
  have := m.le
  have := m2.le
  exact made m2.wf (keyN_ok (n := (mk2L lim L s x).length) (by omega) (by omega) (m2.has (m.has h1)) (m2.has (m.has h2))) (by omega) (keyN_right (by omega) (m2.has (m.has h1)) (m2.has (m.has h2)))

/-- The term of a name, its bytes from the last one on. -/
def Nm (L : List Nd) : List Int → Int → Prop
  | [], r => r = 0
  | b :: l, r => hasB L.length r = true ∧ ∃ p q, nd L r = pairN p q ∧ Nm L l p ∧ hasB L.length q = true ∧ nd L q = wordN b
theorem Nm.has {L : List Nd} (hL : 0 < L.length) : ∀ {l : List Int} {r : Int}, Nm L l r → hasB L.length r = true
  | [], _, h => by unfold Nm at h; subst h; exact hasB_iff.2 ⟨by omega, by omega⟩
  | _ :: _, _, h => h.1
theorem Nm.ext {L T : List Nd} (hL : 0 < L.length) : ∀ {l : List Int} {r : Int}, Nm L l r → Nm (L ++ T) l r
  | [], _, h => h
  | _ :: _, _, ⟨h1, p, q, h2, h3, h4, h5⟩ => ⟨hasB_ext h1, p, q, by rw [nd_ext2 h1]; exact h2, Nm.ext hL h3, hasB_ext h4, by rw [nd_ext2 h4]; exact h5⟩
theorem nd_zero {L : List Nd} (hL : WFp L) : nd L 0 = zN := by
  have := hL.head
  unfold nd
  rw [List.getD_eq_getElem?_getD]
  simp [this]
/-- One term has one name. -/
theorem Nm.inj {L : List Nd} (hL : WFp L) : ∀ {l l' : List Int} {r : Int}, Nm L l r → Nm L l' r → l = l'
  | [], [], _, _, _ => rfl
  | [], b :: l', r, h, ⟨_, p, q, h2, _⟩ => by
    unfold Nm at h; subst h
    rw [nd_zero hL] at h2
    simp [zN, pairN] at h2
  | b :: l, [], r, ⟨_, p, q, h2, _⟩, h => by
    unfold Nm at h; subst h
    rw [nd_zero hL] at h2
    simp [zN, pairN] at h2
  | b :: l, b' :: l', r, ⟨_, p, q, h2, h3, _, h5⟩, ⟨_, p', q', h2', h3', _, h5'⟩ => by
    rw [h2] at h2'
    simp only [pairN, Nd.mk.injEq, true_and, and_true] at h2'
    obtain ⟨rfl, rfl⟩ := h2'
    rw [h5] at h5'
    simp only [wordN, Nd.mk.injEq, true_and, and_true] at h5'
    rw [Nm.inj hL h3 h3', h5']
/-- One name has one term. -/
theorem Nm.one {L : List Nd} (hL : WFp L) : ∀ {l : List Int} {r r' : Int}, Nm L l r → Nm L l r' → r = r'
  | [], _, _, h, h' => by unfold Nm at h h'; rw [h, h']
  | b :: l, r, r', ⟨h1, p, q, h2, h3, h4, h5⟩, ⟨h1', p', q', h2', h3', h4', h5'⟩ => by
    have e1 := Nm.one hL h3 h3'
    have e2 : q = q' := hL.nd_inj (both_iff.2 ⟨hasB_iff.1 h4, hasB_iff.1 h4'⟩) (by rw [h5, h5'])
    exact hL.nd_inj (both_iff.2 ⟨hasB_iff.1 h1, hasB_iff.1 h1'⟩) (by rw [h2, h2', e1, e2])
end Go.Proofs.YtgjhhipkfglpgaaDoor
