/- The plain mathematics of states that there are: what each call leaves. No program is named here. -/
import Derived.Test.YtgjhhipkfglpgaaDoorKj
namespace Go.Proofs.YtgjhhipkfglpgaaDoor

theorem sl_stands {lim : Nat} {L : List Nd} {c : Cf} {ad p : Int} (hL : WF L) (hm : L.length ≤ 65536) (hn : u64ok c.n) (hh : c.h = true) (he : slE lim L c ad p = 0) :
    hasB (slL lim L c ad p).length (slR lim L c ad p) = true ∧ nd (slL lim L c ad p) (slR lim L c ad p) = slN c ad p ∧ (hasB (slL lim L c ad p).length ad = true ∧ hasB (slL lim L c ad p).length c.k = true) ∧ c.n ≠ lastU ∧ slC lim L c ad p = nxt c := by
  have hk : chk L.length c ad p = 0 := by
    rcases chk_cases L.length c ad p with h | h
    · have h0 : chk L.length c ad p ≠ 0 := by rcases h with h | h <;> rw [h] <;> decide
      rw [(chk_err h0).2.1] at he; exact absurd he h0
    · exact h
  obtain ⟨e1, e2, e3, e4⟩ := sl_mk (lim := lim) hk hh
  obtain ⟨⟨q1, q2⟩, q3⟩ := chk_zero hk
  obtain ⟨q4, q5⟩ := q3 hh
  rw [e2] at he
  have hok : (slN c ad p).ok := slN_ok ⟨i64ok_of (hasB_iff.1 q4) hm, hn⟩ (i64ok_of (hasB_iff.1 q1) hm) (i64ok_of (hasB_iff.1 q2) hm)
  obtain ⟨_, i, h1, h2, h3, _, _, M, hM⟩ := mk_at hL hok he
  rw [e1, e3, e4, h1, if_pos he]
  refine ⟨hasB_iff.2 ⟨by omega, by omega⟩, by unfold nd; rw [Int.toNat_natCast]; exact h3, ⟨?_, ?_⟩, q5, rfl⟩
  · rw [hM]; exact hasB_ext q1
  · rw [hM]; exact hasB_ext q4
theorem sl_back {lim : Nat} {L : List Nd} {c : Cf} {ad p : Int} (hL : WF L) (hm : L.length ≤ 65536) (hn : u64ok c.n) (he : slE lim L c ad p = 0) :
    opE (slL lim L c ad p) c ad (slR lim L c ad p) = 0 ∧ opR (slL lim L c ad p) c ad (slR lim L c ad p) = p ∧ opC (slL lim L c ad p) c ad (slR lim L c ad p) = slC lim L c ad p := by
  cases hh : c.h
  · have hk : chk L.length c ad p = 0 := by
      rcases chk_cases L.length c ad p with h | h
      · have h0 : chk L.length c ad p ≠ 0 := by rcases h with h | h <;> rw [h] <;> decide
        rw [(chk_err h0).2.1] at he; exact absurd he h0
      · exact h
    obtain ⟨e1, e2, e3, e4⟩ := sl_none (lim := lim) hk hh
    rw [e1, e3, e4]
    exact op_none hk hh
  · obtain ⟨h1, h2, ⟨h3, h4⟩, h5, h6⟩ := sl_stands hL hm hn hh he
    have hk := chk_good (c := c) (ad := ad) (x := slR lim L c ad p) (by rw [h3, h1]; rfl) hh h4 h5
    have hb : opB (nd (slL lim L c ad p) (slR lim L c ad p)) c ad = true := by rw [h2]; simp [opB, slN]
    obtain ⟨o1, o2, o3⟩ := op_yes hk hh hb
    exact ⟨o1, by rw [o2, h2]; rfl, by rw [o3, h6]⟩
/-- What an arena becomes by so many terms at most. -/
structure Went (L M : List Nd) (k : Nat) : Prop where
  wf : WF M
  ext : ∃ T, M = L ++ T
  le : M.length ≤ L.length + k
section
variable {L M P : List Nd} {d : Nd} {r x : Int} {k m : Nat}
theorem Made.went (h : Made L M d r) : Went L M 1 := ⟨h.wf, h.ext, h.le⟩
theorem Went.has (h : Went L M k) (hx : hasB L.length x = true) : hasB M.length x = true := by
  obtain ⟨T, hT⟩ := h.ext; rw [hT]; exact hasB_ext hx
theorem Went.keep (h : Went L M k) (hx : hasB L.length x = true) : nd M x = nd L x := by
  obtain ⟨T, hT⟩ := h.ext; rw [hT]; exact nd_ext2 hx
theorem Went.trans (h : Went L M k) (h' : Went M P m) : Went L P (k + m) := by
  obtain ⟨T, hT⟩ := h.ext
  obtain ⟨U, hU⟩ := h'.ext
  exact ⟨h'.wf, ⟨T ++ U, by rw [hU, hT, List.append_assoc]⟩, by have := h.le; have := h'.le; omega⟩
theorem Went.more (h : Went L M k) (hk : k ≤ m) : Went L M m := ⟨h.wf, h.ext, by have := h.le; omega⟩
theorem Went.refl (h : WF L) : Went L L 0 := ⟨h, ⟨[], by simp⟩, Nat.le_refl _⟩
end
/-- A state whose refs there are. -/
structure Gd (M : List Nd) (s : Sf) : Prop where
  ck : hasB M.length s.ck = true
  h : hasB M.length s.h = true
  k : s.c.h = true → hasB M.length s.c.k = true
  ko : i64ok s.c.k
  n : u64ok s.c.n
theorem Gd.went {L M : List Nd} {s : Sf} {k : Nat} (g : Gd L s) (w : Went L M k) : Gd M s := ⟨w.has g.ck, w.has g.h, fun e => w.has (g.k e), g.ko, g.n⟩
theorem Gd.okc {M : List Nd} {s : Sf} (g : Gd M s) (hm : M.length ≤ 65536) : i64ok s.ck := ref_i64 hm g.ck
theorem Gd.okh {M : List Nd} {s : Sf} (g : Gd M s) (hm : M.length ≤ 65536) : i64ok s.h := ref_i64 hm g.h

section
variable {lim : Nat} {L : List Nd} {s : Sf} {x : Int}
theorem mh_go (hL : WF L) (hm : lim ≤ 65536) (hl : L.length + 1 ≤ lim) (g : Gd L s) (hx : hasB L.length x = true) :
    mhE lim L s x = 0 ∧ Went L (mhL lim L s x) 1 ∧ Gd (mhL lim L s x) (mhS lim L s x) ∧ ∃ r, mhS lim L s x = ⟨s.ck, r, s.c⟩ ∧ hasB (mhL lim L s x).length r = true ∧ nd (mhL lim L s x) r = hashN s.h x := by
  obtain ⟨e, m, hs⟩ := mh_good (lim := lim) (s := s) (x := x) hL hm (by omega) g.h hx
  refine ⟨e, m.went, ?_, _, hs, m.hr, m.at_⟩
  rw [hs]
  exact ⟨m.has g.ck, m.hr, fun q => m.has (g.k q), g.ko, g.n⟩
theorem mx_go (hL : WF L) (hm : lim ≤ 65536) (hl : L.length + 2 ≤ lim) (g : Gd L s) (hx : hasB L.length x = true) :
    yE lim L s.ck x 2 = 0 ∧ Went L (yL lim L s.ck x 2) 2 ∧ Gd (yL lim L s.ck x 2) (mxS lim L s x) ∧ ∃ r0 r1, mxS lim L s x = ⟨r0, s.h, ⟨r1, true, 0⟩⟩ ∧ (hasB (yL lim L s.ck x 2).length r0 = true ∧ nd (yL lim L s.ck x 2) r0 = keyN 1 s.ck x) ∧ hasB (yL lim L s.ck x 2).length r1 = true ∧ nd (yL lim L s.ck x 2) r1 = keyN 2 s.ck x := by
  obtain ⟨e, hw, ht, hlen, hi⟩ := y_good (lim := lim) hL hm g.ck hx 2 (by omega) hl
  have W : Went L (yL lim L s.ck x 2) 2 := ⟨hw, ht, hlen⟩
  have hs : mxS lim L s x = ⟨yR lim L s.ck x 0, s.h, ⟨yR lim L s.ck x 1, true, 0⟩⟩ := by unfold mxS; exact if_pos e
  refine ⟨e, W, ?_, _, _, hs, hi 0 (by omega), hi 1 (by omega)⟩
  rw [hs]
  exact ⟨(hi 0 (by omega)).1, W.has g.h, fun _ => (hi 1 (by omega)).1, ref_i64 (by omega) (hi 1 (by omega)).1, by simp [u64ok]⟩
theorem mb_go (hL : WF L) (hm : lim ≤ 65536) (hl : L.length + 4 ≤ lim) (g : Gd L s) (hx : hasB L.length x = true) :
    mbE lim L s x = 0 ∧ Went L (mbL lim L s x) 4 ∧ Gd (mbL lim L s x) (mbS lim L s x) ∧ ∃ r0 r1 r2 r, mbS lim L s x = ⟨r0, r, ⟨r2, true, 0⟩⟩ ∧ (hasB (mbL lim L s x).length r0 = true ∧ nd (mbL lim L s x) r0 = keyN 1 s.ck x) ∧ (hasB (mbL lim L s x).length r2 = true ∧ nd (mbL lim L s x) r2 = keyN 3 s.ck x) ∧ hasB (mbL lim L s x).length r = true ∧ nd (mbL lim L s x) r = hashN s.h r1 := by
  obtain ⟨e, hw, ht, hlen, hi⟩ := y_good (lim := lim) hL hm g.ck hx 3 (by omega) (by omega)
  have W : Went L (yL lim L s.ck x 3) 3 := ⟨hw, ht, hlen⟩
  have gt : Gd (yL lim L s.ck x 3) (mbT lim L s x) := ⟨(hi 0 (by omega)).1, W.has g.h, fun _ => (hi 2 (by omega)).1, ref_i64 (by omega) (hi 2 (by omega)).1, by simp [mbT, u64ok]⟩
  obtain ⟨e2, W2, g2, r, hs, hr, hd⟩ := mh_go (lim := lim) hw hm (by omega) gt (hi 1 (by omega)).1
  have hL2 : mbL lim L s x = mhL lim (yL lim L s.ck x 3) (mbT lim L s x) (yR lim L s.ck x 1) := by unfold mbL; exact if_pos e
  have hE2 : mbE lim L s x = mhE lim (yL lim L s.ck x 3) (mbT lim L s x) (yR lim L s.ck x 1) := by unfold mbE; exact if_pos e
  have hS2 : mbS lim L s x = mhS lim (yL lim L s.ck x 3) (mbT lim L s x) (yR lim L s.ck x 1) := by unfold mbS; exact if_pos e
  rw [hL2, hE2, hS2]
  refine ⟨e2, W.trans W2, g2, yR lim L s.ck x 0, yR lim L s.ck x 1, yR lim L s.ck x 2, r, hs, ⟨W2.has (hi 0 (by omega)).1, ?_⟩, ⟨W2.has (hi 2 (by omega)).1, ?_⟩, hr, hd⟩
  · rw [W2.keep (hi 0 (by omega)).1]; exact (hi 0 (by omega)).2
  · rw [W2.keep (hi 2 (by omega)).1]; exact (hi 2 (by omega)).2
/-- What is sealed is opened by the same state, and both are the same then. -/
theorem se_go (hL : WF L) (hm : lim ≤ 65536) (hl : L.length + 2 ≤ lim) (g : Gd L s) (hn : s.c.n < lastU) (hx : hasB L.length x = true) :
    seE lim L s x = 0 ∧ Went L (seL lim L s x) 2 ∧ Gd (seL lim L s x) (seS lim L s x) ∧ hasB (seL lim L s x).length (seR lim L s x) = true ∧ ((seS lim L s x).c.n ≤ s.c.n + 1 ∧ (seS lim L s x).c.h = s.c.h) ∧
      onL lim (seL lim L s x) s (seR lim L s x) = seL lim L s x ∧ onE lim (seL lim L s x) s (seR lim L s x) = 0 ∧ onS lim (seL lim L s x) s (seR lim L s x) = seS lim L s x ∧ onR lim (seL lim L s x) s (seR lim L s x) = x := by
  have hk : chk L.length s.c s.h x = 0 := by
    cases hh : s.c.h
    · exact chk_none (by rw [g.h, hx]; rfl) hh
    · exact chk_good (by rw [g.h, hx]; rfl) hh (g.k hh) (by omega)
  -- what the cipher makes
  have hc : slE lim L s.c s.h x = 0 ∧ Went L (slL lim L s.c s.h x) 1 ∧ hasB (slL lim L s.c s.h x).length (slR lim L s.c s.h x) = true ∧ ((slC lim L s.c s.h x).k = s.c.k ∧ (slC lim L s.c s.h x).h = s.c.h) ∧ (0 ≤ (slC lim L s.c s.h x).n ∧ (slC lim L s.c s.h x).n ≤ s.c.n + 1) := by
    have hn0 := g.n.1
    cases hh : s.c.h
    · obtain ⟨e1, e2, e3, e4⟩ := sl_none (lim := lim) hk hh
      rw [e1, e2, e3, e4]
      exact ⟨rfl, (Went.refl hL).more (by omega), hx, ⟨rfl, hh⟩, hn0, by omega⟩
    · obtain ⟨e1, e2, e3, e4⟩ := sl_mk (lim := lim) hk hh
      obtain ⟨he, m⟩ := made (lim := lim) hL (slN_ok (c := s.c) ⟨g.ko, g.n⟩ (ref_i64 (n := L.length) (by omega) g.h) (ref_i64 (n := L.length) (by omega) hx)) (by omega) (slN_right ⟨g.h, hx⟩ (g.k hh))
      rw [e1, e2, e3, e4, if_pos he]
      refine ⟨he, m.went, m.hr, ⟨rfl, rfl⟩, ?_, ?_⟩
      · show (0 : Int) ≤ s.c.n + 1
        omega
      · exact Int.le_refl _
  obtain ⟨hcE, W, hr, ⟨hck, hch⟩, hc0, hcn⟩ := hc
  have hnl : s.c.n < 18446744073709551615 := hn
  have gt : Gd (slL lim L s.c s.h x) (seT lim L s x) := ⟨W.has g.ck, W.has g.h, fun q => by rw [show (seT lim L s x).c.k = s.c.k from hck]; exact W.has (g.k (by rw [← hch]; exact q)), by rw [show (seT lim L s x).c.k = s.c.k from hck]; exact g.ko, ⟨hc0, by show (slC lim L s.c s.h x).n ≤ _; omega⟩⟩
  have hWl := W.le
  obtain ⟨e2, W2, g2, r, hs, hrr, hd⟩ := mh_go (lim := lim) W.wf hm (by omega) gt hr
  have hL2 : seL lim L s x = mhL lim (slL lim L s.c s.h x) (seT lim L s x) (slR lim L s.c s.h x) := by unfold seL; exact if_pos hcE
  have hE2 : seE lim L s x = mhE lim (slL lim L s.c s.h x) (seT lim L s x) (slR lim L s.c s.h x) := by unfold seE; exact if_pos hcE
  have hS2 : seS lim L s x = mhS lim (slL lim L s.c s.h x) (seT lim L s x) (slR lim L s.c s.h x) := by unfold seS; exact if_pos hcE
  have hR2 : seR lim L s x = slR lim L s.c s.h x := by unfold seR; rw [hE2]; exact if_pos e2
  obtain ⟨o1, o2, o3⟩ := sl_back (lim := lim) (c := s.c) (ad := s.h) (p := x) hL (by omega) g.n hcE
  -- the same cipher opens it, in the arena that has the hash, too
  have hop : ∀ P k, Went (slL lim L s.c s.h x) P k → opE P s.c s.h (slR lim L s.c s.h x) = 0 ∧ opR P s.c s.h (slR lim L s.c s.h x) = x ∧ opC P s.c s.h (slR lim L s.c s.h x) = slC lim L s.c s.h x := by
    intro P k hP
    have c1 : chk P.length s.c s.h (slR lim L s.c s.h x) = 0 := by
      cases hh : s.c.h
      · exact chk_none (by rw [hP.has (W.has g.h), hP.has hr]; rfl) hh
      · exact chk_good (by rw [hP.has (W.has g.h), hP.has hr]; rfl) hh (hP.has (W.has (g.k hh))) (by omega)
    have c2 : chk (slL lim L s.c s.h x).length s.c s.h (slR lim L s.c s.h x) = 0 := by
      cases hh : s.c.h
      · exact chk_none (by rw [W.has g.h, hr]; rfl) hh
      · exact chk_good (by rw [W.has g.h, hr]; rfl) hh (W.has (g.k hh)) (by omega)
    unfold opE at o1 ⊢
    unfold opR at o2 ⊢
    unfold opC at o3 ⊢
    rw [c2] at o1 o2 o3
    rw [c1, hP.keep hr]
    exact ⟨o1, o2, o3⟩
  rw [hL2, hE2, hS2, hR2]
  obtain ⟨p1, p2, p3⟩ := hop _ _ W2
  have hT : onT (mhL lim (slL lim L s.c s.h x) (seT lim L s x) (slR lim L s.c s.h x)) s (slR lim L s.c s.h x) = seT lim L s x := by unfold onT; rw [p3]; rfl
  obtain ⟨a1, a2, a3⟩ := mk_again (lim := lim) W2.wf hrr hd
  have a1' : mhL lim (mhL lim (slL lim L s.c s.h x) (seT lim L s x) (slR lim L s.c s.h x)) (seT lim L s x) (slR lim L s.c s.h x) = mhL lim (slL lim L s.c s.h x) (seT lim L s x) (slR lim L s.c s.h x) := a1
  have a3' : mhE lim (mhL lim (slL lim L s.c s.h x) (seT lim L s x) (slR lim L s.c s.h x)) (seT lim L s x) (slR lim L s.c s.h x) = 0 := a3
  have hsS : mhS lim (mhL lim (slL lim L s.c s.h x) (seT lim L s x) (slR lim L s.c s.h x)) (seT lim L s x) (slR lim L s.c s.h x) = mhS lim (slL lim L s.c s.h x) (seT lim L s x) (slR lim L s.c s.h x) := by
    rw [hs]; unfold mhS; rw [if_pos a3', a2]
  have hoE : onE lim (mhL lim (slL lim L s.c s.h x) (seT lim L s x) (slR lim L s.c s.h x)) s (slR lim L s.c s.h x) = 0 := by
    unfold onE; rw [if_pos p1, hT]; exact a3'
  refine ⟨e2, W.trans W2, g2, W2.has hr, ⟨?_, ?_⟩, ?_, hoE, ?_, ?_⟩
  · rw [hs]; exact hcn
  · rw [hs]; exact hch
  · unfold onL; rw [if_pos p1, hT]; exact a1'
  · unfold onS; rw [if_pos p1, hT]; exact hsS
  · unfold onR; rw [if_pos hoE]; exact p2
end
/-- Two states that differ. -/
structure Dif (M : List Nd) (s t : Sf) : Prop where
  gs : Gd M s
  gt : Gd M t
  ck : s.ck ≠ t.ck
  h : s.h ≠ t.h
  hh : s.c.h = t.c.h
  k : s.c.h = true → s.c.k ≠ t.c.k
section
variable {lim : Nat} {L : List Nd} {s t : Sf} {x : Int}
theorem dif_mh (hL : WF L) (hm : lim ≤ 65536) (hl : L.length + 2 ≤ lim) (d : Dif L s t) (hx : hasB L.length x = true) :
    mhE lim L s x = 0 ∧ mhE lim (mhL lim L s x) t x = 0 ∧ Went L (mhL lim (mhL lim L s x) t x) 2 ∧ Dif (mhL lim (mhL lim L s x) t x) (mhS lim L s x) (mhS lim (mhL lim L s x) t x) := by
  obtain ⟨e1, W1, g1, r, h1, h2, h3⟩ := mh_go (lim := lim) hL hm (by omega) d.gs hx
  have hl1 := W1.le
  obtain ⟨e2, W2, g2, r', h1', h2', h3'⟩ := mh_go (lim := lim) W1.wf hm (by omega) (d.gt.went W1) (W1.has hx)
  refine ⟨e1, e2, W1.trans W2, g1.went W2, g2, ?_, ?_, ?_, ?_⟩
  · rw [h1, h1']; exact d.ck
  · rw [h1, h1']; exact nd_ne (L := mhL lim (mhL lim L s x) t x) (by rw [W2.keep h2, h3, h3']; exact hashN_ne (.inl d.h))
  · rw [h1, h1']; exact d.hh
  · rw [h1, h1']; exact d.k
theorem dif_mx (hL : WF L) (hm : lim ≤ 65536) (hl : L.length + 4 ≤ lim) (d : Dif L s t) (hx : hasB L.length x = true) :
    yE lim L s.ck x 2 = 0 ∧ yE lim (yL lim L s.ck x 2) t.ck x 2 = 0 ∧ Went L (yL lim (yL lim L s.ck x 2) t.ck x 2) 4 ∧ Dif (yL lim (yL lim L s.ck x 2) t.ck x 2) (mxS lim L s x) (mxS lim (yL lim L s.ck x 2) t x) := by
  obtain ⟨e1, W1, g1, r0, r1, h1, ⟨h2, h3⟩, h4, h5⟩ := mx_go (lim := lim) hL hm (by omega) d.gs hx
  have hl1 := W1.le
  obtain ⟨e2, W2, g2, r0', r1', h1', ⟨h2', h3'⟩, h4', h5'⟩ := mx_go (lim := lim) W1.wf hm (by omega) (d.gt.went W1) (W1.has hx)
  refine ⟨e1, e2, W1.trans W2, g1.went W2, g2, ?_, ?_, ?_, ?_⟩
  · rw [h1, h1']; exact nd_ne (L := yL lim (yL lim L s.ck x 2) t.ck x 2) (by rw [W2.keep h2, h3, h3']; exact keyN_ne (.inr (.inl d.ck)))
  · rw [h1, h1']; exact d.h
  · rw [h1, h1']
  · rw [h1, h1']; exact fun _ => nd_ne (L := yL lim (yL lim L s.ck x 2) t.ck x 2) (by rw [W2.keep h4, h5, h5']; exact keyN_ne (.inr (.inl d.ck)))
theorem dif_mb (hL : WF L) (hm : lim ≤ 65536) (hl : L.length + 8 ≤ lim) (d : Dif L s t) (hx : hasB L.length x = true) :
    mbE lim L s x = 0 ∧ mbE lim (mbL lim L s x) t x = 0 ∧ Went L (mbL lim (mbL lim L s x) t x) 8 ∧ Dif (mbL lim (mbL lim L s x) t x) (mbS lim L s x) (mbS lim (mbL lim L s x) t x) := by
  obtain ⟨e1, W1, g1, r0, r1, r2, r, h1, ⟨h2, h3⟩, ⟨h4, h5⟩, h6, h7⟩ := mb_go (lim := lim) hL hm (by omega) d.gs hx
  have hl1 := W1.le
  obtain ⟨e2, W2, g2, r0', r1', r2', r', h1', ⟨h2', h3'⟩, ⟨h4', h5'⟩, h6', h7'⟩ := mb_go (lim := lim) W1.wf hm (by omega) (d.gt.went W1) (W1.has hx)
  refine ⟨e1, e2, W1.trans W2, g1.went W2, g2, ?_, ?_, ?_, ?_⟩
  · rw [h1, h1']; exact nd_ne (L := mbL lim (mbL lim L s x) t x) (by rw [W2.keep h2, h3, h3']; exact keyN_ne (.inr (.inl d.ck)))
  · rw [h1, h1']; exact nd_ne (L := mbL lim (mbL lim L s x) t x) (by rw [W2.keep h6, h7, h7']; exact hashN_ne (.inl d.h))
  · rw [h1, h1']
  · rw [h1, h1']; exact fun _ => nd_ne (L := mbL lim (mbL lim L s x) t x) (by rw [W2.keep h4, h5, h5']; exact keyN_ne (.inr (.inl d.ck)))
end
/-- A name that is begun. -/
theorem z_good {lim : Nat} {L : List Nd} {bs : List Int} (hL : WF L) (hm : lim ≤ 65536) (hb : ∀ n, u64ok (bs.getD n 0)) : ∀ n : Nat, n ≤ bs.length → L.length + 2 * n ≤ lim →
    zE lim L bs n = 0 ∧ Went L (zL lim L bs n) (2 * n) ∧ Nm (zL lim L bs n) (bs.take n).reverse (zR lim L bs n)
  | 0, _, _ => ⟨rfl, Went.refl hL, by simp [Nm, zR, zA]⟩
  | n + 1, hn, hl => by
    obtain ⟨e, W, hN⟩ := z_good hL hm hb n (by omega) (by omega)
    have hWl := W.le
    have hr := hN.has W.wf.toWFp.pos
    obtain ⟨e1, m1⟩ := made (lim := lim) (d := zW bs n) W.wf (wordN_ok (hb n)) (by omega) wordN_right
    have hm1 := m1.le
    obtain ⟨e2, m2⟩ := made (lim := lim) (d := zQ lim L bs n) m1.wf (pairN_ok (n := (mkL lim (zL lim L bs n) (zW bs n)).length) (by omega) (m1.has hr) m1.hr) (by omega) (pairN_right (m1.has hr) m1.hr)
    obtain ⟨z1, z2, z3⟩ := z_pair e e1
    rw [z1, z2, z3]
    obtain ⟨T, hT⟩ := (m1.went.trans m2.went).ext
    refine ⟨e2, ((W.trans m1.went).trans m2.went).more (by omega), ?_⟩
    rw [List.take_succ_eq_append_getElem (by omega), List.reverse_append]
    have hbn : bs.getD n 0 = bs[n]'(by omega) := by rw [List.getD_eq_getElem?_getD, List.getElem?_eq_getElem (by omega), Option.getD_some]
    refine ⟨m2.hr, zR lim L bs n, mkR lim (zL lim L bs n) (zW bs n), m2.at_, ?_, m2.has m1.hr, ?_⟩
    · show Nm (mkL lim (mkL lim (zL lim L bs n) (zW bs n)) (zQ lim L bs n)) _ _
      rw [hT]; exact hN.ext W.wf.toWFp.pos
    · show nd (mkL lim (mkL lim (zL lim L bs n) (zW bs n)) (zQ lim L bs n)) _ = _
      rw [m2.keep m1.hr, m1.at_]; unfold zW; rw [hbn]
theorem bg_go {lim : Nat} {L : List Nd} {bs : List Int} {p : Int} (hL : WF L) (hm : lim ≤ 65536) (hb : ∀ n, u64ok (bs.getD n 0)) (h100 : bs.length ≤ 100) (hl : L.length + 2 * bs.length + 1 ≤ lim) (hp : hasB L.length p = true) :
    bgE lim L bs p = 0 ∧ Went L (bgL lim L bs p) (2 * bs.length + 1) ∧ Gd (bgL lim L bs p) (bgS lim L bs p) ∧ ∃ ck r, bgS lim L bs p = ⟨ck, r, cZ⟩ ∧ Nm (bgL lim L bs p) bs.reverse ck ∧ hasB (bgL lim L bs p).length r = true ∧ nd (bgL lim L bs p) r = hashN ck p := by
  obtain ⟨e, W, hN⟩ := z_good (lim := lim) hL hm hb bs.length (Nat.le_refl _) (by omega)
  rw [List.take_length] at hN
  have hr := hN.has W.wf.toWFp.pos
  have hB : bgB L.length bs p = true := by unfold bgB; rw [hp, decide_eq_true h100]; rfl
  have gt : Gd (zL lim L bs bs.length) (bgT lim L bs) := ⟨hr, hr, fun q => by simp [bgT, cZ] at q, by simp [bgT, cZ, i64ok], by simp [bgT, cZ, u64ok]⟩
  have hWl := W.le
  obtain ⟨e2, W2, g2, r, hs, hrr, hd⟩ := mh_go (lim := lim) W.wf hm (by omega) gt (W.has hp)
  have h1 : bgL lim L bs p = mhL lim (zL lim L bs bs.length) (bgT lim L bs) p := by unfold bgL; rw [if_pos hB, if_pos e]
  have h2 : bgE lim L bs p = mhE lim (zL lim L bs bs.length) (bgT lim L bs) p := by unfold bgE; rw [if_pos hB, if_pos e]
  have h3 : bgS lim L bs p = mhS lim (zL lim L bs bs.length) (bgT lim L bs) p := by unfold bgS; rw [if_pos hB, if_pos e]
  rw [h1, h2, h3]
  obtain ⟨T, hT⟩ := W2.ext
  exact ⟨e2, W.trans W2, g2, _, r, hs, by rw [hT]; exact hN.ext W.wf.toWFp.pos, hrr, hd⟩
theorem Nm.went {L M : List Nd} {k : Nat} (hL : WF L) (W : Went L M k) {l : List Int} {r : Int} (h : Nm L l r) : Nm M l r := by
  obtain ⟨T, hT⟩ := W.ext
  rw [hT]; exact h.ext hL.toWFp.pos
end Go.Proofs.YtgjhhipkfglpgaaDoor
