/- Layer 2 in plain mathematics: a term's text is read as the term. -/
import Derived.Test.YtmnmjekpndeemaaGreatDoorSc
namespace Go.Proofs.YtmnmjekpndeemaaGreatDoor

/-! ### A number's digits are read as the number. -/
theorem parse_snoc (M : Nat) : ∀ (l : List UInt8) (a : Nat) (c : UInt8), Lib.parseUintM M a (l ++ [c]) = match Lib.parseUintM M a l with | .ok v => Lib.parseUintM M v [c] | e => e
  | [], a, c => rfl
  | x :: l, a, c => by
    simp only [List.cons_append]
    rw [Lib.parseUintM, Lib.parseUintM]
    split
    · split
      · rfl
      · split
        · rfl
        · exact parse_snoc M l _ c
    · rfl
theorem dec_digit (d : Nat) (h : d < 10) : (UInt8.ofNat (48 + d)).toNat = 48 + d := by
  rw [UInt8.toNat_ofNat']; omega
theorem parse_dec : ∀ (n : Nat), n < 18446744073709551616 → Lib.parseUintM (2 ^ 64 - 1) 0 (Lib.decDigits n) = .ok n := by
  intro n
  induction n using Nat.strongRecOn with
  | ind n ih =>
    intro hn
    rw [Lib.decDigits]
    split
    · rename_i h
      rw [Lib.parseUintM, dec_digit n h, if_pos (by omega), if_neg (by omega), if_neg (by omega), Lib.parseUintM]
      congr 1; omega
    · rename_i h
      rw [parse_snoc, ih (n / 10) (by omega) (by omega)]
      simp only
      rw [Lib.parseUintM, dec_digit (n % 10) (by omega), if_pos (by omega), if_neg (by omega), if_neg (by omega), Lib.parseUintM]
      congr 1; omega
theorem dec_ne (n : Nat) : Lib.decDigits n ≠ [] := by
  rw [Lib.decDigits]; split <;> simp
theorem pnum_dec {n : Nat} (h : n < 18446744073709551616) : pnum (Lib.decDigits n) = some n := by
  unfold pnum Lib.parseUintB
  rw [if_neg (dec_ne n), parse_dec n h]
theorem dec_mem : ∀ (n : Nat), ∀ c ∈ Lib.decDigits n, 48 ≤ c.toNat := by
  intro n
  induction n using Nat.strongRecOn with
  | ind n ih =>
    intro c hc
    rw [Lib.decDigits] at hc
    split at hc
    · rename_i h
      simp only [List.mem_singleton] at hc
      rw [hc, dec_digit n h]; omega
    · rename_i h
      rcases List.mem_append.1 hc with hc | hc
      · exact ih (n / 10) (by omega) c hc
      · simp only [List.mem_singleton] at hc
        rw [hc, dec_digit (n % 10) (by omega)]; omega
theorem dec_no32 (n : Nat) : (32 : UInt8) ∉ Lib.decDigits n := fun h => by have := dec_mem n _ h; revert this; decide
theorem dec_mem9 : ∀ (n : Nat), ∀ c ∈ Lib.decDigits n, c.toNat ≤ 57 := by
  intro n
  induction n using Nat.strongRecOn with
  | ind n ih =>
    intro c hc
    rw [Lib.decDigits] at hc
    split at hc
    · rename_i h
      simp only [List.mem_singleton] at hc
      rw [hc, dec_digit n h]; omega
    · rename_i h
      rcases List.mem_append.1 hc with hc | hc
      · exact ih (n / 10) (by omega) c hc
      · simp only [List.mem_singleton] at hc
        rw [hc, dec_digit (n % 10) (by omega)]; omega
theorem dec_no59 (n : Nat) : (59 : UInt8) ∉ Lib.decDigits n := fun h => by have := dec_mem9 n _ h; revert this; decide

/-! ### Rows. -/
def rbd : List Nat → List UInt8
  | [] => []
  | x :: l => Lib.decDigits x ++ l.flatMap (fun y => 32 :: Lib.decDigits y)
theorem rtx_eq (l : List Nat) : rtx l = rbd l ++ [59] := by cases l <;> simp [rtx, rbd]
theorem rbd_split : ∀ (l : List Nat) (x : Nat), spl 32 (rbd (x :: l)) = (x :: l).map Lib.decDigits
  | [], x => by simp [rbd]; exact spl_none (dec_no32 x)
  | y :: l, x => by
    have ih := rbd_split l y
    have e : rbd (x :: y :: l) = Lib.decDigits x ++ 32 :: rbd (y :: l) := by simp [rbd]
    rw [e, spl_cat (dec_no32 x), ih]; simp
theorem pall_dec : ∀ (l : List Nat), (∀ x ∈ l, x < 18446744073709551616) → pall (l.map Lib.decDigits) = some l
  | [], _ => rfl
  | x :: l, h => by
    simp only [List.map_cons, pall]
    rw [pnum_dec (h x (by simp)), pall_dec l (fun y hy => h y (by simp [hy]))]; rfl
theorem rbd_no59 : ∀ (l : List Nat), (59 : UInt8) ∉ rbd l
  | [] => by simp [rbd]
  | x :: l => by
    simp only [rbd, List.mem_append, List.mem_flatMap, not_or, not_exists, not_and]
    refine ⟨dec_no59 x, fun y _ h => ?_⟩
    simp only [List.mem_cons] at h
    rcases h with h | h
    · revert h; decide
    · exact dec_no59 y h
theorem prn_cons (r : List Nat) (t : List (List Nat)) : prn (r :: t) = rbd r ++ 59 :: prn t := by simp [prn, rtx_eq]
/-- A text without its last semicolon. -/
def prn' : List (List Nat) → List UInt8
  | [] => []
  | [r] => rbd r
  | r :: t => rbd r ++ 59 :: prn' t
theorem prn_eq : ∀ (t : List (List Nat)), t ≠ [] → prn t = prn' t ++ [59]
  | [], h => absurd rfl h
  | [r], _ => by simp [prn, prn', rtx_eq]
  | r :: q :: t, _ => by rw [prn_cons, prn_eq (q :: t) (by simp)]; simp [prn']
theorem spl_prn : ∀ (t : List (List Nat)), t ≠ [] → spl 59 (prn' t) = t.map rbd
  | [], h => absurd rfl h
  | [r], _ => by simp [prn']; exact spl_none (rbd_no59 r)
  | r :: q :: t, _ => by
    have e : prn' (r :: q :: t) = rbd r ++ 59 :: prn' (q :: t) := rfl
    rw [e, spl_cat (rbd_no59 r), spl_prn (q :: t) (by simp)]; rfl
theorem trim_prn {t : List (List Nat)} (h : t ≠ []) : Lib.trimSuffix (prn t) [59] = prn' t := by
  rw [prn_eq t h]
  unfold Lib.trimSuffix Lib.hasSuffix
  rw [if_pos (by simp)]
  simp
theorem stp_row {st : List Nd × List Int} {r : List Nat} (hr : r ≠ []) (h : ∀ x ∈ r, x < 18446744073709551616) : stp (some st) (rbd r) = stn 65536 st r := by
  obtain ⟨x, l, rfl⟩ : ∃ x l, r = x :: l := by cases r with | nil => exact absurd rfl hr | cons x l => exact ⟨x, l, rfl⟩
  unfold stp
  simp only [Option.bind_some]
  rw [rbd_split, pall_dec _ h]; rfl

/-! ### The same terms compare the same; what may be in one arena may be in the other. -/
theorem map_getD {g : Int → Int} (h0 : g 0 = 0) (l : List Int) (i : Nat) : (l.map g).getD i 0 = g (l.getD i 0) := by
  rw [List.getD_eq_getElem?_getD, List.getD_eq_getElem?_getD, List.getElem?_map]
  cases l[i]? <;> simp [h0]
theorem wf_parts {L : List Nd} (h : WF L) {x : Int} (hx : hasB L.length x = true) : (nd L x).a = (prt (nd L x)).getD 0 0 ∧ (nd L x).b = (prt (nd L x)).getD 1 0 ∧ (nd L x).c = (prt (nd L x)).getD 2 0 := by
  have b1 := hasB_iff.1 hx
  exact prt_get (right_iff.1 (h.good x.toNat (by omega))).2.1
theorem Iso.parts {L M : List Nd} {D : List Int} {f : Int → Int} (h : Iso L M D f) (hL : WF L) (hM : WF M) (h0 : f 0 = 0) {x : Int} (hx : x ∈ D) : (nd M (f x)).a = f (nd L x).a ∧ (nd M (f x)).b = f (nd L x).b ∧ (nd M (f x)).c = f (nd L x).c := by
  have h1 := wf_parts hL (h.has x hx).1
  have h2 := wf_parts hM (h.has x hx).2
  have h3 := (h.node x hx).2.2
  rw [h2.1, h2.2.1, h2.2.2, h1.1, h1.2.1, h1.2.2, h3, map_getD h0, map_getD h0, map_getD h0]
  exact ⟨rfl, rfl, rfl⟩
/-- A part is one of the terms, or it is not there. -/
theorem Iso.part_cases {L M : List Nd} {D : List Int} {f : Int → Int} (h : Iso L M D f) {x : Int} (hx : x ∈ D) (i : Nat) : (i < (prt (nd L x)).length ∧ (prt (nd L x)).getD i 0 ∈ D) ∨ (¬ i < (prt (nd L x)).length ∧ (prt (nd L x)).getD i 0 = 0) := by
  by_cases hi : i < (prt (nd L x)).length
  · left
    refine ⟨hi, h.closed x hx _ ?_⟩
    rw [List.getD_eq_getElem?_getD, List.getElem?_eq_getElem hi]; simp
  · right
    refine ⟨hi, ?_⟩
    rw [List.getD_eq_getElem?_getD, List.getElem?_eq_none (by omega)]; rfl
theorem Iso.cmpE {L M : List Nd} {D : List Int} {f : Int → Int} (h : Iso L M D f) (hL : WF L) (hM : WF M) (h0 : f 0 = 0) : ∀ (n : Nat) (x y : Int), x.toNat + y.toNat < n → x ∈ D → y ∈ D → cmp M (f x) (f y) = cmp L x y
  | 0, _, _, hn, _, _ => by omega
  | n + 1, x, y, hn, hx, hy => by
    by_cases hxy : x = y
    · subst hxy; rw [cmp_self, cmp_self]
    · have hfxy : f x ≠ f y := fun e => hxy (h.inj x hx y hy e)
      have bx := h.has x hx
      have bY := h.has y hy
      have bL : both L x y = true := by unfold both; rw [bx.1, bY.1]; rfl
      have bM : both M (f x) (f y) = true := by unfold both; rw [bx.2, bY.2]; rfl
      have nx := h.node x hx
      have ny := h.node y hy
      have ht : top (nd M (f x)) (nd M (f y)) = top (nd L x) (nd L y) := by unfold top; rw [nx.1, nx.2.1, ny.1, ny.2.1]
      by_cases h1 : top (nd L x) (nd L y) = 0
      · have kk : (nd L x).k = (nd L y).k := by
          unfold top at h1
          simp only [orZ] at h1
          split at h1
          · rename_i e; exact cmpZ_zero.1 e
          · rename_i e; exact absurd h1 e
        have hlen : (prt (nd L x)).length = (prt (nd L y)).length := by unfold prt; rw [kk]; simp
        obtain ⟨pxa, pxb, pxc⟩ := h.parts hL hM h0 hx
        obtain ⟨pya, pyb, pyc⟩ := h.parts hL hM h0 hy
        have wx := wf_parts hL bx.1
        have wy := wf_parts hL bY.1
        have eqv : ∀ i, f ((prt (nd L x)).getD i 0) = f ((prt (nd L y)).getD i 0) → (prt (nd L x)).getD i 0 = (prt (nd L y)).getD i 0 := fun i e => by
          rcases h.part_cases hx i with ⟨_, m1⟩ | ⟨l1, m1⟩ <;> rcases h.part_cases hy i with ⟨l2, m2⟩ | ⟨_, m2⟩
          · exact h.inj _ m1 _ m2 e
          · omega
          · omega
          · rw [m1, m2]
        have inD : ∀ i, (prt (nd L x)).getD i 0 ≠ (prt (nd L y)).getD i 0 → (prt (nd L x)).getD i 0 ∈ D ∧ (prt (nd L y)).getD i 0 ∈ D := fun i e => by
          rcases h.part_cases hx i with ⟨l1, m1⟩ | ⟨l1, m1⟩ <;> rcases h.part_cases hy i with ⟨l2, m2⟩ | ⟨l2, m2⟩
          · exact ⟨m1, m2⟩
          · omega
          · omega
          · rw [m1, m2] at e; exact absurd rfl e
        have key : fd1 (nd M (f x)) (nd M (f y)) = f (fd1 (nd L x) (nd L y)) ∧ fd2 (nd M (f x)) (nd M (f y)) = f (fd2 (nd L x) (nd L y)) ∧ fd1 (nd L x) (nd L y) ∈ D ∧ fd2 (nd L x) (nd L y) ∈ D := by
          unfold fd1 fd2
          rw [pxa, pxb, pxc, pya, pyb, pyc, wx.1, wx.2.1, wx.2.2, wy.1, wy.2.1, wy.2.2]
          by_cases ea : (prt (nd L x)).getD 0 0 = (prt (nd L y)).getD 0 0
          · by_cases eb : (prt (nd L x)).getD 1 0 = (prt (nd L y)).getD 1 0
            · have ec : (prt (nd L x)).getD 2 0 ≠ (prt (nd L y)).getD 2 0 := fun ec => hxy (hL.toWFp.nd_inj bL (Nd.ext5 kk (by
                unfold top at h1
                simp only [orZ] at h1
                split at h1
                · split at h1
                  · rename_i e; exact cmpZ_zero.1 e
                  · rename_i e; exact absurd h1 e
                · rename_i e; exact absurd h1 e) (by rw [wx.1, wy.1, ea]) (by rw [wx.2.1, wy.2.1, eb]) (by rw [wx.2.2, wy.2.2, ec])))
              simp only [ea, eb, if_true]
              exact ⟨trivial, trivial, inD 2 ec⟩
            · have fb : f ((prt (nd L x)).getD 1 0) ≠ f ((prt (nd L y)).getD 1 0) := fun e => eb (eqv 1 e)
              simp only [ea, if_true, if_neg eb, if_neg fb]
              exact ⟨trivial, trivial, inD 1 eb⟩
          · have fa : f ((prt (nd L x)).getD 0 0) ≠ f ((prt (nd L y)).getD 0 0) := fun e => ea (eqv 0 e)
            simp only [if_neg ea, if_neg fa]
            exact ⟨trivial, trivial, inD 0 ea⟩
        have l1 := hL.toWFp.fd_lt hxy bL h1
        have l2 := hM.toWFp.fd_lt hfxy bM (ht.trans h1)
        have eM : cmp M (f x) (f y) = cmp M (fd1 (nd M (f x)) (nd M (f y))) (fd2 (nd M (f x)) (nd M (f y))) := by rw [cmp, if_neg hfxy, if_pos bM, if_pos (ht.trans h1), dif_pos l2]
        have eL : cmp L x y = cmp L (fd1 (nd L x) (nd L y)) (fd2 (nd L x) (nd L y)) := by rw [cmp, if_neg hxy, if_pos bL, if_pos h1, dif_pos l1]
        rw [eM, eL, key.1, key.2.1]
        exact Iso.cmpE h hL hM h0 n _ _ (by omega) key.2.2.1 key.2.2.2
      · have eM : cmp M (f x) (f y) = top (nd M (f x)) (nd M (f y)) := by rw [cmp, if_neg hfxy, if_pos bM, if_neg (by rw [ht]; exact h1)]
        have eL : cmp L x y = top (nd L x) (nd L y) := by rw [cmp, if_neg hxy, if_pos bL, if_neg h1]
        rw [eM, eL, ht]

/-- What may be in one arena may be in the other. -/
theorem Iso.right {L M : List Nd} {D : List Int} {f : Int → Option Int} (h : Iso L M D (fz f)) (hL : WF L) (hM : WF M) (h0 : fz f 0 = 0) {x : Int} (hx : hasB L.length x = true) (hp : ∀ p ∈ prt (nd L x), p ∈ D) : right M (cnode L f x) = true := by
  have b1 := hasB_iff.1 hx
  have hg := right_iff.1 (hL.good x.toNat (by omega))
  change 0 ≤ many (nd L x).k ∧ partsOk L.length (nd L x) = true ∧ numOk (nd L x) = true ∧ lastOk L (nd L x) = true at hg
  obtain ⟨g1, g2, g3, g4⟩ := hg
  have hw := wf_parts hL hx
  have hl := prt_length g1
  have pin : ∀ i : Nat, (i : Int) < many (nd L x).k → (prt (nd L x)).getD i 0 ∈ D := fun i hi => by
    have : i < (prt (nd L x)).length := by omega
    exact hp _ (by rw [List.getD_eq_getElem?_getD, List.getElem?_eq_getElem this]; simp)
  have pout : ∀ i : Nat, ¬ (i : Int) < many (nd L x).k → (prt (nd L x)).getD i 0 = 0 := fun i hi => by
    rw [List.getD_eq_getElem?_getD, List.getElem?_eq_none (by omega)]; rfl
  have pk : ∀ i : Nat, partOk M.length (many (nd L x).k) i (fz f ((prt (nd L x)).getD i 0)) = true := fun i => by
    unfold partOk
    split
    · rename_i hi; exact (h.has _ (pin i hi)).2
    · rename_i hi; rw [pout i hi, h0]; rfl
  refine right_iff.2 ⟨g1, ?_, g3, ?_⟩
  · unfold partsOk
    show (partOk M.length (many (nd L x).k) 0 (fz f (nd L x).a) && (partOk M.length (many (nd L x).k) 1 (fz f (nd L x).b) && partOk M.length (many (nd L x).k) 2 (fz f (nd L x).c))) = true
    rw [hw.1, hw.2.1, hw.2.2]
    have p0 : partOk M.length (many (nd L x).k) 0 (fz f ((prt (nd L x)).getD 0 0)) = true := pk 0
    have p1 : partOk M.length (many (nd L x).k) 1 (fz f ((prt (nd L x)).getD 1 0)) = true := pk 1
    have p2 : partOk M.length (many (nd L x).k) 2 (fz f ((prt (nd L x)).getD 2 0)) = true := pk 2
    rw [p0, p1, p2]; rfl
  · unfold lastOk at g4 ⊢
    show (if (nd L x).k = 3 then decide (cmp M (fz f (nd L x).a) (fz f (nd L x).b) ≤ 0) else if (nd L x).k = 4 then decide ((nd M (fz f (nd L x).b)).k ≠ 2) else true) = true
    by_cases k3 : (nd L x).k = 3
    · rw [if_pos k3] at g4 ⊢
      have hm : many (nd L x).k = 2 := by rw [k3]; rfl
      have ia : (nd L x).a ∈ D := by rw [hw.1]; exact pin 0 (by rw [hm]; decide)
      have ib : (nd L x).b ∈ D := by rw [hw.2.1]; exact pin 1 (by rw [hm]; decide)
      rw [h.cmpE hL hM h0 ((nd L x).a.toNat + (nd L x).b.toNat + 1) _ _ (by omega) ia ib]
      exact g4
    · rw [if_neg k3] at g4 ⊢
      by_cases k4 : (nd L x).k = 4
      · rw [if_pos k4] at g4 ⊢
        have hm : many (nd L x).k = 2 := by rw [k4]; rfl
        have ib : (nd L x).b ∈ D := by rw [hw.2.1]; exact pin 1 (by rw [hm]; decide)
        rw [(h.node _ ib).1]
        exact g4
      · rw [if_neg k4]

/-! ### Reading a term's text. -/
/-- One row. -/
theorem stn_row {L M : List Nd} {R : List Int} {Q : List Int} {f : Int → Option Int} {k : Nat} (hL : WF L) (hM : WF M) (hR : Acc L R) (hO : Ord L R) (hk : k < R.length) (h : Iso L M (R.take k) (fz f)) (h0 : fz f 0 = 0) (hf : ∀ y x, f y = some x → 0 ≤ x ∧ x ≤ 65536) (hQ : Q.length = k) (hq : ∀ j, j < k → fz f (R.getD j 0) = Q.getD j 0) (hm : M.length < 65536) (_hs : L.length ≤ 65536) :
    ∃ M' r f', stn 65536 (M, Q) (rowN L R (R.getD k 0)) = some (M', Q ++ [r]) ∧ WF M' ∧ Iso L M' (R.take (k + 1)) (fz f') ∧ fz f' 0 = 0 ∧ (∀ y x, f' y = some x → 0 ≤ x ∧ x ≤ 65536) ∧ (∀ j, j < k + 1 → fz f' (R.getD j 0) = (Q ++ [r]).getD j 0) ∧ M'.length ≤ M.length + 1 := by
  have hxe : R.getD k 0 = R[k] := by rw [List.getD_eq_getElem?_getD, List.getElem?_eq_getElem hk]; rfl
  obtain ⟨x, hx⟩ : ∃ x, x = R[k] := ⟨_, rfl⟩
  rw [hxe, ← hx]
  have hxm : x ∈ R := by rw [hx]; exact List.getElem_mem hk
  have hxb := hR.has x hxm
  have b1 := hasB_iff.1 hxb
  have hp : ∀ p ∈ prt (nd L x), p ∈ R.take k := fun p hp' => hO k hk p (by rw [← hx]; exact hp')
  have hxn : x ∉ R.take k := fun e => by
    obtain ⟨j, hj, hje⟩ := List.mem_iff_getElem.1 e
    rw [List.getElem_take] at hje
    simp only [List.length_take] at hj
    have := px_at hR.nodup (x := x) (i := j) (by rw [List.getElem?_eq_getElem (by omega), hje])
    have h2 := px_at hR.nodup (x := x) (i := k) (by rw [List.getElem?_eq_getElem hk, hx])
    rw [this] at h2
    have := Option.some.inj h2
    omega
  have hpz : ∀ p ∈ R.take k, pz p R < k ∧ Q.getD (pz p R) 0 = fz f p := fun p hp' => by
    obtain ⟨j, hj, hje⟩ := List.mem_iff_getElem.1 hp'
    rw [List.getElem_take] at hje
    simp only [List.length_take] at hj
    have h1 := px_at hR.nodup (x := p) (i := j) (by rw [List.getElem?_eq_getElem (by omega), hje])
    have e : pz p R = j := by unfold pz; rw [h1]; rfl
    rw [e]
    refine ⟨by omega, ?_⟩
    rw [← hq j (by omega), List.getD_eq_getElem?_getD, List.getElem?_eq_getElem (show j < R.length by omega)]
    simp [hje]
  have hg := right_iff.1 (hL.good x.toNat (by omega))
  change 0 ≤ many (nd L x).k ∧ partsOk L.length (nd L x) = true ∧ numOk (nd L x) = true ∧ lastOk L (nd L x) = true at hg
  obtain ⟨kk, hkk, hk10⟩ := kind_nat hg.1
  have hnn := (hL.ok x.toNat (by omega)).2.1
  change u64ok (nd L x).n at hnn
  unfold u64ok at hnn
  have hw := wf_parts hL hxb
  have hrow : prow Q (rowN L R x) = some (cnode L f x) := by
    unfold rowN
    rw [prow_cons, if_pos]
    · congr 1
      have hmap : ((prt (nd L x)).map (pz · R)).map (Q.getD · 0) = (prt (nd L x)).map (fz f) := by
        rw [List.map_map]
        exact List.map_congr_left fun p hp' => (hpz p (hp p hp')).2
      rw [hmap, map_getD h0, map_getD h0, map_getD h0, ← hw.1, ← hw.2.1, ← hw.2.2]
      unfold cnode
      refine Nd.ext5 ?_ ?_ rfl rfl rfl
      · simp only; omega
      · simp only; omega
    · refine ⟨⟨by omega, ?_⟩, fun i hi => ?_⟩
      · have := prt_length hg.1
        simp only [List.length_map]
        rw [this]
        congr 1; omega
      · obtain ⟨p, hp', rfl⟩ := List.mem_map.1 hi
        have := (hpz p (hp p hp')).1
        omega
  obtain ⟨i, rfl⟩ : ∃ i : Nat, x = i := ⟨x.toNat, by omega⟩
  have hok := cnode_ok hL hf (x := i) (by omega)
  have hE := mk_room (lim := 65536) (h.right hL hM h0 hxb hp) hm
  obtain ⟨_, j, hj1, hj2, hj3, hj4, _, hj6⟩ := mk_at hM hok hE
  have hl2 := mk_len (lim := 65536) (d := cnode L f i) (L := M) (by omega)
  refine ⟨mkL 65536 M (cnode L f i), mkR 65536 M (cnode L f i), put1 f i (mkR 65536 M (cnode L f i)), ?_, mk_wf hM hok, ?_, ?_, ?_, ?_, hl2.2.2⟩
  · unfold stn
    simp only [hrow, Option.bind_some]
    rw [if_pos hE]
  · rw [List.take_succ_eq_append_getElem hk, ← hx]
    exact h.snoc hL hxb hxn hp (by rw [hj1]; exact hasB_iff.2 ⟨by omega, by omega⟩) (by rw [hj1]; exact hj3) hj6
  · rw [fz_put]
    split
    · rename_i e
      have hi0 : i = 0 := by omega
      subst hi0
      have hz : cnode L f (0 : Nat) = zN := by
        have hnd : nd L ((0 : Nat) : Int) = zN := by
          have := hL.toWFp.head
          unfold nd; simp [List.getD, this]
        unfold cnode
        rw [hnd]
        unfold zN fz at *
        simp only
        rw [h0]
      rw [hz]
      have hix : ix zN M = some 0 := by
        have h2 := hM.ix_at (i := 0) hM.toWFp.pos
        have : M.getD 0 zN = zN := by simp [List.getD, hM.toWFp.head]
        rw [this] at h2; exact h2
      have := (mk_had (lim := 65536) hM hix).2.1
      rw [this]; rfl
    · exact h0
  · intro y z hz
    unfold put1 at hz
    split at hz
    · obtain rfl := Option.some.inj hz; exact mkR_ok hM hok (by omega) (Nat.le_refl _)
    · exact hf y z hz
  · intro j' hj'
    rw [fz_put]
    by_cases hjk : j' < k
    · have hne : R.getD j' 0 ≠ (i : Int) := fun e => hxn (by
        rw [← e, List.getD_eq_getElem?_getD, List.getElem?_eq_getElem (show j' < R.length by omega)]
        exact List.mem_iff_getElem.2 ⟨j', by simp; omega, by simp⟩)
      rw [if_neg hne, hq j' hjk]
      rw [List.getD_eq_getElem?_getD, List.getD_eq_getElem?_getD, List.getElem?_append_left (by omega)]
    · obtain rfl : j' = k := by omega
      rw [hxe, ← hx, if_pos rfl, List.getD_eq_getElem?_getD, List.getElem?_append_right (by omega)]
      simp [hQ]

theorem stn_all {L : List Nd} {R : List Int} (hL : WF L) (hR : Acc L R) (hO : Ord L R) (hs : L.length ≤ 60000) : ∀ (k : Nat), k ≤ R.length →
    ∃ M Q f, ((R.take k).map (rowN L R)).foldl (fun st row => st.bind (stn 65536 · row)) (some ([zN], [])) = some (M, Q) ∧ WF M ∧ Iso L M (R.take k) (fz f) ∧ fz f 0 = 0 ∧ (∀ y x, f y = some x → 0 ≤ x ∧ x ≤ 65536) ∧ Q.length = k ∧ (∀ j, j < k → fz f (R.getD j 0) = Q.getD j 0) ∧ M.length ≤ k + 1
  | 0, _ => ⟨[zN], [], f0, rfl, WF.one, ⟨by simp, by simp, by simp, by simp⟩, rfl, f0_rng, rfl, by intro j hj; omega, by simp⟩
  | k + 1, hk => by
    obtain ⟨M, Q, f, h1, h2, h3, h4, h5, h6, h7, h8⟩ := stn_all hL hR hO hs k (by omega)
    have hRl := hR.len
    obtain ⟨M', r, f', k1, k2, k3, k4, k5, k6, k7⟩ := stn_row hL h2 hR hO (show k < R.length by omega) h3 h4 h5 h6 h7 (by omega) (by omega)
    refine ⟨M', Q ++ [r], f', ?_, k2, k3, k4, k5, by simp [h6], k6, by omega⟩
    rw [List.take_succ_eq_append_getElem (show k < R.length by omega), List.map_append, List.foldl_append, h1]
    simp only [List.map_cons, List.map_nil, List.foldl_cons, List.foldl_nil, Option.bind_some]
    have : R.getD k 0 = R[k]'(by omega) := by rw [List.getD_eq_getElem?_getD, List.getElem?_eq_getElem (show k < R.length by omega)]; rfl
    rw [← this]; exact k1

theorem fold_stp : ∀ (t : List (List Nat)) (st : Option (List Nd × List Int)), (∀ r ∈ t, r ≠ [] ∧ ∀ x ∈ r, x < 18446744073709551616) → (t.map rbd).foldl stp st = t.foldl (fun st row => st.bind (stn 65536 · row)) st
  | [], _, _ => rfl
  | r :: t, st, h => by
    simp only [List.map_cons, List.foldl_cons]
    have hr := h r (by simp)
    have e : stp st (rbd r) = st.bind (stn 65536 · r) := by
      cases st with
      | none => rfl
      | some st => exact stp_row hr.1 hr.2
    rw [e]
    exact fold_stp t _ (fun q hq => h q (by simp [hq]))

/-- A term's text is read: as a term that is the same. -/
theorem pars_txt {L : List Nd} (hL : WF L) (hs : L.length ≤ 60000) {x : Int} (hx : hasB L.length x = true) (hl : (txt L x).length ≤ 16384) :
    ∃ own ref f, pars (txt L x) = some (own, ref) ∧ WF own ∧ Iso L own (rows L x) (fz f) ∧ fz f x = ref := by
  obtain ⟨R, hRe⟩ : ∃ R, R = rows L x := ⟨_, rfl⟩
  have hR := rows_acc hL x
  have hO := rows_ord hL x
  have hself := rows_self hx
  obtain ⟨m, hm⟩ := rows_last hx
  have hno := nums_ok hL (by omega) x
  have htx : txt L x = prn (nums L x) := rfl
  have hnn : nums L x = R.map (rowN L R) := by rw [hRe]; rfl
  rw [← hRe] at hR hO hself hm ⊢
  obtain ⟨M, Q, f, h1, h2, h3, h4, h5, h6, h7, h8⟩ := stn_all hL hR hO hs R.length (Nat.le_refl _)
  rw [List.take_length] at h1 h3
  have hRp : 0 < R.length := List.length_pos_of_mem hself
  have hne : nums L x ≠ [] := by rw [hnn]; intro e; have := congrArg List.length e; simp at this; rw [this] at hRp; simp at hRp
  have hfold : (spl 59 (Lib.trimSuffix (txt L x) [59])).foldl stp (some ([zN], [])) = some (M, Q) := by
    rw [htx, trim_prn hne, spl_prn _ hne, fold_stp _ _ (fun r hr => ⟨fun e => by
      rw [hnn] at hr
      obtain ⟨y, _, rfl⟩ := List.mem_map.1 hr
      simp [rowN] at e, (hno r hr).2⟩), hnn]
    exact h1
  have hlast : Q.getLastD 0 = fz f x := by
    rw [getLastD_eq Q (by omega), h6, ← h7 (R.length - 1) (by omega)]
    congr 1
    have e : R[R.length - 1]? = some x := by rw [hm]; simp
    rw [List.getD_eq_getElem?_getD, e]; rfl
  have htxt : txt M (fz f x) = txt L x := h3.txtE hL h2 hself
  refine ⟨M, fz f x, f, ?_, h2, h3, rfl⟩
  unfold pars
  rw [if_neg (by omega), hfold]
  simp only [Option.bind_some]
  rw [hlast, if_pos htxt]

/-- Two terms that are one in another arena are one. -/
theorem Iso.uniq {L M : List Nd} {D D' : List Int} {f g : Int → Int} (h : Iso L M D f) (h' : Iso L M D' g) (hL : WF L) : ∀ (n : Nat) (x y : Int), x.toNat < n → x ∈ D → y ∈ D' → f x = g y → x = y
  | 0, _, _, hn, _, _, _ => by omega
  | n + 1, x, y, hn, hx, hy, e => by
    have nx := h.node x hx
    have ny := h'.node y hy
    rw [e] at nx
    have hb := (h.has x hx).1
    have e3 : (prt (nd L x)).map f = (prt (nd L y)).map g := nx.2.2.symm.trans ny.2.2
    have key : ∀ (l m : List Int), (∀ p ∈ l, p ∈ D ∧ p.toNat < n) → (∀ p ∈ m, p ∈ D') → l.map f = m.map g → l = m := by
      intro l
      induction l with
      | nil => intro m _ _ e; cases m with | nil => rfl | cons a b => simp at e
      | cons a l ih =>
        intro m hl hm e
        cases m with
        | nil => simp at e
        | cons b m =>
          simp only [List.map_cons, List.cons.injEq] at e
          have ha := hl a (by simp)
          rw [Iso.uniq h h' hL n a b ha.2 ha.1 (hm b (by simp)) e.1, ih m (fun p hp => hl p (by simp [hp])) (fun p hp => hm p (by simp [hp])) e.2]
    have e4 := key _ _ (fun p hp => ⟨h.closed x hx p hp, by have := prt_in hL hb hp; omega⟩) (h'.closed y hy) e3
    exact nd_of_prt hL hb (h'.has y hy).1 (nx.1.symm.trans ny.1) (nx.2.1.symm.trans ny.2.1) e4

/-- A text is of one term. -/
theorem txt_inj {L : List Nd} (hL : WF L) (hs : L.length ≤ 60000) {x y : Int} (hx : hasB L.length x = true) (hy : hasB L.length y = true) (hl : (txt L x).length ≤ 16384) (e : txt L x = txt L y) : x = y := by
  obtain ⟨own, ref, f, h1, _, h3, h4⟩ := pars_txt hL hs hx hl
  obtain ⟨own', ref', g, k1, _, k3, k4⟩ := pars_txt hL hs hy (by rw [← e]; exact hl)
  rw [← e, h1] at k1
  obtain ⟨rfl, rfl⟩ := Prod.mk.inj (Option.some.inj k1)
  exact h3.uniq k3 hL (x.toNat + 1) x y (by omega) (rows_self hx) (rows_self hy) (h4.trans k4.symm)
end Go.Proofs.YtmnmjekpndeemaaGreatDoor
