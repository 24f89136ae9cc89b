/- Layer 7: the rules of patterns. Plain mathematics: no program is named here. -/
import Derived.Test.YtahbbojhdkillaaDoorMa
namespace Go.Proofs.YtahbbojhdkillaaDoor

/-! What was processed: a list of who and what, in order. -/
abbrev Tk := Int × Int
def hitB (who t : Int) (x : Tk) : Bool := decide (x.2 = t) && (decide (who = 2) || decide (x.1 = who))
/-- How often was a token processed, by one of both (2: whoever)? -/
def met (who t : Int) (L : List Tk) : Nat := L.countP (hitB who t)
def prw (p : Pt) (r : Int) : List Int := if r = 0 then p.p0 else p.p1
/-- Has one of both announced a key? -/
def tld (p : Pt) (r k : Int) (L : List Tk) : Bool := (prw p r).contains k || decide (0 < met r k L)
/-- Some messages, token by token. -/
def flat (ms : List Ms) : List Tk := ms.flatMap fun m => m.t.map fun t => (m.fr, t)
/-- What stands ahead of a token. -/
def ahd (ms : List Ms) (msg at_ : Nat) : List Tk := flat (ms.take msg) ++ ((ms.getD msg default).t.take at_).map fun t => ((ms.getD msg default).fr, t)
def psk (p : Pt) : Bool := decide (0 < met 2 7 (flat p.ms))
def rkey (p : Pt) (L : List Tk) : Bool := decide (0 < met 2 3 L) || decide (0 < met 2 4 L) || decide (0 < met 2 5 L) || decide (0 < met 2 6 L) || decide (0 < met 2 7 L) || (psk p && (tld p 0 1 L || tld p 1 1 L))
def stT (r : Int) : Int := if r = 1 then 4 else 5
def epT (r : Int) : Int := if r = 1 then 5 else 4
/-- The rule that forbids one of both to seal; 0: none does. -/
def rsl (p : Pt) (r : Int) (L : List Tk) : Int :=
  if (decide (0 < met 2 (stT r) L) && decide (met 2 3 L = 0)) || (decide (0 < met 2 6 L) && decide (met 2 (epT r) L = 0)) then 5
  else if decide (0 < met 2 7 L) && !tld p r 1 L then 6 else 0
def sl (p : Pt) (r : Int) (L : List Tk) : Int := if rkey p L then rsl p r L else 0
def kA (t : Int) : Int := if t = 5 ∨ t = 6 then 2 else 1
def kB (t : Int) : Int := if t = 4 ∨ t = 6 then 2 else 1
/-- The rule that a token breaks. -/
def rone (p : Pt) (r t : Int) (L : List Tk) : Int :=
  if t ≤ 2 then (if tld p r t L then 2 else if t = 2 then sl p r L else 0)
  else if t = 7 then 0
  else if !tld p 0 (kA t) L || !tld p 1 (kB t) L then 3 else if 0 < met 2 t L then 4 else 0
/-- The rule that a message breaks, but for the first one. -/
def rtk (p : Pt) (r : Int) : List Tk → List Int → Int
  | L, [] => sl p r L
  | L, t :: l => if rone p r t L = 0 then rtk p r (L ++ [(r, t)]) l else rone p r t L
def rfin (p : Pt) (L : List Tk) : Int :=
  if !rkey p L then 7 else if p.ms.length = 1 then sl p (p.ms.getD 0 default).fr L else if sl p 0 L = 0 then sl p 1 L else sl p 0 L
/-- What comes of the messages from one on. -/
def ckG (p : Pt) : List Tk → Option Int → Nat → List Ms → Int × Nat
  | L, _, i, [] => (rfin p L, i)
  | L, v, i, m :: r => if v = some m.fr then (1, i) else if rtk p m.fr L m.t = 0 then ckG p (L ++ m.t.map fun t => (m.fr, t)) (some m.fr) (i + 1) r else (rtk p m.fr L m.t, i)
def ck (p : Pt) : Int × Nat := ckG p [] none 0 p.ms
def ckR (p : Pt) : Int := if right p then (ck p).1 else 0
def ckI (p : Pt) : Nat := if right p then (if (ck p).1 = 0 then 0 else (ck p).2) else 0
def ckE (p : Pt) : Int := if right p then (if (ck p).1 = 0 then 0 else 13) else 1
def keyd (p : Pt) (msg : Nat) : Bool := decide (msg < p.ms.length) && rkey p (flat (p.ms.take (msg + 1)))

theorem met_add (who t : Int) (L M : List Tk) : met who t (L ++ M) = met who t L + met who t M := List.countP_append
theorem met_one (who t : Int) (x : Tk) : met who t [x] = if hitB who t x then 1 else 0 := by
  unfold met; rw [List.countP_singleton]
theorem met_nil (who t : Int) : met who t [] = 0 := rfl
theorem flat_cons (m : Ms) (r : List Ms) : flat (m :: r) = (m.t.map fun t => (m.fr, t)) ++ flat r := by simp [flat]
theorem flat_app (a b : List Ms) : flat (a ++ b) = flat a ++ flat b := by simp [flat]
theorem flat_nil : flat [] = [] := rfl
theorem take_next {ms : List Ms} {i : Nat} (h : i < ms.length) : ms.take (i + 1) = ms.take i ++ [ms.getD i default] := by
  rw [List.take_succ_eq_append_getElem h, List.getD_eq_getElem?_getD, List.getElem?_eq_getElem h]; rfl
theorem flat_next {ms : List Ms} {i : Nat} (h : i < ms.length) : flat (ms.take (i + 1)) = flat (ms.take i) ++ (ms.getD i default).t.map fun t => ((ms.getD i default).fr, t) := by
  rw [take_next h, flat_app]; simp [flat]
theorem drop_next {ms : List Ms} {i : Nat} (h : i < ms.length) : ms.drop i = ms.getD i default :: ms.drop (i + 1) := by
  rw [List.getD_eq_getElem?_getD, List.getElem?_eq_getElem h]; exact List.drop_eq_getElem_cons _
theorem take_nextI {l : List Int} {i : Nat} (h : i < l.length) : l.take (i + 1) = l.take i ++ [l.getD i 0] := by
  rw [List.take_succ_eq_append_getElem h, List.getD_eq_getElem?_getD, List.getElem?_eq_getElem h]; rfl
theorem drop_nextI {l : List Int} {i : Nat} (h : i < l.length) : l.drop i = l.getD i 0 :: l.drop (i + 1) := by
  rw [List.getD_eq_getElem?_getD, List.getElem?_eq_getElem h]; exact List.drop_eq_getElem_cons _

/-! The state in cells: 0: a PSK anywhere; 1 + 3 r + k: role r announced key k; 7 + t: token t was met. -/
abbrev Cs := Nat → Bool
def up (f : Cs) (i : Nat) : Cs := fun j => decide (j = i) || f j
def sdI (r k : Int) : Nat := 1 + 3 * r.toNat + k.toNat
def pc (f : Cs) (r t : Int) : Cs := if t = 1 ∨ t = 2 then up (up f (7 + t.toNat)) (sdI r t) else up f (7 + t.toNat)
def kyd (f : Cs) : Bool := f 10 || f 11 || f 12 || f 13 || f 14 || (f 0 && f 8)
def bbs (f : Cs) (r : Int) : Int :=
  if kyd f then (if (f (if r = 1 then 11 else 12) && !f 10) || (f 13 && !f (if r = 1 then 12 else 11)) then 5 else if f 14 && !f (if r = 1 then 5 else 2) then 6 else 0) else 0
def ow2 (f : Cs) (t : Int) : Bool := (if t = 5 ∨ t = 6 then f 3 else f 2) && (if t = 4 ∨ t = 6 then f 6 else f 5)
def bat (f : Cs) (r t : Int) : Int :=
  if t ≤ 2 then (if f (sdI r t) then 2 else if t = 2 then bbs f r else 0)
  else if t = 7 then 0 else if !ow2 f t then 3 else if f (7 + t.toNat) then 4 else 0
/-- The cells say what was processed. -/
structure Sr (p : Pt) (f : Cs) (L : List Tk) : Prop where
  k : f 0 = psk p
  s11 : f 2 = tld p 0 1 L
  s12 : f 3 = tld p 0 2 L
  s21 : f 5 = tld p 1 1 L
  s22 : f 6 = tld p 1 2 L
  m3 : f 10 = decide (0 < met 2 3 L)
  m4 : f 11 = decide (0 < met 2 4 L)
  m5 : f 12 = decide (0 < met 2 5 L)
  m6 : f 13 = decide (0 < met 2 6 L)
  m7 : f 14 = decide (0 < met 2 7 L)
  e : f 8 = (tld p 0 1 L || tld p 1 1 L)
theorem Sr.kyd {p : Pt} {f : Cs} {L : List Tk} (h : Sr p f L) : kyd f = rkey p L := by
  unfold Go.Proofs.YtahbbojhdkillaaDoor.kyd rkey; rw [h.k, h.m3, h.m4, h.m5, h.m6, h.m7, h.e]
theorem not_pos (n : Nat) : (!decide (0 < n)) = decide (n = 0) := by rw [Bool.eq_iff_iff]; simp
theorem Sr.bbs {p : Pt} {f : Cs} {L : List Tk} (h : Sr p f L) {r : Int} (hr : r = 0 ∨ r = 1) : bbs f r = sl p r L := by
  unfold Go.Proofs.YtahbbojhdkillaaDoor.bbs sl rsl
  rw [h.kyd]
  rcases hr with rfl | rfl
  · simp only [stT, epT, h.m3, h.m4, h.m5, h.m6, h.m7, h.s11, not_pos, show ¬ (0 : Int) = 1 by decide, if_false]
  · simp only [stT, epT, h.m3, h.m4, h.m5, h.m6, h.m7, h.s21, not_pos, if_true]
theorem Sr.ow2 {p : Pt} {f : Cs} {L : List Tk} (h : Sr p f L) {t : Int} (ht : 3 ≤ t) (ht6 : t ≤ 6) : ow2 f t = (tld p 0 (kA t) L && tld p 1 (kB t) L) := by
  have : t = 3 ∨ t = 4 ∨ t = 5 ∨ t = 6 := by omega
  rcases this with rfl | rfl | rfl | rfl <;> simp [Go.Proofs.YtahbbojhdkillaaDoor.ow2, kA, kB, h.s11, h.s12, h.s21, h.s22]
theorem Sr.bat {p : Pt} {f : Cs} {L : List Tk} (h : Sr p f L) {r t : Int} (hr : r = 0 ∨ r = 1) (ht : isTok t = true) : bat f r t = rone p r t L := by
  unfold Go.Proofs.YtahbbojhdkillaaDoor.bat rone
  rw [h.bbs hr]
  rcases tok_cases ht with rfl | rfl | rfl | rfl | rfl | rfl | rfl
  · rcases hr with rfl | rfl <;> simp [sdI, h.s11, h.s21]
  · rcases hr with rfl | rfl <;> simp [sdI, h.s12, h.s22]
  · rw [h.ow2 (by decide) (by decide)]; simp [h.m3]
  · rw [h.ow2 (by decide) (by decide)]; simp [h.m4]
  · rw [h.ow2 (by decide) (by decide)]; simp [h.m5]
  · rw [h.ow2 (by decide) (by decide)]; simp [h.m6]
  · simp
theorem tld_add (p : Pt) (r k : Int) (L : List Tk) (x : Tk) : tld p r k (L ++ [x]) = (hitB r k x || tld p r k L) := by
  unfold tld
  rw [met_add, met_one]
  cases hitB r k x <;> simp
theorem mtd_add (t : Int) (L : List Tk) (x : Tk) : decide (0 < met 2 t (L ++ [x])) = (hitB 2 t x || decide (0 < met 2 t L)) := by
  rw [met_add, met_one]
  cases hitB 2 t x <;> simp
theorem Sr.pc {p : Pt} {f : Cs} {L : List Tk} (h : Sr p f L) {r t : Int} (hr : r = 0 ∨ r = 1) (ht : isTok t = true) : Sr p (pc f r t) (L ++ [(r, t)]) := by
  rcases hr with rfl | rfl <;> rcases tok_cases ht with rfl | rfl | rfl | rfl | rfl | rfl | rfl
  all_goals
    constructor
    all_goals (try simp only [tld_add, mtd_add])
    all_goals simp [Go.Proofs.YtahbbojhdkillaaDoor.pc, up, sdI, hitB, h.k, h.s11, h.s12, h.s21, h.s22, h.m3, h.m4, h.m5, h.m6, h.m7, h.e]
/-- What is known beforehand. -/
def pre1 (r : Int) (f : Cs) (l : List Int) : Cs := l.foldl (fun f t => pc f r t) f
def bg (p : Pt) : Cs := pre1 1 (pre1 0 (fun j => decide (j = 0) && psk p) p.p0) p.p1
theorem sr_bg {p : Pt} (h : right p = true) : Sr p (bg p) [] := by
  simp only [right, Bool.and_eq_true] at h
  obtain ⟨⟨⟨⟨⟨_, _⟩, _⟩, h0⟩, h1⟩, _⟩ := h
  obtain ⟨nm, p0, p1, ms⟩ := p
  simp [preOk] at h0 h1
  rcases h0 with ((rfl | rfl) | rfl) | rfl <;> rcases h1 with ((rfl | rfl) | rfl) | rfl
  all_goals constructor <;> simp [bg, pre1, pc, up, sdI, tld, prw, met_nil]
theorem right_ms' {p : Pt} (h : right p = true) {m : Ms} (hm : m ∈ p.ms) : (m.fr = 0 ∨ m.fr = 1) ∧ ∀ t ∈ m.t, isTok t = true := by
  simp only [right, Bool.and_eq_true] at h
  have := List.all_eq_true.1 h.2 m hm
  simp only [msOk, Bool.and_eq_true, Bool.or_eq_true, decide_eq_true_eq] at this
  exact ⟨this.1.1.1, fun t ht => List.all_eq_true.1 this.2 t ht⟩
theorem right_pre {p : Pt} (h : right p = true) : (7 ∉ p.p0 ∧ 7 ∉ p.p1) ∧ (∀ t ∈ p.p0, t = 1 ∨ t = 2) ∧ ∀ t ∈ p.p1, t = 1 ∨ t = 2 := by
  simp only [right, Bool.and_eq_true] at h
  obtain ⟨⟨⟨⟨⟨_, _⟩, _⟩, h0⟩, h1⟩, _⟩ := h
  obtain ⟨nm, p0, p1, ms⟩ := p
  simp [preOk] at h0 h1
  rcases h0 with ((rfl | rfl) | rfl) | rfl <;> rcases h1 with ((rfl | rfl) | rfl) | rfl <;> simp
theorem met_flat (t : Int) (ms : List Ms) : decide (0 < met 2 t (flat ms)) = ms.any fun m => m.t.contains t := by
  induction ms with
  | nil => rfl
  | cons m r ih =>
    rw [flat_cons, met_add, List.any_cons, ← ih]
    have : decide (0 < met 2 t (m.t.map fun x => (m.fr, x))) = m.t.contains t := by
      rw [Bool.eq_iff_iff]
      simp [met, List.countP_pos_iff, hitB]
    rw [← this, Bool.eq_iff_iff]
    simp; omega

/-! What a pattern that keeps the rules is. -/
structure Okp (p : Pt) (L : List Tk) : Prop where
  d : ∀ t, 3 ≤ t → t ≤ 6 → met 2 t L ≤ 1
  s : ∀ r k, (r = 0 ∨ r = 1) → (k = 1 ∨ k = 2) → met r k L ≤ 1 ∧ ((prw p r).contains k = true → met r k L = 0)
theorem okp_nil (p : Pt) : Okp p [] := ⟨fun _ _ _ => by rw [met_nil]; omega, fun _ _ _ _ => by rw [met_nil]; exact ⟨by omega, fun _ => rfl⟩⟩
theorem Okp.one {p : Pt} {L : List Tk} (h : Okp p L) {r t : Int} (ht : isTok t = true) (h0 : rone p r t L = 0) : Okp p (L ++ [(r, t)]) := by
  constructor
  · intro u h3 h6
    rw [met_add, met_one]
    by_cases e : u = t
    · subst e
      have : met 2 u L = 0 := by
        unfold rone at h0
        rw [if_neg (by omega), if_neg (by omega)] at h0
        split at h0
        · cases h0
        · split at h0
          · cases h0
          · omega
      rw [this]; split <;> omega
    · have : hitB 2 u (r, t) = false := by simp [hitB]; exact fun e' => e e'.symm
      rw [this]; have := h.d u h3 h6; simpa using this
  · intro r' k hr' hk
    rw [met_add, met_one]
    by_cases e : r = r' ∧ t = k
    · obtain ⟨rfl, rfl⟩ := e
      unfold rone at h0
      rw [if_pos (by omega)] at h0
      have hf : tld p r t L = false := by
        cases hc : tld p r t L with
        | false => rfl
        | true => rw [if_pos hc] at h0; cases h0
      simp only [tld, Bool.or_eq_false_iff, decide_eq_false_iff_not] at hf
      have : met r t L = 0 := by omega
      rw [this, hf.1]
      exact ⟨by split <;> omega, fun h => by cases h⟩
    · have : hitB r' k (r, t) = false := by
        simp only [hitB, Bool.and_eq_false_iff, decide_eq_false_iff_not, Bool.or_eq_false_iff]
        by_cases e2 : t = k
        · exact .inr ⟨by omega, fun e1 => e ⟨e1, e2⟩⟩
        · exact .inl e2
      rw [this]; have := h.s r' k hr' hk; simpa using this
theorem Okp.tk {p : Pt} {r : Int} (hr : r = 0 ∨ r = 1) : ∀ {l : List Int} {L : List Tk}, Okp p L → (∀ t ∈ l, isTok t = true) → rtk p r L l = 0 → Okp p (L ++ l.map fun t => (r, t)) ∧ sl p r (L ++ l.map fun t => (r, t)) = 0
  | [], L, h, _, h0 => by simpa using ⟨h, h0⟩
  | t :: l, L, h, ht, h0 => by
    unfold rtk at h0
    split at h0
    · rename_i h1
      have := Okp.tk hr (h.one (ht t (by simp)) h1) (fun u hu => ht u (by simp [hu])) h0
      simpa using this
    · rename_i h1; exact absurd h0 h1
/-- What is known of each message behind it. -/
theorem ckG_ok {p : Pt} (hms : ∀ m ∈ p.ms, (m.fr = 0 ∨ m.fr = 1) ∧ ∀ t ∈ m.t, isTok t = true) : ∀ (n i : Nat) (v : Option Int), i + n = p.ms.length → Okp p (flat (p.ms.take i)) → (ckG p (flat (p.ms.take i)) v i (p.ms.drop i)).1 = 0 →
    Okp p (flat p.ms) ∧ rfin p (flat p.ms) = 0 ∧ (∀ k, i ≤ k → k < p.ms.length → sl p (p.ms.getD k default).fr (flat (p.ms.take (k + 1))) = 0) ∧ (∀ k, i ≤ k → k < p.ms.length → (if k = i then v else some (p.ms.getD (k - 1) default).fr) ≠ some (p.ms.getD k default).fr)
  | 0, i, v, hi, h, h0 => by
    rw [List.drop_of_length_le (by omega)] at h0
    rw [List.take_of_length_le (by omega)] at h h0
    exact ⟨h, h0, fun k _ _ => by omega, fun k _ _ => by omega⟩
  | n + 1, i, v, hi, h, h0 => by
    rw [drop_next (by omega)] at h0
    unfold ckG at h0
    have hm := hms (p.ms.getD i default) (by rw [List.getD_eq_getElem?_getD, List.getElem?_eq_getElem (by omega)]; exact List.getElem_mem _)
    split at h0
    · cases h0
    · rename_i hv
      split at h0
      · rename_i h1
        have := h.tk hm.1 hm.2 h1
        rw [← flat_next (by omega)] at this h0
        obtain ⟨a, b, c, d⟩ := ckG_ok hms n (i + 1) _ (by omega) this.1 h0
        refine ⟨a, b, fun k hk hkl => ?_, fun k hk hkl => ?_⟩
        · by_cases e : k = i
          · subst e; exact this.2
          · exact c k (by omega) hkl
        · by_cases e : k = i
          · subst e; simpa using hv
          · have := d k (by omega) hkl
            rw [if_neg e]
            by_cases e2 : k = i + 1
            · subst e2; simpa using this
            · rw [if_neg e2] at this; exact this
      · rename_i h1; exact absurd h0 h1
theorem ck_ok {p : Pt} (h : ckE p = 0) : right p = true ∧ Okp p (flat p.ms) ∧ rkey p (flat p.ms) = true ∧ (∀ k, k < p.ms.length → sl p (p.ms.getD k default).fr (flat (p.ms.take (k + 1))) = 0) ∧ ∀ k, 1 ≤ k → k < p.ms.length → (p.ms.getD (k - 1) default).fr ≠ (p.ms.getD k default).fr := by
  unfold ckE at h
  split at h
  · rename_i hr
    split at h
    · rename_i h0
      obtain ⟨a, b, c, d⟩ := ckG_ok (fun m hm => right_ms' hr hm) p.ms.length 0 none (by omega) (okp_nil p) h0
      refine ⟨hr, a, ?_, fun k hk => c k (by omega) hk, fun k h1 hk => ?_⟩
      · unfold rfin at b
        cases hc : rkey p (flat p.ms) with
        | true => rfl
        | false => rw [hc] at b; cases b
      · have := d k (by omega) hk
        rw [if_neg (by omega)] at this
        exact fun e => this (by rw [e])
    · cases h
  · cases h
theorem sl_ok {p : Pt} {r : Int} {L : List Tk} (h : sl p r L = 0) : (0 < met 2 (stT r) L → met 2 3 L ≠ 0) ∧ (0 < met 2 7 L → tld p r 1 L = true) := by
  unfold sl at h
  split at h
  · unfold rsl at h
    split at h
    · cases h
    · rename_i h5
      split at h
      · cases h
      · rename_i h6
        simp only [Bool.or_eq_true, Bool.and_eq_true, decide_eq_true_eq, Bool.not_eq_true', not_or, not_and, Bool.not_eq_false] at h5 h6
        exact ⟨h5.1, h6⟩
  · rename_i hk
    simp only [rkey, Bool.or_eq_true, decide_eq_true_eq, not_or] at hk
    refine ⟨fun hh => ?_, fun hh => absurd hh (by omega)⟩
    unfold stT at hh
    split at hh <;> omega
end Go.Proofs.YtahbbojhdkillaaDoor
