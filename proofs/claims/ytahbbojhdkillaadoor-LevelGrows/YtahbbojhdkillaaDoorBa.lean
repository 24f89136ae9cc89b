/- Layer 6: the base patterns and their modifiers. Plain mathematics: no program is named here. -/
import Derived.Test.YtahbbojhdkillaaDoorMa
import Derived.Lib.SlTrimSet
import Derived.Lib.Strings
namespace Go.Proofs.YtahbbojhdkillaaDoor

def basePs : List Pt := [
  ⟨[78], [], [2], [⟨0, [1, 4]⟩]⟩,
  ⟨[75], [2], [2], [⟨0, [1, 4, 6]⟩]⟩,
  ⟨[88], [], [2], [⟨0, [1, 4, 2, 6]⟩]⟩,
  ⟨[78, 78], [], [], [⟨0, [1]⟩, ⟨1, [1, 3]⟩]⟩,
  ⟨[78, 75], [], [2], [⟨0, [1, 4]⟩, ⟨1, [1, 3]⟩]⟩,
  ⟨[78, 88], [], [], [⟨0, [1]⟩, ⟨1, [1, 3, 2, 4]⟩]⟩,
  ⟨[88, 78], [], [], [⟨0, [1]⟩, ⟨1, [1, 3]⟩, ⟨0, [2, 5]⟩]⟩,
  ⟨[88, 75], [], [2], [⟨0, [1, 4]⟩, ⟨1, [1, 3]⟩, ⟨0, [2, 5]⟩]⟩,
  ⟨[88, 88], [], [], [⟨0, [1]⟩, ⟨1, [1, 3, 2, 4]⟩, ⟨0, [2, 5]⟩]⟩,
  ⟨[75, 78], [2], [], [⟨0, [1]⟩, ⟨1, [1, 3, 5]⟩]⟩,
  ⟨[75, 75], [2], [2], [⟨0, [1, 4, 6]⟩, ⟨1, [1, 3, 5]⟩]⟩,
  ⟨[75, 88], [2], [], [⟨0, [1]⟩, ⟨1, [1, 3, 5, 2, 4]⟩]⟩,
  ⟨[73, 78], [], [], [⟨0, [1, 2]⟩, ⟨1, [1, 3, 5]⟩]⟩,
  ⟨[73, 75], [], [2], [⟨0, [1, 4, 2, 6]⟩, ⟨1, [1, 3, 5]⟩]⟩,
  ⟨[73, 88], [], [], [⟨0, [1, 2]⟩, ⟨1, [1, 3, 5, 2, 4]⟩]⟩]
def linesL : List (List UInt8) := [
  [60, 45, 32, 115, 10, 46, 46, 46, 10, 45, 62, 32, 101, 44, 32, 101, 115, 10],
  [45, 62, 32, 115, 10, 60, 45, 32, 115, 10, 46, 46, 46, 10, 45, 62, 32, 101, 44, 32, 101, 115, 44, 32, 115, 115, 10],
  [60, 45, 32, 115, 10, 46, 46, 46, 10, 45, 62, 32, 101, 44, 32, 101, 115, 44, 32, 115, 44, 32, 115, 115, 10],
  [45, 62, 32, 101, 10, 60, 45, 32, 101, 44, 32, 101, 101, 10],
  [60, 45, 32, 115, 10, 46, 46, 46, 10, 45, 62, 32, 101, 44, 32, 101, 115, 10, 60, 45, 32, 101, 44, 32, 101, 101, 10],
  [45, 62, 32, 101, 10, 60, 45, 32, 101, 44, 32, 101, 101, 44, 32, 115, 44, 32, 101, 115, 10],
  [45, 62, 32, 101, 10, 60, 45, 32, 101, 44, 32, 101, 101, 10, 45, 62, 32, 115, 44, 32, 115, 101, 10],
  [60, 45, 32, 115, 10, 46, 46, 46, 10, 45, 62, 32, 101, 44, 32, 101, 115, 10, 60, 45, 32, 101, 44, 32, 101, 101, 10, 45, 62, 32, 115, 44, 32, 115, 101, 10],
  [45, 62, 32, 101, 10, 60, 45, 32, 101, 44, 32, 101, 101, 44, 32, 115, 44, 32, 101, 115, 10, 45, 62, 32, 115, 44, 32, 115, 101, 10],
  [45, 62, 32, 115, 10, 46, 46, 46, 10, 45, 62, 32, 101, 10, 60, 45, 32, 101, 44, 32, 101, 101, 44, 32, 115, 101, 10],
  [45, 62, 32, 115, 10, 60, 45, 32, 115, 10, 46, 46, 46, 10, 45, 62, 32, 101, 44, 32, 101, 115, 44, 32, 115, 115, 10, 60, 45, 32, 101, 44, 32, 101, 101, 44, 32, 115, 101, 10],
  [45, 62, 32, 115, 10, 46, 46, 46, 10, 45, 62, 32, 101, 10, 60, 45, 32, 101, 44, 32, 101, 101, 44, 32, 115, 101, 44, 32, 115, 44, 32, 101, 115, 10],
  [45, 62, 32, 101, 44, 32, 115, 10, 60, 45, 32, 101, 44, 32, 101, 101, 44, 32, 115, 101, 10],
  [60, 45, 32, 115, 10, 46, 46, 46, 10, 45, 62, 32, 101, 44, 32, 101, 115, 44, 32, 115, 44, 32, 115, 115, 10, 60, 45, 32, 101, 44, 32, 101, 101, 44, 32, 115, 101, 10],
  [45, 62, 32, 101, 44, 32, 115, 10, 60, 45, 32, 101, 44, 32, 101, 101, 44, 32, 115, 101, 44, 32, 115, 44, 32, 101, 115, 10]]
theorem base_len : basePs.length = 15 := rfl
theorem base_text : ∀ i, i < 15 → preE (preT (basePs.getD i zP)) ++ msT (basePs.getD i zP).ms = linesL.getD i [] := by decide
theorem base_right : ∀ i, i < 15 → right (basePs.getD i zP) = true := by decide
theorem base_nd : ∀ i, i < 15 → ∀ j, j < 15 → (basePs.getD i zP).nm = (basePs.getD j zP).nm → i = j := by decide
theorem base_prn {i : Nat} (h : i < 15) : prn (basePs.getD i zP) = (basePs.getD i zP).nm ++ [58, 10] ++ linesL.getD i [] := by
  rw [← base_text i h]; unfold prn; simp only [List.append_assoc]
/-- The first base pattern of that name, from place k on. -/
def bsAt (n : List UInt8) : List Pt → Option Pt
  | [] => none
  | p :: r => if p.nm = n then some p else bsAt n r
def bsP (n : List UInt8) : Pt := (bsAt n basePs).getD zP
def bsE (n : List UInt8) : Int := if (bsAt n basePs).isSome then 0 else 4
theorem bsAt_mem {n : List UInt8} : ∀ {l : List Pt} {p : Pt}, bsAt n l = some p → p ∈ l ∧ p.nm = n
  | [], _, h => by cases h
  | q :: r, p, h => by
    unfold bsAt at h
    split at h
    · rename_i e; cases h; exact ⟨by simp, e⟩
    · have := bsAt_mem h; exact ⟨by simp [this.1], this.2⟩
theorem base_all : basePs.all right = true := by decide
theorem bs_right {n : List UInt8} (h : bsE n = 0) : right (bsP n) = true ∧ (bsP n).nm = n := by
  unfold bsE at h
  unfold bsP
  cases e : bsAt n basePs with
  | none => rw [e] at h; simp at h
  | some p =>
    have := bsAt_mem e
    exact ⟨List.all_eq_true.1 base_all p this.1, this.2⟩

/-! What falls back. -/
def fbOk (p : Pt) : Bool := decide ((p.ms.getD 0 default).fr = 0) && (decide ((p.ms.getD 0 default).t = [1]) || decide ((p.ms.getD 0 default).t = [2]) || decide ((p.ms.getD 0 default).t = [1, 2])) && decide (p.p0 = []) && decide (2 ≤ p.ms.length)
def fbP (p : Pt) : Pt := if right p && fbOk p then ⟨p.nm, (p.ms.getD 0 default).t, p.p1, p.ms.drop 1⟩ else zP
def fbE (p : Pt) : Int := if right p then (if fbOk p then 0 else 13) else 1
theorem fb_ok {p : Pt} (h : fbE p = 0) : right p = true ∧ fbOk p = true := by
  unfold fbE at h
  split at h
  · split at h
    · exact ⟨by assumption, by assumption⟩
    · cases h
  · cases h
theorem fb_eq {p : Pt} (h : fbE p = 0) : fbP p = ⟨p.nm, (p.ms.getD 0 default).t, p.p1, p.ms.drop 1⟩ := by
  obtain ⟨hr, hf⟩ := fb_ok h
  unfold fbP; rw [hr, hf]; rfl
theorem fb_right {p : Pt} (h : fbE p = 0) : right (fbP p) = true := by
  rw [fb_eq h]
  obtain ⟨hr, hf⟩ := fb_ok h
  simp only [right, fbOk, Bool.and_eq_true, Bool.or_eq_true, decide_eq_true_eq] at hr hf ⊢
  obtain ⟨⟨⟨⟨⟨hn, h1⟩, h6⟩, h0⟩, hp1⟩, hm⟩ := hr
  obtain ⟨⟨⟨_, ht⟩, _⟩, h2⟩ := hf
  refine ⟨⟨⟨⟨⟨hn, ?_⟩, ?_⟩, ?_⟩, hp1⟩, ?_⟩
  · simp; omega
  · simp; omega
  · rcases ht with (e | e) | e <;> rw [e] <;> decide
  · rw [List.all_eq_true] at hm ⊢
    exact fun m hm' => hm m (List.mem_of_mem_drop hm')
theorem fb_again {p : Pt} (h : fbE p = 0) : fbE (fbP p) = 13 := by
  have hr := fb_right h
  obtain ⟨_, hf⟩ := fb_ok h
  have : fbOk (fbP p) = false := by
    rw [fb_eq h]
    simp only [fbOk, Bool.and_eq_true, Bool.or_eq_true, decide_eq_true_eq] at hf
    have : (p.ms.getD 0 default).t ≠ [] := by
      rcases hf.1.1.2 with (e | e) | e <;> rw [e] <;> simp
    have h2 : decide ((p.ms.getD 0 default).t = []) = false := by simpa using this
    unfold fbOk
    simp only [h2, Bool.and_false, Bool.false_and]
  unfold fbE
  rw [hr, this]; rfl
theorem fb_zero {p : Pt} (h : fbE p ≠ 0) : fbP p = zP := by
  unfold fbE at h
  unfold fbP
  cases h1 : right p <;> cases h2 : fbOk p <;> simp_all

/-! A psk more. -/
def pskI (n : Int) : Nat := (n - 1).toNat
def pskOk (p : Pt) (n : Int) : Bool := decide (0 ≤ n) && decide (n ≤ p.ms.length) && decide ((p.ms.getD (pskI n) default).t.length < 12)
def insT (n : Int) (t : List Int) : List Int := if n = 0 then 7 :: t else t ++ [7]
def pskM (p : Pt) (n : Int) : Ms := ⟨(p.ms.getD (pskI n) default).fr, insT n (p.ms.getD (pskI n) default).t⟩
def pskP (p : Pt) (n : Int) : Pt := if right p && pskOk p n then ⟨p.nm, p.p0, p.p1, p.ms.set (pskI n) (pskM p n)⟩ else zP
def pskE (p : Pt) (n : Int) : Int := if right p then (if pskOk p n then 0 else 13) else 1
theorem psk_ok {p : Pt} {n : Int} (h : pskE p n = 0) : right p = true ∧ pskOk p n = true := by
  unfold pskE at h
  split at h
  · split at h
    · exact ⟨by assumption, by assumption⟩
    · cases h
  · cases h
theorem psk_zero {p : Pt} {n : Int} (h : pskE p n ≠ 0) : pskP p n = zP := by
  unfold pskE at h
  unfold pskP
  cases h1 : right p <;> cases h2 : pskOk p n <;> simp_all
theorem pskI_lt {p : Pt} {n : Int} (hr : right p = true) (h : pskOk p n = true) : pskI n < p.ms.length := by
  simp only [right, pskOk, Bool.and_eq_true, decide_eq_true_eq] at hr h
  unfold pskI; omega
theorem insT_len (n : Int) (t : List Int) : (insT n t).length = t.length + 1 := by unfold insT; split <;> simp
theorem psk_eq {p : Pt} {n : Int} (h : pskE p n = 0) : pskP p n = ⟨p.nm, p.p0, p.p1, p.ms.set (pskI n) (pskM p n)⟩ := by
  obtain ⟨hr, hf⟩ := psk_ok h
  unfold pskP; rw [hr, hf]; rfl
theorem psk_right {p : Pt} {n : Int} (h : pskE p n = 0) : right (pskP p n) = true := by
  rw [psk_eq h]
  obtain ⟨hr, hf⟩ := psk_ok h
  have hlt := pskI_lt hr hf
  simp only [right, pskOk, Bool.and_eq_true, decide_eq_true_eq] at hr hf ⊢
  obtain ⟨⟨⟨⟨⟨hn, h1⟩, h6⟩, h0⟩, hp1⟩, hm⟩ := hr
  refine ⟨⟨⟨⟨⟨hn, ?_⟩, ?_⟩, h0⟩, hp1⟩, ?_⟩
  · simpa using h1
  · simpa using h6
  · rw [List.all_eq_true] at hm ⊢
    intro m hm'
    rcases List.mem_or_eq_of_mem_set hm' with h | rfl
    · exact hm m h
    · have hx := hm (p.ms.getD (pskI n) default) (by rw [List.getD_eq_getElem?_getD, List.getElem?_eq_getElem hlt]; simp)
      unfold pskM
      simp only [msOk, Bool.and_eq_true, Bool.or_eq_true, decide_eq_true_eq] at hx ⊢
      refine ⟨⟨⟨hx.1.1.1, by rw [insT_len]; omega⟩, by rw [insT_len]; omega⟩, ?_⟩
      unfold insT
      split
      · rw [List.all_cons, hx.2]; rfl
      · rw [List.all_append, hx.2]; rfl

/-! Names. -/
def upperL : List UInt8 := [65, 66, 67, 68, 69, 70, 71, 72, 73, 74, 75, 76, 77, 78, 79, 80, 81, 82, 83, 84, 85, 86, 87, 88, 89, 90]
def fbT : List UInt8 := [102, 97, 108, 108, 98, 97, 99, 107]
def pskT (d : Nat) : List UInt8 := [112, 115, 107, UInt8.ofNat (48 + d)]
def modD (p : Pt) (r : List UInt8) : Nat → Nat → Pt × Int × List UInt8
  | 0, _ => (zP, 4, r)
  | k + 1, d => if Lib.hasPrefix r (pskT d) then (pskP p d, pskE p d, Lib.trimPrefix r (pskT d)) else modD p r k (d + 1)
def modY (p : Pt) (r : List UInt8) : Pt × Int × List UInt8 :=
  if Lib.hasPrefix r fbT then (fbP p, fbE p, Lib.trimPrefix r fbT) else modD p r 10 0
def plusL (i : Nat) (r : List UInt8) : List UInt8 := if 0 < i then Lib.trimPrefix r [43] else r
def nmLoop : Nat → Nat → Pt → List UInt8 → Pt × Int
  | 0, _, _, _ => (zP, 4)
  | f + 1, i, p, r =>
    if r = [] then (p, 0) else
    if 0 < i ∧ Lib.hasPrefix r [43] = false then (zP, 4) else
    if (modY p (plusL i r)).2.1 ≠ 0 then (zP, (modY p (plusL i r)).2.1) else
    nmLoop f (i + 1) (modY p (plusL i r)).1 (modY p (plusL i r)).2.2
def nmR (s : List UInt8) : List UInt8 := Lib.trimLeftS s upperL
def nmH (s : List UInt8) : List UInt8 := Lib.trimSuffix s (nmR s)
def nmX (s : List UInt8) : Pt × Int := nmLoop 40 0 (bsP (nmH s)) (nmR s)
def nmE (s : List UInt8) : Int := if 20 < s.length then 4 else if bsE (nmH s) ≠ 0 then 4 else (nmX s).2
def nmP (s : List UInt8) : Pt := if nmE s = 0 then ⟨s, (nmX s).1.p0, (nmX s).1.p1, (nmX s).1.ms⟩ else zP

theorem pre_split {r t : List UInt8} (h : Lib.hasPrefix r t = true) : r = t ++ Lib.trimPrefix r t := by
  unfold Lib.trimPrefix
  rw [if_pos h]
  unfold Lib.hasPrefix at h
  obtain ⟨q, rfl⟩ := List.isPrefixOf_iff_prefix.1 h
  simp
def okB (l : List UInt8) : Bool := l.all fun c => nmOk c.toNat
theorem okB_pre {r t : List UInt8} (h : Lib.hasPrefix r t = true) (ht : okB t = true) (hq : okB (Lib.trimPrefix r t) = true) : okB r = true := by
  rw [pre_split h]
  unfold okB at *
  rw [List.all_append, ht, hq]; rfl
theorem pskT_ok : ∀ d, d < 10 → okB (pskT d) = true := by decide
theorem modD_zero {p : Pt} {r : List UInt8} : ∀ {k d : Nat}, (modD p r k d).2.1 ≠ 0 → (modD p r k d).1 = zP
  | 0, _, _ => rfl
  | k + 1, d, h => by
    unfold modD at h ⊢
    split at h
    · rename_i e; rw [if_pos e]; exact psk_zero h
    · rename_i e; rw [if_neg e]; exact modD_zero h
theorem modY_zero {p : Pt} {r : List UInt8} (h : (modY p r).2.1 ≠ 0) : (modY p r).1 = zP := by
  unfold modY at h ⊢
  split at h
  · rename_i e; rw [if_pos e]; exact fb_zero h
  · rename_i e; rw [if_neg e]; exact modD_zero h
theorem modD_ok {p : Pt} {r : List UInt8} : ∀ {k d : Nat}, k + d = 10 → (modD p r k d).2.1 = 0 → right (modD p r k d).1 = true ∧ (modD p r k d).2.2.length < r.length ∧ (okB (modD p r k d).2.2 = true → okB r = true)
  | 0, _, _, h => by cases h
  | k + 1, d, hk, h => by
    unfold modD at h ⊢
    split at h
    · rename_i e
      rw [if_pos e]
      refine ⟨psk_right h, ?_, fun hq => okB_pre e (pskT_ok d (by omega)) hq⟩
      have := congrArg List.length (pre_split e)
      simp only [List.length_append, pskT, List.length_cons, List.length_nil] at this
      simp only [pskT]; omega
    · rename_i e
      rw [if_neg e]
      exact modD_ok (by omega) h
theorem modY_ok {p : Pt} {r : List UInt8} (h : (modY p r).2.1 = 0) : right (modY p r).1 = true ∧ (modY p r).2.2.length < r.length ∧ (okB (modY p r).2.2 = true → okB r = true) := by
  unfold modY at h ⊢
  split at h
  · rename_i e
    rw [if_pos e]
    refine ⟨fb_right h, ?_, fun hq => okB_pre e (by decide) hq⟩
    have := congrArg List.length (pre_split e)
    simp only [List.length_append, fbT, List.length_cons, List.length_nil] at this
    simp only [fbT]; omega
  · rename_i e
    rw [if_neg e]
    exact modD_ok rfl h
theorem nmLoop_ok : ∀ {f i : Nat} {p : Pt} {r : List UInt8}, right p = true → (nmLoop f i p r).2 = 0 → right (nmLoop f i p r).1 = true ∧ okB r = true
  | 0, _, _, _, _, h => by cases h
  | f + 1, i, p, r, hp, h => by
    unfold nmLoop at h ⊢
    split at h
    · rename_i e; rw [if_pos e, e]; exact ⟨hp, rfl⟩
    · rename_i e0
      rw [if_neg e0]
      split at h
      · cases h
      · rename_i e1
        rw [if_neg e1]
        split at h
        · rename_i e2; exact absurd h e2
        · rename_i e2
          rw [if_neg e2]
          have e2' := Decidable.not_not.1 e2
          obtain ⟨q1, q2, q3⟩ := modY_ok e2'
          obtain ⟨a, b⟩ := nmLoop_ok q1 h
          refine ⟨a, ?_⟩
          by_cases hi : 0 < i
          · have hx : Lib.hasPrefix r [43] = true := by
              cases hh : Lib.hasPrefix r [43] with
              | true => rfl
              | false => exact absurd ⟨hi, hh⟩ e1
            have := q3 b
            unfold plusL at this
            rw [if_pos hi] at this
            exact okB_pre hx (by decide) this
          · have := q3 b
            unfold plusL at this
            rwa [if_neg hi] at this
theorem nm_split (s : List UInt8) : s = nmH s ++ nmR s ∧ okB (nmH s) = true := by
  have h : s = s.takeWhile (upperL.contains ·) ++ nmR s := by
    unfold nmR Lib.trimLeftS; rw [List.takeWhile_append_dropWhile]
  have hH : nmH s = s.takeWhile (upperL.contains ·) := by
    unfold nmH Lib.trimSuffix
    have hs : Lib.hasSuffix s (nmR s) = true := by
      unfold Lib.hasSuffix
      rw [List.isSuffixOf_iff_suffix]
      exact ⟨_, h.symm⟩
    rw [if_pos hs]
    conv => lhs; arg 2; rw [h]
    have : s.length - (nmR s).length = (s.takeWhile (upperL.contains ·)).length := by
      have := congrArg List.length h
      rw [List.length_append] at this; omega
    rw [this, List.take_left]
  refine ⟨by rw [hH]; exact h, ?_⟩
  rw [hH]
  unfold okB
  rw [List.all_eq_true]
  intro c hc
  have h1 : upperL.contains c = true := by
    have := List.all_takeWhile (p := (upperL.contains ·)) (l := s)
    exact List.all_eq_true.1 this c hc
  have h2 : upperL.all (fun c => nmOk c.toNat) = true := by decide
  exact List.all_eq_true.1 h2 c (by simpa using h1)
theorem nm_good {s : List UInt8} (h : nmE s = 0) : (nmP s).nm = s ∧ s.length ≤ 20 ∧ right (nmP s) = true ∧ bsE (nmH s) = 0 ∧ Lib.hasPrefix s (nmH s) = true := by
  have hE := h
  unfold nmE at h
  split at h
  · cases h
  · rename_i h20
    split at h
    · cases h
    · rename_i hb
      have hb' := Decidable.not_not.1 hb
      obtain ⟨hr, hn⟩ := bs_right hb'
      obtain ⟨a, b⟩ := nmLoop_ok hr h
      obtain ⟨s1, s2⟩ := nm_split s
      have hok : okB s = true := by
        rw [s1]; unfold okB at *; rw [List.all_append, s2, b]; rfl
      unfold nmP
      rw [if_pos hE]
      refine ⟨rfl, by omega, ?_, hb', ?_⟩
      · simp only [right, Bool.and_eq_true] at a ⊢
        refine ⟨⟨⟨⟨⟨?_, a.1.1.1.1.2⟩, a.1.1.1.2⟩, a.1.1.2⟩, a.1.2⟩, a.2⟩
        have hl : 1 ≤ (nmH s).length := by
          rw [← hn]
          simp only [right, nameOk, Bool.and_eq_true, decide_eq_true_eq] at hr
          exact hr.1.1.1.1.1.1.1
        have := congrArg List.length s1
        rw [List.length_append] at this
        simp only [nameOk, Bool.and_eq_true, decide_eq_true_eq]
        exact ⟨⟨by omega, by omega⟩, hok⟩
      · unfold Lib.hasPrefix
        rw [List.isPrefixOf_iff_prefix]
        exact ⟨_, s1.symm⟩
theorem nm_zero {s : List UInt8} (h : nmE s ≠ 0) : nmP s = zP := by unfold nmP; rw [if_neg h]

/-! XXfallback. -/
def xfN : List UInt8 := [88, 88, 102, 97, 108, 108, 98, 97, 99, 107]
def xfT : List UInt8 := [88, 88, 102, 97, 108, 108, 98, 97, 99, 107, 58, 10, 45, 62, 32, 101, 10, 46, 46, 46, 10, 60, 45, 32, 101, 44, 32, 101, 101, 44, 32, 115, 44, 32, 101, 115, 10, 45, 62, 32, 115, 44, 32, 115, 101, 10]
def xfP : Pt := ⟨xfN, [1], [], [⟨1, [1, 3, 2, 4]⟩, ⟨0, [2, 5]⟩]⟩
theorem xf_nm : nmE xfN = 0 ∧ nmP xfN = xfP := by decide
theorem xf_right : right xfP = true := by decide
theorem xf_prn : prn xfP = xfT := by decide
end Go.Proofs.YtahbbojhdkillaaDoor
