/- Layer 5: patterns and their texts. Plain mathematics: no program is named here. -/
import Derived.Lib.Split
import Derived.Lib.SplitLaws
import Derived.Lib.CountLaws
import Derived.Lib.Join
import Derived.Lib.IndexMore
import Derived.Lib.IndexLaws
import Derived.Lib.Strings
namespace Go.Proofs.YtahbbojhdkillaaDoor

/-- A message: from whom, and its tokens. -/
structure Ms where
  fr : Int
  t : List Int
/-- A pattern. -/
structure Pt where
  nm : List UInt8
  p0 : List Int
  p1 : List Int
  ms : List Ms
instance : DecidableEq Ms := fun x y =>
  if h : x.fr = y.fr ∧ x.t = y.t then isTrue (by cases x; cases y; simp_all) else isFalse (fun e => h (by subst e; simp))
instance : DecidableEq Pt := fun x y =>
  if h : x.nm = y.nm ∧ x.p0 = y.p0 ∧ x.p1 = y.p1 ∧ x.ms = y.ms then isTrue (by cases x; cases y; simp_all) else isFalse (fun e => h (by subst e; simp))
instance : Inhabited Ms := ⟨⟨0, []⟩⟩
def zP : Pt := ⟨[], [], [], []⟩

def namesL : List (List UInt8) := [[63], [101], [115], [101, 101], [101, 115], [115, 101], [115, 115], [112, 115, 107]]
def isTok (t : Int) : Bool := decide (1 ≤ t) && decide (t ≤ 7)
def nmT (t : Int) : List UInt8 := if isTok t then namesL.getD t.toNat [] else [63]
/-- The first place of a name, from place k on; 0 if there is none. -/
def tokAt (x : List UInt8) : Nat → List (List UInt8) → Int
  | _, [] => 0
  | k, y :: r => if y = x then (k : Int) else tokAt x (k + 1) r
def tokOf (x : List UInt8) : Int := tokAt x 0 namesL

def nmOk (c : Nat) : Bool := (decide (97 ≤ c) && decide (c ≤ 122)) || (decide (65 ≤ c) && decide (c ≤ 90)) || (decide (48 ≤ c) && decide (c ≤ 57)) || decide (c = 43)
def nameOk (l : List UInt8) : Bool := decide (1 ≤ l.length) && decide (l.length ≤ 20) && l.all fun c => nmOk c.toNat
def preOk (l : List Int) : Bool := decide (l = []) || decide (l = [1]) || decide (l = [2]) || decide (l = [1, 2])
def msOk (m : Ms) : Bool := (decide (m.fr = 0) || decide (m.fr = 1)) && decide (1 ≤ m.t.length) && decide (m.t.length ≤ 12) && m.t.all isTok
def right (p : Pt) : Bool := nameOk p.nm && decide (1 ≤ p.ms.length) && decide (p.ms.length ≤ 6) && preOk p.p0 && preOk p.p1 && p.ms.all msOk

def arrow (f : Int) : List UInt8 := if f = 0 then [45, 62, 32] else [60, 45, 32]
def lineB (f : Int) (ts : List Int) : List UInt8 := arrow f ++ Lib.join (ts.map nmT) [44, 32]
def lineT (f : Int) (ts : List Int) : List UInt8 := lineB f ts ++ [10]
def preL (f : Int) (ts : List Int) : List UInt8 := if ts = [] then [] else lineT f ts
def preT (p : Pt) : List UInt8 := preL 0 p.p0 ++ preL 1 p.p1
def preE (l : List UInt8) : List UInt8 := if l = [] then [] else l ++ [46, 46, 46, 10]
def msT (ms : List Ms) : List UInt8 := (ms.map fun m => lineT m.fr m.t).flatten
def prn (p : Pt) : List UInt8 := p.nm ++ [58, 10] ++ preE (preT p) ++ msT p.ms

/-- What a line is taken for. -/
def gLine (l : List UInt8) : Ms :=
  if Lib.hasPrefix l [45, 62, 32] then ⟨0, (Lib.split (Lib.trimPrefix l [45, 62, 32]) [44, 32]).map tokOf⟩
  else ⟨1, (Lib.split (Lib.trimPrefix l [60, 45, 32]) [44, 32]).map tokOf⟩
theorem cut_le (s : List UInt8) (h : s ≠ []) : (Lib.cut s [10]).2.1.length < s.length := by
  have hl : 0 < s.length := List.length_pos_iff.2 h
  unfold Lib.cut
  split
  · simp only [List.length_drop, List.length_cons, List.length_nil]; omega
  · simpa using hl
def gLines (s : List UInt8) : List Ms := if _h : s = [] then [] else gLine (Lib.cut s [10]).1 :: gLines (Lib.cut s [10]).2.1
termination_by s.length
decreasing_by exact cut_le s _h
/-- The announced tokens: later lines stand for earlier ones. -/
def gPre : List Ms → List Int × List Int → List Int × List Int
  | [], x => x
  | m :: r, x => gPre r (if m.fr = 0 then (m.t, x.2) else (x.1, m.t))
def gPreS (s : List UInt8) : List UInt8 := if (Lib.cut (Lib.cut s [58, 10]).2.1 [46, 46, 46, 10]).2.2 then (Lib.cut (Lib.cut s [58, 10]).2.1 [46, 46, 46, 10]).1 else []
def gMsS (s : List UInt8) : List UInt8 := if (Lib.cut (Lib.cut s [58, 10]).2.1 [46, 46, 46, 10]).2.2 then (Lib.cut (Lib.cut s [58, 10]).2.1 [46, 46, 46, 10]).2.1 else (Lib.cut s [58, 10]).2.1
def guess (s : List UInt8) : Pt := ⟨(Lib.cut s [58, 10]).1, (gPre (gLines (gPreS s)) ([], [])).1, (gPre (gLines (gPreS s)) ([], [])).2, gLines (gMsS s)⟩
/-- Does a text have a pattern? -/
def isTxt (s : List UInt8) : Bool := decide (s.length ≤ 16384) && right (guess s) && decide (prn (guess s) = s)

theorem occ_not {c : UInt8} {tl s : List UInt8} {j : Nat} (h : s[j]? ≠ some c) : Lib.occAt s (c :: tl) j = false := by
  unfold Lib.occAt
  cases hd : s.drop j with
  | nil => rfl
  | cons b r =>
    have hb : s[j]? = some b := by rw [← List.head?_drop, hd]; rfl
    rw [List.isPrefixOf]
    have : c ≠ b := fun e => h (by rw [hb, e])
    simp [this]
theorem index_no {c : UInt8} {tl s : List UInt8} (h : c ∉ s) : Lib.index s (c :: tl) = -1 :=
  Lib.index_none fun _ _ => occ_not fun e => h (List.mem_of_getElem? e)
theorem index_at {c : UInt8} {tl a r : List UInt8} (h : c ∉ a) : Lib.index (a ++ (c :: tl) ++ r) (c :: tl) = a.length := by
  refine Lib.index_first (by simp) ?_ fun j hj => occ_not ?_
  · unfold Lib.occAt
    rw [List.append_assoc, List.drop_left]
    simp [List.isPrefixOf_iff_prefix]
  · rw [List.append_assoc, List.getElem?_append_left hj]
    exact fun e => h (List.mem_of_getElem? e)
theorem cut_at {c : UInt8} {tl a r : List UInt8} (h : c ∉ a) : Lib.cut (a ++ (c :: tl) ++ r) (c :: tl) = (a, r, true) := by
  unfold Lib.cut
  rw [index_at h, if_pos (by omega)]
  simp only [Int.toNat_natCast]
  rw [List.append_assoc, List.take_left, ← List.append_assoc]
  have : a.length + (c :: tl).length = (a ++ c :: tl).length := by simp
  rw [this, List.drop_left]
theorem cut_no {c : UInt8} {tl s : List UInt8} (h : c ∉ s) : Lib.cut s (c :: tl) = (s, [], false) := by
  unfold Lib.cut
  rw [index_no h, if_neg (by decide)]

/-! Splitting what was joined. -/
theorem join_two (x y : List UInt8) (r : List (List UInt8)) (sep : List UInt8) : Lib.join (x :: y :: r) sep = x ++ sep ++ Lib.join (y :: r) sep := by
  simp [Lib.join, List.intercalate, List.intersperse]
theorem count_join {c : UInt8} {tl : List UInt8} : ∀ (xs : List (List UInt8)), (∀ x ∈ xs, c ∉ x) → Lib.count (Lib.join xs (c :: tl)) (c :: tl) = xs.length - 1
  | [], _ => by rw [Lib.join_nil]; exact Lib.count_miss (index_no (by simp))
  | [x], h => by rw [Lib.join_one]; exact Lib.count_miss (index_no (h x (by simp)))
  | x :: y :: r, h => by
    rw [join_two, Lib.count_hit (i := x.length) (by simp) (index_at (h x (by simp)))]
    have : x.length + (c :: tl).length = (x ++ c :: tl).length := by simp
    rw [this, List.drop_left, count_join (y :: r) fun z hz => h z (by simp [hz])]
    simp; omega
theorem splitK_join {c : UInt8} {tl : List UInt8} : ∀ (xs : List (List UInt8)), xs ≠ [] → (∀ x ∈ xs, c ∉ x) → Lib.splitK (c :: tl) 0 (xs.length - 1) (Lib.join xs (c :: tl)) = xs
  | [], h, _ => absurd rfl h
  | [x], _, h => by rw [Lib.join_one]; rfl
  | x :: y :: r, _, h => by
    rw [join_two]
    show Lib.splitK (c :: tl) 0 (r.length + 1) _ = _
    unfold Lib.splitK
    rw [index_at (h x (by simp)), if_neg (by simp)]
    simp only [Int.toNat_natCast, Nat.add_zero]
    have : x.length + (c :: tl).length = (x ++ c :: tl).length := by simp
    rw [this, List.drop_left, List.append_assoc, List.take_left]
    have := splitK_join (tl := tl) (y :: r) (by simp) fun z hz => h z (by simp [hz])
    simp only [List.length_cons, Nat.add_sub_cancel] at this
    exact congrArg (x :: ·) this
theorem split_join {c : UInt8} {tl : List UInt8} {xs : List (List UInt8)} (h0 : xs ≠ []) (h : ∀ x ∈ xs, c ∉ x) : Lib.split (Lib.join xs (c :: tl)) (c :: tl) = xs := by
  unfold Lib.split
  rw [count_join xs h]
  exact splitK_join xs h0 h

/-! Tokens. -/
theorem tok_cases {t : Int} (h : isTok t = true) : t = 1 ∨ t = 2 ∨ t = 3 ∨ t = 4 ∨ t = 5 ∨ t = 6 ∨ t = 7 := by
  simp [isTok] at h; omega
theorem tokOf_nmT {t : Int} (h : isTok t = true) : tokOf (nmT t) = t := by
  rcases tok_cases h with rfl | rfl | rfl | rfl | rfl | rfl | rfl <;> decide
theorem nmT_bytes {t : Int} (c : UInt8) (hc : c ∈ nmT t) : c = 63 ∨ c = 101 ∨ c = 115 ∨ c = 112 ∨ c = 107 := by
  by_cases h : isTok t = true
  · rcases tok_cases h with rfl | rfl | rfl | rfl | rfl | rfl | rfl <;> simp [nmT, isTok, namesL] at hc <;> first | (subst hc; simp) | (rcases hc with rfl | rfl <;> simp) | (rcases hc with rfl | rfl | rfl <;> simp)
  · simp [nmT, h] at hc; simp [hc]
theorem nmT_len (t : Int) : 1 ≤ (nmT t).length ∧ (nmT t).length ≤ 3 := by
  by_cases h : isTok t = true
  · rcases tok_cases h with rfl | rfl | rfl | rfl | rfl | rfl | rfl <;> decide
  · simp [nmT, h]
theorem join_bytes {ts : List Int} {c : UInt8} (hc : c ∈ Lib.join (ts.map nmT) [44, 32]) : c = 44 ∨ c = 32 ∨ c = 63 ∨ c = 101 ∨ c = 115 ∨ c = 112 ∨ c = 107 := by
  induction ts with
  | nil => simp [Lib.join_nil] at hc
  | cons t r ih =>
    cases r with
    | nil => rw [List.map_cons, List.map_nil, Lib.join_one] at hc; rcases nmT_bytes c hc with e | e | e | e | e <;> simp [e]
    | cons u r =>
      rw [List.map_cons, List.map_cons, join_two, List.mem_append, List.mem_append] at hc
      rcases hc with (hc | hc) | hc
      · rcases nmT_bytes c hc with e | e | e | e | e <;> simp [e]
      · simp at hc; rcases hc with e | e <;> simp [e]
      · exact ih (by rw [List.map_cons]; exact hc)
theorem lineB_bytes {f : Int} {ts : List Int} {c : UInt8} (hc : c ∈ lineB f ts) : c ≠ 10 ∧ c ≠ 46 := by
  unfold lineB at hc
  rw [List.mem_append] at hc
  rcases hc with hc | hc
  · unfold arrow at hc
    split at hc <;> simp at hc <;> rcases hc with rfl | rfl | rfl <;> decide
  · rcases join_bytes hc with rfl | rfl | rfl | rfl | rfl | rfl | rfl <;> decide
theorem gLine_line {m : Ms} (h : msOk m = true) : gLine (lineB m.fr m.t) = m := by
  simp only [msOk, Bool.and_eq_true, Bool.or_eq_true, decide_eq_true_eq] at h
  obtain ⟨⟨⟨hf, h1⟩, _⟩, ht⟩ := h
  have hs : (Lib.split (Lib.join (m.t.map nmT) [44, 32]) [44, 32]).map tokOf = m.t := by
    rw [split_join]
    · rw [List.map_map]
      conv => rhs; rw [← List.map_id m.t]
      refine List.map_congr_left fun t ht' => tokOf_nmT (List.all_eq_true.1 ht t ht')
    · intro e; simp at e; rw [e] at h1; simp at h1
    · intro x hx
      obtain ⟨t, _, rfl⟩ := List.mem_map.1 hx
      intro hc
      rcases nmT_bytes _ hc with e | e | e | e | e <;> exact absurd e (by decide)
  obtain ⟨f, t⟩ := m
  simp only at hf hs ⊢
  rcases hf with rfl | rfl
  · unfold gLine lineB arrow Lib.trimPrefix Lib.hasPrefix
    simp [List.isPrefixOf] 
    exact hs
  · unfold gLine lineB arrow Lib.trimPrefix Lib.hasPrefix
    simp [List.isPrefixOf]
    exact hs
theorem gLines_ms : ∀ (ms : List Ms), (∀ m ∈ ms, msOk m = true) → gLines (msT ms) = ms
  | [], _ => by unfold gLines msT; simp
  | m :: r, h => by
    have e : msT (m :: r) = lineB m.fr m.t ++ [10] ++ msT r := by simp [msT, lineT]
    have hc : Lib.cut (msT (m :: r)) [10] = (lineB m.fr m.t, msT r, true) := by
      rw [e]; exact cut_at fun hm => (lineB_bytes hm).1 rfl
    unfold gLines
    rw [dif_neg (by rw [e]; simp), hc]
    simp only
    rw [gLine_line (h m (by simp)), gLines_ms r fun x hx => h x (by simp [hx])]
theorem msT_no46 : ∀ (ms : List Ms), (46 : UInt8) ∉ msT ms
  | [] => by simp [msT]
  | m :: r => by
    have e : msT (m :: r) = lineB m.fr m.t ++ [10] ++ msT r := by simp [msT, lineT]
    rw [e]
    intro h
    rw [List.mem_append, List.mem_append] at h
    rcases h with (h | h) | h
    · exact (lineB_bytes h).2 rfl
    · simp at h
    · exact msT_no46 r h
/-- What is announced, as messages. -/
def preM (p : Pt) : List Ms := (if p.p0 = [] then [] else [⟨0, p.p0⟩]) ++ (if p.p1 = [] then [] else [⟨1, p.p1⟩])
theorem preT_ms (p : Pt) : preT p = msT (preM p) := by
  unfold preT preL preM msT
  by_cases h0 : p.p0 = [] <;> by_cases h1 : p.p1 = [] <;> simp [h0, h1]
theorem preM_ok {p : Pt} (h0 : preOk p.p0 = true) (h1 : preOk p.p1 = true) : ∀ m ∈ preM p, msOk m = true := by
  intro m hm
  unfold preM at hm
  rw [List.mem_append] at hm
  simp [preOk] at h0 h1
  rcases hm with hm | hm
  · by_cases e : p.p0 = []
    · simp [e] at hm
    · simp [e] at hm
      subst hm
      rcases h0 with (((h | h) | h) | h)
      · exact absurd h e
      all_goals simp [h, msOk, isTok]
  · by_cases e : p.p1 = []
    · simp [e] at hm
    · simp [e] at hm
      subst hm
      rcases h1 with (((h | h) | h) | h)
      · exact absurd h e
      all_goals simp [h, msOk, isTok]
theorem gPre_pre (p : Pt) : gPre (preM p) ([], []) = (p.p0, p.p1) := by
  unfold preM
  by_cases h0 : p.p0 = [] <;> by_cases h1 : p.p1 = [] <;> simp [h0, h1, gPre]
theorem nmOk_no {c : UInt8} {l : List UInt8} (h : nameOk l = true) (hc : nmOk c.toNat = false) : c ∉ l := by
  simp only [nameOk, Bool.and_eq_true] at h
  intro hm
  have := List.all_eq_true.1 h.2 c hm
  rw [hc] at this; cases this

/-- What is printed is taken for what it was. -/
theorem guess_prn {p : Pt} (h : right p = true) : guess (prn p) = p := by
  simp only [right, Bool.and_eq_true] at h
  obtain ⟨⟨⟨⟨⟨hn, _⟩, _⟩, h0⟩, h1⟩, hm⟩ := h
  have c1 : Lib.cut (prn p) [58, 10] = (p.nm, preE (preT p) ++ msT p.ms, true) := by
    unfold prn
    rw [List.append_assoc (p.nm ++ [58, 10])]
    exact cut_at (nmOk_no hn (by decide))
  have hms := gLines_ms p.ms (fun m hm' => List.all_eq_true.1 hm m hm')
  by_cases he : preT p = []
  · have c2 : Lib.cut (preE (preT p) ++ msT p.ms) [46, 46, 46, 10] = (msT p.ms, [], false) := by
      rw [he]; exact cut_no (msT_no46 p.ms)
    have e2 : preE (preT p) ++ msT p.ms = msT p.ms := by rw [he]; rfl
    have hp : p.p0 = [] ∧ p.p1 = [] := by
      unfold preT preL lineT at he
      by_cases a0 : p.p0 = [] <;> by_cases a1 : p.p1 = [] <;> simp [a0, a1] at he ⊢
    have q1 : gPreS (prn p) = [] := by unfold gPreS; rw [c1]; simp only; rw [c2]; rfl
    have q2 : gMsS (prn p) = msT p.ms := by unfold gMsS; rw [c1]; simp only; rw [c2]; simp only [e2]; rfl
    unfold guess
    rw [q1, q2, c1, hms]
    have : gLines [] = [] := by unfold gLines; simp
    rw [this]
    obtain ⟨n, a, b, m⟩ := p
    simp only at hp
    simp [gPre, hp.1, hp.2]
  · have c2 : Lib.cut (preE (preT p) ++ msT p.ms) [46, 46, 46, 10] = (preT p, msT p.ms, true) := by
      have : preE (preT p) = preT p ++ [46, 46, 46, 10] := by unfold preE; rw [if_neg he]
      rw [this]
      exact cut_at (by rw [preT_ms]; exact msT_no46 _)
    have q1 : gPreS (prn p) = preT p := by unfold gPreS; rw [c1]; simp only; rw [c2]; rfl
    have q2 : gMsS (prn p) = msT p.ms := by unfold gMsS; rw [c1]; simp only; rw [c2]; rfl
    unfold guess
    rw [q1, q2, c1, hms, preT_ms, gLines_ms _ (preM_ok h0 h1), gPre_pre]
theorem prn_inj {p q : Pt} (hp : right p = true) (hq : right q = true) (h : prn p = prn q) : p = q := by
  rw [← guess_prn hp, ← guess_prn hq, h]
theorem join_len (ts : List Int) : (Lib.join (ts.map nmT) [44, 32]).length ≤ 5 * ts.length := by
  induction ts with
  | nil => simp [Lib.join_nil]
  | cons t r ih =>
    cases r with
    | nil => rw [List.map_cons, List.map_nil, Lib.join_one]; have := nmT_len t; simp; omega
    | cons u r =>
      rw [List.map_cons, List.map_cons, join_two]
      rw [List.map_cons] at ih
      have := nmT_len t
      simp only [List.length_append, List.length_cons, List.length_nil] at ih ⊢
      omega
theorem lineT_len (f : Int) (ts : List Int) : 4 ≤ (lineT f ts).length ∧ (lineT f ts).length ≤ 4 + 5 * ts.length := by
  have := join_len ts
  have ha : (arrow f).length = 3 := by unfold arrow; split <;> rfl
  unfold lineT lineB
  simp only [List.length_append, ha, List.length_cons, List.length_nil]
  omega
theorem preL_len (f : Int) (ts : List Int) : (preL f ts).length ≤ 4 + 5 * ts.length := by
  unfold preL
  split
  · simp
  · exact (lineT_len f ts).2
theorem preOk_len {l : List Int} (h : preOk l = true) : l.length ≤ 2 := by
  simp [preOk] at h
  rcases h with ((h | h) | h) | h <;> simp [h]
theorem msT_len : ∀ (ms : List Ms), (∀ m ∈ ms, msOk m = true) → (msT ms).length ≤ 64 * ms.length
  | [], _ => by simp [msT]
  | m :: r, h => by
    have e : msT (m :: r) = lineT m.fr m.t ++ msT r := by simp [msT]
    have h1 := lineT_len m.fr m.t
    have h2 := msT_len r fun x hx => h x (by simp [hx])
    have h3 := h m (by simp)
    simp only [msOk, Bool.and_eq_true, decide_eq_true_eq] at h3
    rw [e, List.length_append, List.length_cons]
    omega
theorem prn_len {p : Pt} (h : right p = true) : (prn p).length ≤ 500 := by
  simp only [right, Bool.and_eq_true, decide_eq_true_eq] at h
  obtain ⟨⟨⟨⟨⟨hn, _⟩, h6⟩, h0⟩, h1⟩, hm⟩ := h
  have a := msT_len p.ms (fun m hm' => List.all_eq_true.1 hm m hm')
  have b := preL_len 0 p.p0
  have c := preL_len 1 p.p1
  have d := preOk_len h0
  have e := preOk_len h1
  simp only [nameOk, Bool.and_eq_true, decide_eq_true_eq] at hn
  have f : (preE (preT p)).length ≤ (preT p).length + 4 := by unfold preE; split <;> simp
  have g : (preT p).length = (preL 0 p.p0).length + (preL 1 p.p1).length := by unfold preT; simp
  unfold prn
  simp only [List.length_append, List.length_cons, List.length_nil]
  omega
theorem isTxt_prn {p : Pt} (h : right p = true) : isTxt (prn p) = true := by
  have := prn_len h
  unfold isTxt
  rw [guess_prn h, h]
  simp; omega

/-! How a text begins and ends. -/
theorem nmT_last (t : Int) : ∃ l c, nmT t = l ++ [c] ∧ c ≠ 10 := by
  by_cases h : isTok t = true
  · rcases tok_cases h with rfl | rfl | rfl | rfl | rfl | rfl | rfl
    · exact ⟨[], 101, rfl, by decide⟩
    · exact ⟨[], 115, rfl, by decide⟩
    · exact ⟨[101], 101, rfl, by decide⟩
    · exact ⟨[101], 115, rfl, by decide⟩
    · exact ⟨[115], 101, rfl, by decide⟩
    · exact ⟨[115], 115, rfl, by decide⟩
    · exact ⟨[112, 115], 107, rfl, by decide⟩
  · exact ⟨[], 63, by simp [nmT, h], by decide⟩
theorem join_last : ∀ (ts : List Int), ts ≠ [] → ∃ l c, Lib.join (ts.map nmT) [44, 32] = l ++ [c] ∧ c ≠ 10
  | [], h => absurd rfl h
  | [t], _ => by rw [List.map_cons, List.map_nil, Lib.join_one]; exact nmT_last t
  | t :: u :: r, _ => by
    obtain ⟨l, c, h, hc⟩ := join_last (u :: r) (by simp)
    rw [List.map_cons, List.map_cons, join_two]
    rw [List.map_cons] at h
    exact ⟨nmT t ++ [44, 32] ++ l, c, by rw [h]; simp, hc⟩
theorem lineT_last (f : Int) {ts : List Int} (h : ts ≠ []) : ∃ l c, lineT f ts = l ++ [c, 10] ∧ c ≠ 10 := by
  obtain ⟨l, c, e, hc⟩ := join_last ts h
  exact ⟨arrow f ++ l, c, by unfold lineT lineB; rw [e]; simp, hc⟩
theorem msT_last : ∀ (ms : List Ms), ms ≠ [] → (∀ m ∈ ms, msOk m = true) → ∃ l c, msT ms = l ++ [c, 10] ∧ c ≠ 10
  | [], h, _ => absurd rfl h
  | [m], _, h => by
    have h3 := h m (by simp)
    simp only [msOk, Bool.and_eq_true, decide_eq_true_eq] at h3
    have e : msT [m] = lineT m.fr m.t := by simp [msT]
    rw [e]
    exact lineT_last _ fun e => by rw [e] at h3; simp at h3
  | m :: n :: r, _, h => by
    have e : msT (m :: n :: r) = lineT m.fr m.t ++ msT (n :: r) := by simp [msT]
    obtain ⟨l, c, h1, hc⟩ := msT_last (n :: r) (by simp) fun x hx => h x (by simp [hx])
    exact ⟨lineT m.fr m.t ++ l, c, by rw [e, h1]; simp, hc⟩
theorem prn_last {p : Pt} (h : right p = true) : ∃ l c, prn p = l ++ [c, 10] ∧ c ≠ 10 := by
  simp only [right, Bool.and_eq_true, decide_eq_true_eq] at h
  obtain ⟨⟨⟨⟨⟨_, h1⟩, _⟩, _⟩, _⟩, hm⟩ := h
  obtain ⟨l, c, e, hc⟩ := msT_last p.ms (fun e => by rw [e] at h1; simp at h1) (fun m hm' => List.all_eq_true.1 hm m hm')
  exact ⟨p.nm ++ [58, 10] ++ preE (preT p) ++ l, c, by unfold prn; rw [e]; simp, hc⟩
theorem prn_first {p : Pt} (h : right p = true) : ∃ c r, prn p = c :: r ∧ c ≠ 32 := by
  simp only [right, Bool.and_eq_true, decide_eq_true_eq] at h
  obtain ⟨⟨⟨⟨⟨hn, _⟩, _⟩, _⟩, _⟩, _⟩ := h
  have h32 := nmOk_no (c := 32) hn (by decide)
  simp only [nameOk, Bool.and_eq_true, decide_eq_true_eq] at hn
  unfold prn
  cases hx : p.nm with
  | nil => rw [hx] at hn; simp at hn
  | cons c r => exact ⟨c, _, by simp; rfl, fun e => h32 (by rw [hx, e]; simp)⟩
theorem isTxt_right {s : List UInt8} (h : isTxt s = true) : right (guess s) = true ∧ prn (guess s) = s := by
  simp only [isTxt, Bool.and_eq_true, decide_eq_true_eq] at h
  exact ⟨h.1.2, h.2⟩
theorem ends_a {p : Pt} (h : right p = true) : isTxt (prn p ++ [10]) = false := by
  cases hx : isTxt (prn p ++ [10]) with
  | false => rfl
  | true =>
    obtain ⟨hr, he⟩ := isTxt_right hx
    obtain ⟨l, c, e, hc⟩ := prn_last hr
    obtain ⟨l', c', e', hc'⟩ := prn_last h
    rw [he, e'] at e
    have e2 : l' ++ [c', 10, 10] = l ++ [c, 10] := by simpa using e
    have e3 := congrArg (fun x => x.reverse[1]?) e2
    simp at e3
    exact absurd e3.symm hc
theorem ends_b {p : Pt} (h : right p = true) : isTxt ((prn p).take ((prn p).length - 1)) = false := by
  cases hx : isTxt ((prn p).take ((prn p).length - 1)) with
  | false => rfl
  | true =>
    obtain ⟨hr, he⟩ := isTxt_right hx
    obtain ⟨l, c, e, hc⟩ := prn_last hr
    obtain ⟨l', c', e', hc'⟩ := prn_last h
    rw [he, e'] at e
    have e2 : l' ++ [c'] = l ++ [c, 10] := by
      rw [← e, show l' ++ [c', 10] = (l' ++ [c']) ++ [10] by simp]
      rw [List.length_append, List.length_singleton, Nat.add_sub_cancel, List.take_left]
    have e3 := congrArg (fun x => x.reverse[0]?) e2
    simp at e3
    exact absurd e3 hc'
theorem ends_c {p : Pt} : isTxt (prn p ++ [32]) = false := by
  cases hx : isTxt (prn p ++ [32]) with
  | false => rfl
  | true =>
    obtain ⟨hr, he⟩ := isTxt_right hx
    obtain ⟨l, c, e, hc⟩ := prn_last hr
    rw [he] at e
    have e3 := congrArg (fun x => x.reverse[0]?) e
    simp at e3
theorem ends_d {p : Pt} : isTxt ([32] ++ prn p) = false := by
  cases hx : isTxt ([32] ++ prn p) with
  | false => rfl
  | true =>
    obtain ⟨hr, he⟩ := isTxt_right hx
    obtain ⟨c, r, e, hc⟩ := prn_first hr
    rw [he] at e
    simp at e
    exact absurd e.1.symm hc
end Go.Proofs.YtahbbojhdkillaaDoor
