/- The plain mathematics of ciphers: why one can't seal or open, what it seals, opens, and becomes. No program is named here. -/
import Derived.Test.YtgjhhipkfglpgaaDoorPa
namespace Go.Proofs.YtgjhhipkfglpgaaDoor

structure Cf where
  k : Int
  h : Bool
  n : Int
theorem Cf.ext3 {x y : Cf} (h1 : x.k = y.k) (h2 : x.h = y.h) (h3 : x.n = y.n) : x = y := by
  cases x; cases y; simp_all
instance : DecidableEq Cf := fun x y =>
  if h : x.k = y.k ∧ x.h = y.h ∧ x.n = y.n then isTrue (Cf.ext3 h.1 h.2.1 h.2.2) else isFalse (fun e => h (by subst e; simp))
def cZ : Cf := ⟨0, false, 0⟩
def lastU : Int := 18446744073709551615
def Cf.ok (c : Cf) : Prop := i64ok c.k ∧ u64ok c.n

/-- Why a cipher can neither seal nor open. -/
def chk (n : Nat) (c : Cf) (ad x : Int) : Int :=
  if (hasB n ad && hasB n x) = false then 1 else if (c.h && !(hasB n c.k)) = true then 1 else if (c.h && decide (c.n = lastU)) = true then 8 else 0
def slN (c : Cf) (ad p : Int) : Nd := ⟨7, c.n, c.k, ad, p⟩
def nxt (c : Cf) : Cf := ⟨c.k, true, c.n + 1⟩
def slL (lim : Nat) (L : List Nd) (c : Cf) (ad p : Int) : List Nd := if chk L.length c ad p = 0 then (if c.h = true then mkL lim L (slN c ad p) else L) else L
def slE (lim : Nat) (L : List Nd) (c : Cf) (ad p : Int) : Int := if chk L.length c ad p = 0 then (if c.h = true then mkE lim L (slN c ad p) else 0) else chk L.length c ad p
def slR (lim : Nat) (L : List Nd) (c : Cf) (ad p : Int) : Int := if chk L.length c ad p = 0 then (if c.h = true then mkR lim L (slN c ad p) else p) else 0
def slC (lim : Nat) (L : List Nd) (c : Cf) (ad p : Int) : Cf := if chk L.length c ad p = 0 then (if c.h = true then (if mkE lim L (slN c ad p) = 0 then nxt c else cZ) else c) else cZ
/-- Is this node what the cipher sealed beside this term? -/
def opB (d : Nd) (c : Cf) (ad : Int) : Bool := decide (d.k = 7 ∧ d.n = c.n ∧ d.a = c.k ∧ d.b = ad)
def opE (L : List Nd) (c : Cf) (ad x : Int) : Int := if chk L.length c ad x = 0 then (if c.h = true then (if opB (nd L x) c ad = true then 0 else 7) else 0) else chk L.length c ad x
def opR (L : List Nd) (c : Cf) (ad x : Int) : Int := if chk L.length c ad x = 0 then (if c.h = true then (if opB (nd L x) c ad = true then (nd L x).c else 0) else x) else 0
def opC (L : List Nd) (c : Cf) (ad x : Int) : Cf := if chk L.length c ad x = 0 then (if c.h = true then (if opB (nd L x) c ad = true then nxt c else cZ) else c) else cZ
def rkN (c : Cf) : Nd := ⟨6, 4, c.k, 0, 0⟩
def rkL (lim : Nat) (L : List Nd) (c : Cf) : List Nd := if c.h = true then mkL lim L (rkN c) else L
def rkE (lim : Nat) (L : List Nd) (c : Cf) : Int := if c.h = true then mkE lim L (rkN c) else 10
def rkC (lim : Nat) (L : List Nd) (c : Cf) : Cf := if c.h = true then (if mkE lim L (rkN c) = 0 then ⟨mkR lim L (rkN c), true, c.n⟩ else cZ) else cZ

theorem chk_ref {n : Nat} {c : Cf} {ad x : Int} (h : (hasB n ad && hasB n x) = false) : chk n c ad x = 1 := by unfold chk; rw [if_pos h]
theorem chk_key {n : Nat} {c : Cf} {ad x : Int} (h : (hasB n ad && hasB n x) = true) (hh : c.h = true) (hk : hasB n c.k = false) : chk n c ad x = 1 := by
  unfold chk; rw [if_neg (by rw [h]; simp), if_pos (by rw [hh, hk]; rfl)]
theorem chk_last {n : Nat} {c : Cf} {ad x : Int} (h : (hasB n ad && hasB n x) = true) (hh : c.h = true) (hk : hasB n c.k = true) (hl : c.n = lastU) : chk n c ad x = 8 := by
  unfold chk; rw [if_neg (by rw [h]; simp), if_neg (by rw [hh, hk]; simp), if_pos (by rw [hh, hl]; simp)]
theorem chk_good {n : Nat} {c : Cf} {ad x : Int} (h : (hasB n ad && hasB n x) = true) (hh : c.h = true) (hk : hasB n c.k = true) (hl : c.n ≠ lastU) : chk n c ad x = 0 := by
  unfold chk; rw [if_neg (by rw [h]; simp), if_neg (by rw [hh, hk]; simp), if_neg (by rw [hh]; simpa using hl)]
theorem chk_none {n : Nat} {c : Cf} {ad x : Int} (h : (hasB n ad && hasB n x) = true) (hh : c.h = false) : chk n c ad x = 0 := by
  unfold chk; rw [if_neg (by rw [h]; simp), if_neg (by rw [hh]; simp), if_neg (by rw [hh]; simp)]
/-- All that keeps a cipher from sealing is away. -/
theorem chk_zero {n : Nat} {c : Cf} {ad x : Int} (h : chk n c ad x = 0) : (hasB n ad = true ∧ hasB n x = true) ∧ (c.h = true → hasB n c.k = true ∧ c.n ≠ lastU) := by
  cases e : (hasB n ad && hasB n x)
  · rw [chk_ref e] at h; exact absurd h (by decide)
  · refine ⟨by simpa using e, fun hh => ?_⟩
    cases ek : hasB n c.k
    · rw [chk_key e hh ek] at h; exact absurd h (by decide)
    · refine ⟨rfl, fun hl => ?_⟩
      rw [chk_last e hh ek hl] at h; exact absurd h (by decide)
theorem chk_cases (n : Nat) (c : Cf) (ad x : Int) : (chk n c ad x = 1 ∨ chk n c ad x = 8) ∨ chk n c ad x = 0 := by
  unfold chk; split; · simp
  split; · simp
  split <;> simp
theorem chk_err {lim : Nat} {L : List Nd} {c : Cf} {ad p : Int} (h : chk L.length c ad p ≠ 0) : slL lim L c ad p = L ∧ slE lim L c ad p = chk L.length c ad p ∧ slR lim L c ad p = 0 ∧ slC lim L c ad p = cZ := by
  unfold slL slE slR slC; rw [if_neg h, if_neg h, if_neg h, if_neg h]; exact ⟨rfl, rfl, rfl, rfl⟩
theorem sl_none {lim : Nat} {L : List Nd} {c : Cf} {ad p : Int} (h : chk L.length c ad p = 0) (hh : c.h = false) : slL lim L c ad p = L ∧ slE lim L c ad p = 0 ∧ slR lim L c ad p = p ∧ slC lim L c ad p = c := by
  unfold slL slE slR slC; simp [h, hh]
theorem sl_mk {lim : Nat} {L : List Nd} {c : Cf} {ad p : Int} (h : chk L.length c ad p = 0) (hh : c.h = true) : slL lim L c ad p = mkL lim L (slN c ad p) ∧ slE lim L c ad p = mkE lim L (slN c ad p) ∧ slR lim L c ad p = mkR lim L (slN c ad p) ∧ slC lim L c ad p = if mkE lim L (slN c ad p) = 0 then nxt c else cZ := by
  unfold slL slE slR slC; simp [h, hh]
theorem op_err {L : List Nd} {c : Cf} {ad x : Int} (h : chk L.length c ad x ≠ 0) : opE L c ad x = chk L.length c ad x ∧ opR L c ad x = 0 ∧ opC L c ad x = cZ := by
  unfold opE opR opC; rw [if_neg h, if_neg h, if_neg h]; exact ⟨rfl, rfl, rfl⟩
theorem op_none {L : List Nd} {c : Cf} {ad x : Int} (h : chk L.length c ad x = 0) (hh : c.h = false) : opE L c ad x = 0 ∧ opR L c ad x = x ∧ opC L c ad x = c := by
  unfold opE opR opC; simp [h, hh]
theorem op_no {L : List Nd} {c : Cf} {ad x : Int} (h : chk L.length c ad x = 0) (hh : c.h = true) (hb : opB (nd L x) c ad = false) : opE L c ad x = 7 ∧ opR L c ad x = 0 ∧ opC L c ad x = cZ := by
  unfold opE opR opC; simp [h, hh, hb]
theorem op_yes {L : List Nd} {c : Cf} {ad x : Int} (h : chk L.length c ad x = 0) (hh : c.h = true) (hb : opB (nd L x) c ad = true) : opE L c ad x = 0 ∧ opR L c ad x = (nd L x).c ∧ opC L c ad x = nxt c := by
  unfold opE opR opC; simp [h, hh, hb]
theorem mkR_err {lim : Nat} {L : List Nd} {d : Nd} (h : mkE lim L d ≠ 0) : mkR lim L d = 0 := by
  cases hr : right L d
  · exact (mk_wrong hr).2.1
  · cases hi : ix d L with
    | some i => rw [(mk_old hr hi).2.2] at h; exact absurd rfl h
    | none =>
      by_cases hl : lim ≤ L.length
      · exact (mk_full hr hi hl).2.1
      · rw [(mk_new hr hi (by omega)).2.2] at h; exact absurd rfl h
theorem mkE_cases (lim : Nat) (L : List Nd) (d : Nd) : mkE lim L d = 0 ∨ mkE lim L d = 1 ∨ mkE lim L d = 3 := by
  unfold mkE; split; · (split; · simp); split <;> simp
  · simp
theorem slN_ok {c : Cf} (hc : c.ok) {ad p : Int} (h1 : i64ok ad) (h2 : i64ok p) : (slN c ad p).ok := ⟨by simp [slN, i64ok], hc.2, hc.1, h1, h2⟩
theorem rkN_ok {c : Cf} (hc : c.ok) : (rkN c).ok := ⟨by simp [rkN, i64ok], by simp [rkN, u64ok], hc.1, by simp [rkN, i64ok], by simp [rkN, i64ok]⟩
theorem slN_right {L : List Nd} {c : Cf} {ad p : Int} (h : hasB L.length ad = true ∧ hasB L.length p = true) (hk : hasB L.length c.k = true) : right L (slN c ad p) = true := by
  rw [right_iff]
  exact ⟨by simp [many, slN], by simp [partsOk, partOk, many, slN, h.1, h.2, hk], by simp [numOk, slN], by simp [lastOk, slN]⟩
end Go.Proofs.YtgjhhipkfglpgaaDoor
