/- The plain mathematics of states: keys one behind the other, what each call leaves, whatever comes in. No program is named here. -/
import Derived.Test.YtgjhhipkfglpgaaDoorKa
namespace Go.Proofs.YtgjhhipkfglpgaaDoor

/-- Keys 1, 2, .. of a chaining key and x, up to the first error: the arena, the error, the refs. -/
def yA (lim : Nat) (L : List Nd) (ck x : Int) : Nat → List Nd × Int
  | 0 => (L, 0)
  | n + 1 => if (yA lim L ck x n).2 = 0 then (mkL lim (yA lim L ck x n).1 (keyN ((n : Int) + 1) ck x), mkE lim (yA lim L ck x n).1 (keyN ((n : Int) + 1) ck x)) else yA lim L ck x n
def yL (lim : Nat) (L : List Nd) (ck x : Int) (n : Nat) : List Nd := (yA lim L ck x n).1
def yE (lim : Nat) (L : List Nd) (ck x : Int) (n : Nat) : Int := (yA lim L ck x n).2
def yR (lim : Nat) (L : List Nd) (ck x : Int) (n : Nat) : Int := mkR lim (yL lim L ck x n) (keyN ((n : Int) + 1) ck x)
theorem yL_zero (lim : Nat) (L : List Nd) (ck x : Int) : yL lim L ck x 0 = L := rfl
theorem yE_zero (lim : Nat) (L : List Nd) (ck x : Int) : yE lim L ck x 0 = 0 := rfl
theorem y_succ {lim : Nat} {L : List Nd} {ck x : Int} {n : Nat} (h : yE lim L ck x n = 0) :
    yL lim L ck x (n + 1) = mkL lim (yL lim L ck x n) (keyN ((n : Int) + 1) ck x) ∧ yE lim L ck x (n + 1) = mkE lim (yL lim L ck x n) (keyN ((n : Int) + 1) ck x) := by
  unfold yL yE at *
  simp [yA, h]
theorem y_stuck {lim : Nat} {L : List Nd} {ck x : Int} {n : Nat} (h : yE lim L ck x n ≠ 0) : ∀ m, n ≤ m → yL lim L ck x m = yL lim L ck x n ∧ yE lim L ck x m = yE lim L ck x n
  | 0, hm => by obtain rfl : n = 0 := by omega
                exact ⟨rfl, rfl⟩
  | m + 1, hm => by
    by_cases e : n = m + 1
    · subst e; exact ⟨rfl, rfl⟩
    · obtain ⟨h1, h2⟩ := y_stuck h m (by omega)
      have h3 : yE lim L ck x m ≠ 0 := by rw [h2]; exact h
      unfold yL yE at *
      simp only [yA, if_neg h3]
      exact ⟨h1, h2⟩
/-- MixKey: state, arena, error. -/
def mxS (lim : Nat) (L : List Nd) (s : Sf) (x : Int) : Sf := if yE lim L s.ck x 2 = 0 then ⟨yR lim L s.ck x 0, s.h, ⟨yR lim L s.ck x 1, true, 0⟩⟩ else sZ
/-- MixBoth: what is hashed, state, arena, error. -/
def mbT (lim : Nat) (L : List Nd) (s : Sf) (x : Int) : Sf := ⟨yR lim L s.ck x 0, s.h, ⟨yR lim L s.ck x 2, true, 0⟩⟩
def mbL (lim : Nat) (L : List Nd) (s : Sf) (x : Int) : List Nd := if yE lim L s.ck x 3 = 0 then mhL lim (yL lim L s.ck x 3) (mbT lim L s x) (yR lim L s.ck x 1) else yL lim L s.ck x 3
def mbE (lim : Nat) (L : List Nd) (s : Sf) (x : Int) : Int := if yE lim L s.ck x 3 = 0 then mhE lim (yL lim L s.ck x 3) (mbT lim L s x) (yR lim L s.ck x 1) else yE lim L s.ck x 3
def mbS (lim : Nat) (L : List Nd) (s : Sf) (x : Int) : Sf := if yE lim L s.ck x 3 = 0 then mhS lim (yL lim L s.ck x 3) (mbT lim L s x) (yR lim L s.ck x 1) else sZ
/-- Seal: state, ref, arena, error. -/
def seT (lim : Nat) (L : List Nd) (s : Sf) (p : Int) : Sf := ⟨s.ck, s.h, slC lim L s.c s.h p⟩
def seL (lim : Nat) (L : List Nd) (s : Sf) (p : Int) : List Nd := if slE lim L s.c s.h p = 0 then mhL lim (slL lim L s.c s.h p) (seT lim L s p) (slR lim L s.c s.h p) else slL lim L s.c s.h p
def seE (lim : Nat) (L : List Nd) (s : Sf) (p : Int) : Int := if slE lim L s.c s.h p = 0 then mhE lim (slL lim L s.c s.h p) (seT lim L s p) (slR lim L s.c s.h p) else slE lim L s.c s.h p
def seS (lim : Nat) (L : List Nd) (s : Sf) (p : Int) : Sf := if slE lim L s.c s.h p = 0 then mhS lim (slL lim L s.c s.h p) (seT lim L s p) (slR lim L s.c s.h p) else sZ
def seR (lim : Nat) (L : List Nd) (s : Sf) (p : Int) : Int := if seE lim L s p = 0 then slR lim L s.c s.h p else 0
/-- Open: state, ref, arena, error. -/
def onT (L : List Nd) (s : Sf) (x : Int) : Sf := ⟨s.ck, s.h, opC L s.c s.h x⟩
def onL (lim : Nat) (L : List Nd) (s : Sf) (x : Int) : List Nd := if opE L s.c s.h x = 0 then mhL lim L (onT L s x) x else L
def onE (lim : Nat) (L : List Nd) (s : Sf) (x : Int) : Int := if opE L s.c s.h x = 0 then mhE lim L (onT L s x) x else opE L s.c s.h x
def onS (lim : Nat) (L : List Nd) (s : Sf) (x : Int) : Sf := if opE L s.c s.h x = 0 then mhS lim L (onT L s x) x else sZ
def onR (lim : Nat) (L : List Nd) (s : Sf) (x : Int) : Int := if onE lim L s x = 0 then opR L s.c s.h x else 0
/-- Split: both ciphers. -/
def spA (lim : Nat) (L : List Nd) (ck : Int) : Cf := if yE lim L ck 0 2 = 0 then ⟨yR lim L ck 0 0, true, 0⟩ else cZ
def spB (lim : Nat) (L : List Nd) (ck : Int) : Cf := if yE lim L ck 0 2 = 0 then ⟨yR lim L ck 0 1, true, 0⟩ else cZ
/-- Spell: the arena, the ref, the error behind so many bytes. -/
def zA (lim : Nat) (L : List Nd) (bs : List Int) : Nat → List Nd × Int × Int
  | 0 => (L, 0, 0)
  | n + 1 =>
    let t := zA lim L bs n
    if t.2.2 = 0 then
      let d := wordN (bs.getD n 0)
      if mkE lim t.1 d = 0 then
        let q := pairN t.2.1 (mkR lim t.1 d)
        (mkL lim (mkL lim t.1 d) q, mkR lim (mkL lim t.1 d) q, mkE lim (mkL lim t.1 d) q)
      else (mkL lim t.1 d, 0, mkE lim t.1 d)
    else t
def zL (lim : Nat) (L : List Nd) (bs : List Int) (n : Nat) : List Nd := (zA lim L bs n).1
def zR (lim : Nat) (L : List Nd) (bs : List Int) (n : Nat) : Int := (zA lim L bs n).2.1
def zE (lim : Nat) (L : List Nd) (bs : List Int) (n : Nat) : Int := (zA lim L bs n).2.2
/-- A word's node, the arena behind it, the pair's node. -/
def zW (bs : List Int) (n : Nat) : Nd := wordN (bs.getD n 0)
def zM (lim : Nat) (L : List Nd) (bs : List Int) (n : Nat) : List Nd := mkL lim (zL lim L bs n) (zW bs n)
def zQ (lim : Nat) (L : List Nd) (bs : List Int) (n : Nat) : Nd := pairN (zR lim L bs n) (mkR lim (zL lim L bs n) (zW bs n))
theorem z_zero (lim : Nat) (L : List Nd) (bs : List Int) : zL lim L bs 0 = L ∧ zR lim L bs 0 = 0 ∧ zE lim L bs 0 = 0 := ⟨rfl, rfl, rfl⟩
theorem z_word {lim : Nat} {L : List Nd} {bs : List Int} {n : Nat} (h : zE lim L bs n = 0) (hw : mkE lim (zL lim L bs n) (zW bs n) ≠ 0) :
    zL lim L bs (n + 1) = zM lim L bs n ∧ zR lim L bs (n + 1) = 0 ∧ zE lim L bs (n + 1) = mkE lim (zL lim L bs n) (zW bs n) := by
  have e : zA lim L bs (n + 1) = (zM lim L bs n, 0, mkE lim (zL lim L bs n) (zW bs n)) := by
    exact (if_pos h).trans (if_neg hw)
  exact ⟨congrArg (·.1) e, congrArg (·.2.1) e, congrArg (·.2.2) e⟩
theorem z_pair {lim : Nat} {L : List Nd} {bs : List Int} {n : Nat} (h : zE lim L bs n = 0) (hw : mkE lim (zL lim L bs n) (zW bs n) = 0) :
    zL lim L bs (n + 1) = mkL lim (zM lim L bs n) (zQ lim L bs n) ∧ zR lim L bs (n + 1) = mkR lim (zM lim L bs n) (zQ lim L bs n) ∧ zE lim L bs (n + 1) = mkE lim (zM lim L bs n) (zQ lim L bs n) := by
  have e : zA lim L bs (n + 1) = (mkL lim (zM lim L bs n) (zQ lim L bs n), mkR lim (zM lim L bs n) (zQ lim L bs n), mkE lim (zM lim L bs n) (zQ lim L bs n)) := by
    exact (if_pos h).trans (if_pos hw)
  exact ⟨congrArg (·.1) e, congrArg (·.2.1) e, congrArg (·.2.2) e⟩
theorem z_stuck {lim : Nat} {L : List Nd} {bs : List Int} {n : Nat} (h : zE lim L bs n ≠ 0) : ∀ m, n ≤ m → zL lim L bs m = zL lim L bs n ∧ zR lim L bs m = zR lim L bs n ∧ zE lim L bs m = zE lim L bs n
  | 0, hm => by obtain rfl : n = 0 := by omega
                exact ⟨rfl, rfl, rfl⟩
  | m + 1, hm => by
    by_cases e : n = m + 1
    · subst e; exact ⟨rfl, rfl, rfl⟩
    · obtain ⟨h1, h2, h4⟩ := z_stuck h m (by omega)
      have h3 : zE lim L bs m ≠ 0 := by rw [h4]; exact h
      unfold zL zR zE at *
      simp only [zA, if_neg h3]
      exact ⟨h1, h2, h4⟩
/-- Begin: state, arena, error. -/
def bgB (n : Nat) (bs : List Int) (p : Int) : Bool := decide (bs.length ≤ 100) && hasB n p
def bgT (lim : Nat) (L : List Nd) (bs : List Int) : Sf := ⟨zR lim L bs bs.length, zR lim L bs bs.length, cZ⟩
def bgL (lim : Nat) (L : List Nd) (bs : List Int) (p : Int) : List Nd := if bgB L.length bs p = true then (if zE lim L bs bs.length = 0 then mhL lim (zL lim L bs bs.length) (bgT lim L bs) p else zL lim L bs bs.length) else L
def bgE (lim : Nat) (L : List Nd) (bs : List Int) (p : Int) : Int := if bgB L.length bs p = true then (if zE lim L bs bs.length = 0 then mhE lim (zL lim L bs bs.length) (bgT lim L bs) p else zE lim L bs bs.length) else 1
def bgS (lim : Nat) (L : List Nd) (bs : List Int) (p : Int) : Sf := if bgB L.length bs p = true then (if zE lim L bs bs.length = 0 then mhS lim (zL lim L bs bs.length) (bgT lim L bs) p else sZ) else sZ
end Go.Proofs.YtgjhhipkfglpgaaDoor
