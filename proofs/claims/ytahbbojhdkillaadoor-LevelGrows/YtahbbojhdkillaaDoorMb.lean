/- Layer 5: patterns in memory; walks of the small functions: isToken, Name, inNames, tokenOf. -/
import Derived.Test.YtahbbojhdkillaaDoorRows
import Derived.Test.YtahbbojhdkillaaDoorMa
import Derived.WalkKit
import Derived.WalkSpells
import Derived.WalkLawsBesides
import Derived.Lib.Hide
import Derived.BigQuiet
import Derived.Deep.DeepCutAuto
import Derived.Deep.RegionHeld3
import Derived.StillTailTactics
import Derived.Deep.LoopGhost
import Derived.Laws.RangeString
namespace Go.Proofs.YtahbbojhdkillaaDoor
open Go.RowKit

/-- What is read of package variables. -/
structure En (w : World) : Prop where
  nm : ∀ i, i < 8 → w.cell? ⟨3, i, none⟩ = some (.string ⟨(namesL.getD i []).toArray⟩)
  a0 : w.cell? ⟨2, 0, none⟩ = some (.string ⟨#[45, 62, 32]⟩)
  a1 : w.cell? ⟨2, 1, none⟩ = some (.string ⟨#[60, 45, 32]⟩)
  ln : ∃ m, w.cell? ⟨5, 0, none⟩ = some (.int .i64 m)
theorem En.keep {w w' : World} (h : En w) (hb : Below w.heap.size w w') : En w' := by
  have k : ∀ (a : Addr) v, w.cell? a = some v → w'.cell? a = some v := fun a v hv => by
    rw [hb.cell (p := a) (World.block_lt_of_cell? _ _ hv)]; exact hv
  obtain ⟨m, hm⟩ := h.ln
  exact ⟨fun i hi => k _ _ (h.nm i hi), k _ _ h.a0, k _ _ h.a1, m, k _ _ hm⟩
theorem En.drewN {w : World} (h : En w) (n : Nat) : En (w.drewN n) := ⟨h.nm, h.a0, h.a1, h.ln⟩

/-- A row of ints in memory. -/
def intsAt (w : World) (g o : Nat) (l : List Int) : Prop := ∀ i, i < l.length → w.cell? ⟨g, o + i, none⟩ = some (.int .i64 (l.getD i 0))
def IntsV (w : World) (s : Option Addr) (l : List Int) : Prop := 0 < l.length → ∃ gl ol, s = some ⟨gl, ol, none⟩ ∧ intsAt w gl ol l
theorem IntsV.keep {w w' : World} {s : Option Addr} {l : List Int} (h : IntsV w s l) (hb : Below w.heap.size w w') : IntsV w' s l := fun h0 => by
  obtain ⟨gl, ol, e, h1⟩ := h h0
  exact ⟨gl, ol, e, fun i hi => by
    have := h1 i hi
    rw [hb.cell (p := ⟨gl, ol + i, none⟩) (World.block_lt_of_cell? _ _ this)]; exact this⟩
theorem IntsV.none {w : World} {s : Option Addr} : IntsV w s [] := fun h => by simp at h
/-- A row of messages in memory. -/
def msgAt (w : World) (g o : Nat) (m : Ms) : Prop := w.cell? ⟨g, o, none⟩ = some (.int .i64 m.fr) ∧ ∃ s c, w.cell? ⟨g, o + 1, none⟩ = some (.slice s m.t.length c) ∧ IntsV w s m.t
def MsgsV (w : World) (s : Option Addr) (ms : List Ms) : Prop := 0 < ms.length → ∃ g o, s = some ⟨g, o, none⟩ ∧ ∀ i, i < ms.length → msgAt w g (o + i * 2) (ms.getD i default)
theorem msgAt.keep {w w' : World} {g o : Nat} {m : Ms} (h : msgAt w g o m) (hb : Below w.heap.size w w') : msgAt w' g o m := by
  obtain ⟨h1, s, c, h2, h3⟩ := h
  refine ⟨?_, s, c, ?_, h3.keep hb⟩
  · rw [hb.cell (p := ⟨g, o, _⟩) (World.block_lt_of_cell? _ _ h1)]; exact h1
  · rw [hb.cell (p := ⟨g, o + 1, _⟩) (World.block_lt_of_cell? _ _ h2)]; exact h2
theorem MsgsV.keep {w w' : World} {s : Option Addr} {ms : List Ms} (h : MsgsV w s ms) (hb : Below w.heap.size w w') : MsgsV w' s ms := fun h0 => by
  obtain ⟨g, o, e, h1⟩ := h h0
  exact ⟨g, o, e, fun i hi => (h1 i hi).keep hb⟩
theorem MsgsV.none {w : World} {s : Option Addr} : MsgsV w s [] := fun h => by simp at h
/-- Where a pattern's rows lie. -/
structure Sl where
  s0 : Option Addr
  c0 : Nat
  s1 : Option Addr
  c1 : Nat
  s2 : Option Addr
  c2 : Nat
structure PatA (w : World) (x : Sl) (p : Pt) : Prop where
  i0 : IntsV w x.s0 p.p0
  i1 : IntsV w x.s1 p.p1
  im : MsgsV w x.s2 p.ms
  cp : p.ms.length ≤ x.c2
theorem PatA.keep {w w' : World} {x : Sl} {p : Pt} (h : PatA w x p) (hb : Below w.heap.size w w') : PatA w' x p := ⟨h.i0.keep hb, h.i1.keep hb, h.im.keep hb, h.cp⟩
/-- A pattern's value. -/
def patV (x : Sl) (p : Pt) : Value := .agg #[.string ⟨p.nm.toArray⟩, .slice x.s0 p.p0.length x.c0, .slice x.s1 p.p1.length x.c1, .slice x.s2 p.ms.length x.c2]

set_option maxRecDepth 100000 in
set_option maxHeartbeats 400000 in
theorem isToken_any (t : Int) (w : World) : Calls Tryd.prog 65 #[.int .i64 t] w fun e w' => e = .returned (.bool (isTok t)) ∧ w = w' := by
  go_enter Tryd.func65, Tryd.ntmps65
  go_wp2
  all_goals go_ret
  all_goals refine ⟨?_, rfl⟩
  all_goals simp_all [isTok]
  all_goals omega

set_option maxRecDepth 100000 in
set_option maxHeartbeats 400000 in
theorem name_any (t : Int) (w : World) (hE : En w) : Calls Tryd.prog 62 #[.int .i64 t] w fun e w' => e = .returned (.string ⟨(nmT t).toArray⟩) ∧ w = w' := by
  have h0 : w.cell? ⟨3, 0, none⟩ = some (.string ⟨#[63]⟩) := hE.nm 0 (by omega)
  cases ht : isTok t with
  | false =>
    have HE := Lib.hid hE; clear hE
    have HT := Lib.hid ht; clear ht
    go_enter Tryd.func62, Tryd.ntmps62
    go_wp2_with (go_at_call 65; refine (isToken_any _ _).mono ?_; rintro e w' ⟨rfl, rfl⟩; rw [HT.out])
    go_ret
    exact ⟨by unfold nmT; rw [HT.out]; rfl, rfl⟩
  | true =>
    have h1 : 0 ≤ t ∧ t < 8 := by simp [isTok] at ht; omega
    have hc : w.cell? ⟨3, t.toNat, none⟩ = some (.string ⟨(nmT t).toArray⟩) := by
      rw [hE.nm t.toNat (by omega)]; unfold nmT; rw [ht]; rfl
    have HE := Lib.hid hE; clear hE
    have HT := Lib.hid ht; clear ht
    go_enter Tryd.func62, Tryd.ntmps62
    go_wp2_with (go_at_call 65; refine (isToken_any _ _).mono ?_; rintro e w' ⟨rfl, rfl⟩; rw [HT.out])
    go_ret
    exact ⟨rfl, rfl⟩

set_option maxRecDepth 100000 in
set_option maxHeartbeats 800000 in
theorem inNames_any (c : Nat) (w : World) : Calls Tryd.prog 64 #[.int .i32 c] w fun e w' => e = .returned (.bool (nmOk c)) ∧ w = w' := by
  go_enter Tryd.func64, Tryd.ntmps64
  go_wp2
  all_goals go_ret
  all_goals refine ⟨?_, rfl⟩
  all_goals simp_all [nmOk]
  all_goals first | omega | (rw [Bool.eq_iff_iff]; simp; omega)
end Go.Proofs.YtahbbojhdkillaaDoor
