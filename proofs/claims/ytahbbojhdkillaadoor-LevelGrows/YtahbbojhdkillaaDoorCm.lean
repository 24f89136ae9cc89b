/- Layer 7: bounds of a pattern that may be. -/
import Derived.Test.YtahbbojhdkillaaDoorCl
import Derived.Test.YtahbbojhdkillaaDoorNa
namespace Go.Proofs.YtahbbojhdkillaaDoor
open Go.RowKit Go.Shelf

theorem flat_len : ∀ {ms : List Ms}, (∀ m ∈ ms, m.t.length ≤ 12) → (flat ms).length ≤ ms.length * 12
  | [], _ => by simp [flat]
  | m :: r, h => by
    have h1 := h m (by simp)
    have h2 := flat_len (ms := r) fun x hx => h x (by simp [hx])
    rw [flat_cons]
    simp only [List.length_append, List.length_map, List.length_cons]
    omega
theorem right_bd {p : Pt} (h : right p = true) : p.p0.length ≤ 65536 ∧ p.p1.length ≤ 65536 ∧ p.ms.length ≤ 65536 ∧ (∀ i, i < p.ms.length → (p.ms.getD i default).t.length ≤ 65536) ∧ (flat p.ms).length ≤ 65536 ∧ p.ms.length ≤ 6 := by
  obtain ⟨a, b, c, d⟩ := right_lens h
  simp only [right, Bool.and_eq_true, decide_eq_true_eq] at h
  have hf : (flat p.ms).length ≤ p.ms.length * 12 := flat_len fun m hm => by
    have := List.all_eq_true.1 h.2 m hm
    simp only [msOk, Bool.and_eq_true, decide_eq_true_eq] at this
    exact this.1.2
  exact ⟨a, b, c, d, by omega, by omega⟩
theorem met7_any (x : Sl) (p : Pt) (who t : Int) (msg at_ : Nat) (w : World) (hp : PatA w x p) (hr : right p = true) (hat : at_ ≤ 65536) (hmg : msg ≤ 65536) :
    Calls Tryd.prog 45 #[patV x p, .int .i64 who, .int .i64 t, .int .i64 msg, .int .i64 at_] w fun e w' => e = .returned (.int .i64 (met who t (ahd p.ms msg at_))) ∧ Below w.heap.size w w' := by
  obtain ⟨a, b, c, d, e, f⟩ := right_bd hr
  exact met_any x p who t msg at_ w hp c d e hat hmg
theorem metA_any (x : Sl) (p : Pt) (who t : Int) (w : World) (hp : PatA w x p) (hr : right p = true) :
    Calls Tryd.prog 45 #[patV x p, .int .i64 who, .int .i64 t, .int .i64 99, .int .i64 0] w fun e w' => e = .returned (.int .i64 (met who t (flat p.ms))) ∧ Below w.heap.size w w' := by
  have h := met7_any x p who t 99 0 w hp hr (by omega) (by omega)
  rw [ahd_over (by have := (right_bd hr).2.2.2.2.2; omega)] at h
  exact h
theorem metN_any (x : Sl) (p : Pt) (who t : Int) (n : Nat) (w : World) (hp : PatA w x p) (hr : right p = true) (hn : n ≤ 65536) :
    Calls Tryd.prog 45 #[patV x p, .int .i64 who, .int .i64 t, .int .i64 n, .int .i64 0] w fun e w' => e = .returned (.int .i64 (met who t (flat (p.ms.take n)))) ∧ Below w.heap.size w w' := by
  have h := met7_any x p who t n 0 w hp hr (by omega) hn
  have e : ahd p.ms n 0 = flat (p.ms.take n) := by unfold ahd; simp
  rw [e] at h
  exact h
theorem told7_any (x : Sl) (p : Pt) (r t : Int) (hr0 : r = 0 ∨ r = 1) (msg at_ : Nat) (w : World) (hp : PatA w x p) (hr : right p = true) (hat : at_ ≤ 65536) (hmg : msg ≤ 65536) :
    Calls Tryd.prog 44 #[patV x p, .int .i64 r, .int .i64 t, .int .i64 msg, .int .i64 at_] w fun e w' => e = .returned (.bool (tld p r t (ahd p.ms msg at_))) ∧ Below w.heap.size w w' := by
  obtain ⟨a, b, c, d, e, f⟩ := right_bd hr
  exact told_any x p r t hr0 msg at_ w hp a b c d e hat hmg
theorem toldN_any (x : Sl) (p : Pt) (r t : Int) (hr0 : r = 0 ∨ r = 1) (n : Nat) (w : World) (hp : PatA w x p) (hr : right p = true) (hn : n ≤ 65536) :
    Calls Tryd.prog 44 #[patV x p, .int .i64 r, .int .i64 t, .int .i64 n, .int .i64 0] w fun e w' => e = .returned (.bool (tld p r t (flat (p.ms.take n)))) ∧ Below w.heap.size w w' := by
  have h := told7_any x p r t hr0 n 0 w hp hr (by omega) hn
  have e : ahd p.ms n 0 = flat (p.ms.take n) := by unfold ahd; simp
  rw [e] at h
  exact h
/-- A law's pattern in its box, and that of the reference in another one. -/
structure Bq (w : World) (b qb : Nat) (x y : Sl) (p : Pt) (wr : World) : Prop where
  bx : Bx w b x p wr
  qx : wr.heap[qb]? = some (.cells #[.string ⟨p.nm.toArray⟩, .slice y.s0 p.p0.length y.c0, .slice y.s1 p.p1.length y.c1, .slice y.s2 p.ms.length y.c2] 43 (0, 0))
  pa : PatA wr y p
theorem Bq.keep {w : World} {b qb : Nat} {x y : Sl} {p : Pt} {wr wx : World} (h : Bq w b qb x y p wr) (hb : Below wr.heap.size wr wx) : Bq w b qb x y p wx := ⟨h.bx.keep hb, (hb.block _ (lt_of_heap h.qx)).trans h.qx, h.pa.keep hb⟩
theorem Bq.cells {w : World} {b qb : Nat} {x y : Sl} {p : Pt} {wr : World} (h : Bq w b qb x y p wr) : (wr.cell? ⟨qb, 0, none⟩ = some (.string ⟨p.nm.toArray⟩) ∧ wr.cell? ⟨qb, 1, none⟩ = some (.slice y.s0 p.p0.length y.c0) ∧ wr.cell? ⟨qb, 2, none⟩ = some (.slice y.s1 p.p1.length y.c1) ∧ wr.cell? ⟨qb, 3, none⟩ = some (.slice y.s2 p.ms.length y.c2)) ∧ b < wr.heap.size ∧ qb < wr.heap.size := by
  obtain ⟨h0, h1, h2, h3, -⟩ := box4c h.qx
  exact ⟨⟨h0, h1, h2, h3⟩, lt_of_heap h.bx.bx, lt_of_heap h.qx⟩
theorem bq_new {w w3 : World} {b : Nat} {x y : Sl} {p : Pt} (h : Bx w b x p w3) (hy : PatA w3 y p) : Bq w b w3.heap.size x y p (w3.alloc (.cells #[.string ⟨p.nm.toArray⟩, .slice y.s0 p.p0.length y.c0, .slice y.s1 p.p1.length y.c1, .slice y.s2 p.ms.length y.c2] 43)) :=
  ⟨h.keep ((Below.refl _ _).alloc (Nat.le_refl _) _), heap_alloc_new w3 _, hy.keep ((Below.refl _ _).alloc (Nat.le_refl _) _)⟩
end Go.Proofs.YtahbbojhdkillaaDoor
