/- Layer 4: Run with all that it leaves, in one form. -/
import Derived.Test.YtlckajnbmkkpeaaDoorEo
namespace Go.Proofs.YtlckajnbmkkpeaaDoor
open Go.RowKit Go.Maps

theorem IntsV.kp {w w' : World} {mk : Nat} {s : Option Addr} {l : List Int} (h : IntsV w s l) (hn : ∀ p, s = some p → p.block ≠ mk) (hk : Kp w w' mk) : IntsV w' s l := fun h0 => by
  obtain ⟨gl, ol, e, h1, h2⟩ := h h0
  have := hn _ e
  exact ⟨gl, ol, e, Nat.lt_of_lt_of_le h1 hk.size, h2.keep (hk.kept _ h1 this)⟩
theorem Kno.kit {w : World} {bk b g bm cap lim : Nat} {L : List Nd} {mk : Nat} {hv : Value} {hs : List Int} {K : Int → Bool} (h : Kno w bk b g bm cap lim L mk hv hs K) (hK : ∀ x ∈ hs, K x = true) : Kit L (fun x => K x = true) hs :=
  ⟨h.ar.wf, fun x hx => h.kh x hx, h.sh, hK⟩
theorem runY_bad {lim : Nat} {H : List Int} : ∀ (l : List Sp) (L : List Nd) (Y : List Int) (i : Nat), (runY lim H l L Y i).e ≠ 0 → (runY lim H l L Y i).Y = []
  | [], L, Y, i, he => absurd rfl he
  | s :: r, L, Y, i, he => by
    by_cases e0 : (stepY lim H L Y s).e = 0
    · have a1 : runY lim H (s :: r) L Y i = runY lim H r (stepY lim H L Y s).L (Y ++ [(stepY lim H L Y s).r]) (i + 1) := by rw [runY, if_pos e0]
      rw [a1] at he ⊢
      exact runY_bad r _ _ _ he
    · have a1 : runY lim H (s :: r) L Y i = ⟨L, [], i, (stepY lim H L Y s).e⟩ := by rw [runY, if_neg e0]
      rw [a1]
theorem runY_fine {lim : Nat} {H : List Int} : ∀ (l : List Sp) (L : List Nd) (Y : List Int) (i : Nat), (runY lim H l L Y i).e = 0 → (runY lim H l L Y i).i = 0
  | [], L, Y, i, _ => rfl
  | s :: r, L, Y, i, he => by
    by_cases e0 : (stepY lim H L Y s).e = 0
    · have a1 : runY lim H (s :: r) L Y i = runY lim H r (stepY lim H L Y s).L (Y ++ [(stepY lim H L Y s).r]) (i + 1) := by rw [runY, if_pos e0]
      rw [a1] at he ⊢
      exact runY_fine r _ _ _ he
    · have a1 : runY lim H (s :: r) L Y i = ⟨L, [], i, (stepY lim H L Y s).e⟩ := by rw [runY, if_neg e0]
      rw [a1] at he
      exact absurd he e0
/-- What Run leaves. -/
def RunP (w0 w : World) (bk b g bm lim : Nat) (L : List Nd) (mk : Nat) (hv : Value) (hs : List Int) (K : Int → Bool) (R : Rn) (e : Ending) (w' : World) : Prop :=
  ∃ sy cy g' cap' M, e = .returned (.tuple #[.slice sy R.Y.length cy, .int .i64 R.i, .int .i64 R.e]) ∧ R.L = L ++ M ∧ WF (L ++ M) ∧ Kx w0 w' bk b g' bm cap' lim (L ++ M) mk hv hs K ∧ IntsV w' sy R.Y ∧ (∀ p, sy = some p → p.block ≠ mk ∧ p.block ≠ g' ∧ w.heap.size ≤ p.block) ∧ (g' = g ∨ w.heap.size ≤ g') ∧ Kept w w' b g bm
theorem run_kz {w0 w : World} {bk b g bm cap lim : Nat} {L : List Nd} {mk : Nat} {hv : Value} {hs : List Int} {K : Int → Bool} (h : Kx w0 w bk b g bm cap lim L mk hv hs K) (hsh : Shp w0) (hS : Rsh w0) (hm : hs.length ≤ 1000001) (hK : ∀ x ∈ hs, K x = true) (hlim : lim ≤ 65536) (sl : Option Addr) (cl : Nat) (l : List Sp) (hl : StepsV w sl l) (hln : 0 < l.length → ∀ p, sl = some p → p.block ≠ b ∧ p.block ≠ g ∧ p.block ≠ bm) (hll : l.length ≤ 1000) :
    Calls Tryd.prog 25 #[.pointer (some ⟨b, 0, none⟩), .pointer (some ⟨bk, 0, none⟩), .slice sl l.length cl] w (RunP w0 w bk b g bm lim L mk hv hs K (runY lim hs l L [] 0)) :=
  (run_kx h hsh hS hm hK sl cl l hl hln hll).mono fun e w' ⟨sy, cy, g', cap', he, hKx, hi, hp, hg, hk⟩ => by
    obtain ⟨⟨⟨M, hM⟩, hw⟩, _⟩ := runY_again hlim l L [] 0 h.kn.ar.wf h.kn.ar.len (fun x hx => h.kn.kh x (hK x hx)) (fun y hy => by simp at hy)
    rw [hM] at hw
    have hmk := h.kn.kn.lt
    exact ⟨sy, cy, g', cap', M, he, hM, hw, hKx M hM, hi, fun p hq => ⟨by have := (hp p hq).1; omega, (hp p hq).2, (hp p hq).1⟩, hg, hk⟩
/-- Steps that the law was handed are none of the arena's. -/
theorem steps_apart {w0 w : World} {b g bm cap lim : Nat} {L : List Nd} (h : St w0 w b g bm cap lim L) {sl : Option Addr} {l : List Sp} (hl : StepsV w0 sl l) : 0 < l.length → ∀ p, sl = some p → p.block ≠ b ∧ p.block ≠ g ∧ p.block ≠ bm := fun h0 p hp => by
  obtain ⟨gs, os, e, hlt, _⟩ := hl h0
  rw [hp] at e
  obtain rfl := Option.some.inj e
  have h1 := h.hb
  have h2 := h.hg
  have h3 := h.hm
  refine ⟨?_, ?_, ?_⟩ <;> simp only <;> omega
end Go.Proofs.YtlckajnbmkkpeaaDoor
