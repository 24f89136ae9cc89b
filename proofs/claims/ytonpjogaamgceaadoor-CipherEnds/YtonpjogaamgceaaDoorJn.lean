/- Layer 10: one step of a loop that seals and opens; boxes that are stored to. -/
import Derived.Test.YtonpjogaamgceaaDoorLBack
import Derived.Test.YtonpjogaamgceaaDoorJm
namespace Go.Proofs.YtonpjogaamgceaaDoor
open Go.RowKit

theorem bld_len {lim : Nat} (ns : List Nd) : (bld lim ns).length ≤ ns.length + 1 := by
  suffices h : ∀ (ns M : List Nd), (ns.foldl (mkL lim) M).length ≤ M.length + ns.length by
    have := h ns [zN]; unfold bld; simp only [List.length_cons, List.length_nil] at this; omega
  intro ns
  induction ns with
  | nil => intro M; simp
  | cons d r ih =>
    intro M
    simp only [List.foldl_cons, List.length_cons]
    have h1 := ih (mkL lim M d)
    have h2 : (mkL lim M d).length ≤ M.length + 1 := by
      unfold mkL; split
      · split
        · omega
        · split
          · omega
          · simp
      · omega
    omega
/-- What one step seals and opens. -/
structure Ct (lim : Nat) (M : List Nd) (key N : Int) : Prop where
  e : slE lim M ⟨key, true, N⟩ 0 key = 0
  c : slC lim M ⟨key, true, N⟩ 0 key = ⟨key, true, N + 1⟩
  ge : M.length ≤ (slL lim M ⟨key, true, N⟩ 0 key).length
  le : (slL lim M ⟨key, true, N⟩ 0 key).length ≤ M.length + 1
  r : hasB (slL lim M ⟨key, true, N⟩ 0 key).length (slR lim M ⟨key, true, N⟩ 0 key) = true
  d : nd (slL lim M ⟨key, true, N⟩ 0 key) (slR lim M ⟨key, true, N⟩ 0 key) = ⟨7, N, key, 0, key⟩
  oe : opE (slL lim M ⟨key, true, N⟩ 0 key) ⟨key, true, N⟩ 0 (slR lim M ⟨key, true, N⟩ 0 key) = 0
  or : opR (slL lim M ⟨key, true, N⟩ 0 key) ⟨key, true, N⟩ 0 (slR lim M ⟨key, true, N⟩ 0 key) = key
  oc : opC (slL lim M ⟨key, true, N⟩ 0 key) ⟨key, true, N⟩ 0 (slR lim M ⟨key, true, N⟩ 0 key) = ⟨key, true, N + 1⟩
theorem ct_step {lim : Nat} {M : List Nd} {key N : Int} (hM : WF M) (hl : M.length < lim) (hm : lim ≤ 65536) (hk : hasB M.length key = true) (h0 : 0 ≤ N) (h1 : N < lastU) : Ct lim M key N := by
  have hz : hasB M.length 0 = true := hasB_iff.2 ⟨by omega, by have := hM.toWFp.pos; omega⟩
  have hn : u64ok N := by unfold lastU at h1; exact ⟨h0, by omega⟩
  have hch : chk M.length ⟨key, true, N⟩ 0 key = 0 := chk_good (by rw [hz, hk]; rfl) rfl hk (by unfold lastU at *; simp only; omega)
  obtain ⟨e1, e2, e3, e4⟩ := sl_mk (lim := lim) (c := ⟨key, true, N⟩) hch rfl
  have hr : right M (slN ⟨key, true, N⟩ 0 key) = true := slN_right ⟨hz, hk⟩ hk
  have he : mkE lim M (slN ⟨key, true, N⟩ 0 key) = 0 := mk_room hr hl
  have hs : slE lim M ⟨key, true, N⟩ 0 key = 0 := by rw [e2, he]
  obtain ⟨s1, s2, _, _, s5⟩ := sl_stands (c := ⟨key, true, N⟩) hM (by omega) hn rfl hs
  obtain ⟨b1, b2, b3⟩ := sl_back (c := ⟨key, true, N⟩) hM (by omega) hn hs
  have hlen := mk_len (d := slN ⟨key, true, N⟩ 0 key) (Nat.le_of_lt hl)
  exact ⟨hs, by rw [s5]; rfl, by rw [e1]; exact hlen.1, by rw [e1]; exact hlen.2.2, s1, by rw [s2]; rfl, b1, b2, by rw [b3, s5]; rfl⟩
/-- A store into a cipher's box that is the law's own. -/
theorem St.set3 {w wi : World} {b g bm cap lim p : Nat} {L : List Nd} {vs : Array Value} (h : St w wi b g bm cap lim L) (hp : wi.heap[p]? = some (.cells vs 25 (0, 0))) (hw : w.heap.size ≤ p) (u v x : Value) : St w (((wi.setCell ⟨p, 0, none⟩ u).setCell ⟨p, 1, none⟩ v).setCell ⟨p, 2, none⟩ x) b g bm cap lim L := by
  obtain ⟨h1, h2, h3⟩ := h.ar.far hp (by decide) (by decide)
  exact ⟨h.ar.set3 (Ne.symm h1) (Ne.symm h2) (Ne.symm h3) u v x, ((h.bel.setCell hw _).setCell hw _).setCell hw _, h.hb, h.hg, h.hm⟩
end Go.Proofs.YtonpjogaamgceaaDoor
