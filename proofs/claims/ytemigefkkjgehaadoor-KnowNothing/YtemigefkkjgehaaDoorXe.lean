/- Layer 3: walks of a search: what waits is taken up again. -/
import Derived.Test.YtemigefkkjgehaaDoorXd
import Derived.StillTailTactics
namespace Go.Proofs.YtemigefkkjgehaaDoor
open Go.RowKit Go.Maps

def SPost (c : Cx) (s s' : Sx) (w : World) (G : Gh) (e : Ending) (w' : World) : Prop := e = .returned (.tuple #[]) ∧ ∃ G', Sst c w' G' s' ∧ Fr s w w' G G'
theorem SPost.from {c : Cx} {s s' : Sx} {w w1 : World} {G : Gh} {e : Ending} {w' : World} (h : SPost c s s' w1 G e w') (hb : Below w.heap.size w w1) : SPost c s s' w G e w' := by
  obtain ⟨h1, G', h2, h3⟩ := h
  exact ⟨h1, G', h2, (Fr.below hb).trans (Le.refl s) h3⟩
/-- What the functions of a search do, as deep as the machine goes. -/
structure Wk (c : Cx) (n : Nat) : Prop where
  ask : ∀ (s s' : Sx) (r : Int) (w : World) (G : Gh), Run c.L n (.ask r) s s' → Sst c w G s → hasB c.L.length r = true →
    Calls Tryd.prog 42 #[.pointer (some ⟨c.bs, 0, none⟩), .int .i64 r] w fun e w' => ∃ a G', e = .returned (.pointer (some ⟨a, 0, none⟩)) ∧ G'.ab r = some a ∧ Sst c w' G' s' ∧ Fr s w w' G G'
  compose : ∀ (s s' : Sx) (r : Int) (a : Nat) (w : World) (G : Gh), Run c.L n (.compose r) s s' → Sst c w G s → phi c.L s + 4 ≤ 600000 → hasB c.L.length r = true → G.ab r = some a →
    Calls Tryd.prog 58 #[.pointer (some ⟨c.bs, 0, none⟩), agg (nd c.L r), reachV a] w (SPost c s s' w G)
  when_ : ∀ (s s' : Sx) (t : Thn) (rs : List Int) (tv rv : Value) (w : World) (G : Gh), Run c.L n (.when_ t rs) s s' → Sst c w G s → cOk c.L (t, rs) → rs.length ≤ 3 → phi c.L s + rs.length ≤ 600000 → ThnV w G c.bs tv t → RefsV w G rv rs →
    Calls Tryd.prog 61 #[.pointer (some ⟨c.bs, 0, none⟩), tv, rv] w (SPost c s s' w G)
  reach : ∀ (s s' : Sx) (r : Int) (a : Nat) (w : World) (G : Gh), Run c.L n (.reach r) s s' → Sst c w G s → G.ab r = some a →
    Calls Tryd.prog 59 #[.pointer (some ⟨a, 0, none⟩)] w (SPost c s s' w G)
  learn : ∀ (s s' : Sx) (r : Int) (w : World) (G : Gh), Run c.L n (.learn r) s s' → Sst c w G s → hasB c.L.length r = true →
    Calls Tryd.prog 46 #[.pointer (some ⟨c.bs, 0, none⟩), .int .i64 r] w (SPost c s s' w G)

theorem add_off' (k o j : Nat) : (⟨k, o, none⟩ : Addr).add (j + 1) = ⟨k, o + (j + 1), none⟩ := by unfold Addr.add; simp
theorem getD_drop (l : List Int) (j i : Nat) : (l.drop j).getD i 0 = l.getD (j + i) 0 := by
  rw [List.getD_eq_getElem?_getD, List.getD_eq_getElem?_getD, List.getElem?_drop]
set_option maxRecDepth 100000 in
set_option maxHeartbeats 1000000 in
theorem when1_any {c : Cx} {n : Nat} (hW : Wk c n) {s s' : Sx} {t : Thn} {rs : List Int} {w : World} {G : Gh} {p q r i : Nat} (hR : Run c.L n (.when_ t rs) s s') (h : Sst c w G s) (hc : cOk c.L (t, rs)) (hp : phi c.L s + rs.length ≤ 600000) (hv : CloV w G c.bs (whenV p q r i) (t, rs)) :
    Calls Tryd.prog 79 #[.pointer (some ⟨p, 0, none⟩), .pointer (some ⟨q, 0, none⟩), .pointer (some ⟨r, 0, none⟩), .pointer (some ⟨i, 0, none⟩)] w (SPost c s s' w G) := by
  obtain ⟨p', q', r', i', tv, rv, all, j, h1, h2, h3, h4, h5, h6, h7, h8, h9, h10⟩ := hv
  injection h1 with _ _ h1
  simp only [Array.mk.injEq, List.cons.injEq, Value.pointer.injEq, Option.some.injEq, Addr.mk.injEq, and_true] at h1
  obtain ⟨rfl, rfl, rfl, rfl⟩ := h1
  have h10 : all.drop (j + 1) = rs := h10
  have h4 : ThnV w G c.bs tv t := h4
  obtain ⟨k, o, cp, rfl, l1, l2, l3, l4⟩ := h6
  have c1 := cell_of_one h2.1
  have c2 := cell_of_one h3.1
  have c3 := cell_of_one h5.1
  have c4 := cell_of_one h7.1
  have hrs : rs.length = all.length - (j + 1) := by rw [← h10, List.length_drop]
  have HC : Hid (∀ w1 rv, Below w.heap.size w w1 → RefsV w G rv rs → Calls Tryd.prog 61 #[.pointer (some ⟨c.bs, 0, none⟩), tv, rv] w1 (SPost c s s' w1 G)) := Lib.hid (fun w1 rv hb hrv => by
    have hf : Fr s w w1 G G := Fr.below hb
    exact hW.when_ s s' t rs tv rv w1 G hR (h.keep hb) hc (by omega) hp (h4.fr hf) (hrv.fr hf))
  have hj : (j : Int) + 1 ≤ all.length := by omega
  have hl3 : (all.length : Int) ≤ cp := by omega
  have hj0 : (0 : Int) ≤ j := by omega
  have hwr : IntKind.i64.wrap ((j : Int) + 1) = (j : Int) + 1 := IntWalk.i64_in _ (by omega)
  have hj1 : (0 : Int) ≤ (j : Int) + 1 := by omega
  have HB : Hid (Below w.heap.size w w.drew) := Lib.hid (Below.refl _ _).drew
  by_cases e : cp = j + 1
  · have HR : Hid (RefsV w G (.slice (some ⟨k, o, none⟩) (all.length - (j + 1)) 0) rs) := Lib.hid ⟨k, o, 0, by rw [hrs], by omega, l2, l3, fun m hm => by omega⟩
    subst e
    clear h h2 h3 h5 h7 hW hR h4 hc hp hrs l1 l2 l3 l4 h9 h8
    go_enter Tryd.func79, Tryd.ntmps79
    go_wp2_with fail
    go_still_tail 6, (by kernel_rfl)
    change wpList _ _ _ _ _ w.drew
    have hd := HB.out
    generalize w.drew = w2 at *
    go_wp2_with (go_at_call 61; refine (HC.out _ _ hd HR.out).mono ?_; rintro e w3 ⟨rfl, hg⟩)
    go_end0
    exact SPost.from ⟨rfl, hg⟩ hd
  · have HR : Hid (RefsV w G (.slice (some ⟨k, o + (j + 1), none⟩) (all.length - (j + 1)) (cp - (j + 1))) rs) := Lib.hid ⟨k, o + (j + 1), cp - (j + 1), by rw [hrs], by omega, l2, l3, fun m hm => by
      rw [← h10, getD_drop, ← l4 (j + 1 + m) (by omega)]
      congr 2; omega⟩
    clear h h2 h3 h5 h7 hW hR h4 hc hp hrs l1 l2 l3 l4 h9 h8
    have ha := add_off' k o j
    go_enter Tryd.func79, Tryd.ntmps79
    go_wp2_with fail
    go_still_tail 6, (by kernel_rfl)
    change wpList _ _ _ _ _ w.drew
    have hd := HB.out
    generalize w.drew = w2 at *
    go_wp2_with (go_at_call 61; refine (HC.out _ _ hd HR.out).mono ?_; rintro e w3 ⟨rfl, hg⟩)
    go_end0
    exact SPost.from ⟨rfl, hg⟩ hd
end Go.Proofs.YtemigefkkjgehaaDoor
