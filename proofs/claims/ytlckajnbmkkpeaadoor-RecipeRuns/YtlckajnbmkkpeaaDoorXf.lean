/- Layer 3: walks of a search: a Seal is opened later; a term is reached. -/
import Derived.Test.YtlckajnbmkkpeaaDoorXz
namespace Go.Proofs.YtlckajnbmkkpeaaDoor
open Go.RowKit Go.Maps

set_option maxRecDepth 100000 in
set_option maxHeartbeats 1000000 in
theorem open1_any {c : Cx} {n : Nat} (hW : Wk c n) {s s' : Sx} {r : Int} {w : World} {G : Gh} {p q : Nat} (hR : Run c.L n (.learn r) s s') (h : Sst c w G s) (hr : hasB c.L.length r = true) (hv : ThnV w G c.bs (openV p q) (.learn r)) :
    Calls Tryd.prog 62 #[.pointer (some ⟨p, 0, none⟩), .pointer (some ⟨q, 0, none⟩)] w (SPost c s s' w G) := by
  obtain ⟨p', q', k, m, a, b, h1, h2, h3⟩ := hv
  injection h1 with _ _ h1
  simp only [Array.mk.injEq, List.cons.injEq, Value.pointer.injEq, Option.some.injEq, Addr.mk.injEq, and_true] at h1
  obtain ⟨rfl, rfl⟩ := h1
  have c1 := cell_of_one h2.1
  have c2 : w.cell? ⟨q, 4, none⟩ = some (.int .i64 r) := by rw [cell_of_row w q 4 _ _ _ h3.1]; rfl
  have HC : Hid (Calls Tryd.prog 46 #[.pointer (some ⟨c.bs, 0, none⟩), .int .i64 r] w (SPost c s s' w G)) := Lib.hid (hW.learn s s' r w G hR h hr)
  clear h h2 h3 hW hR hr
  go_enter Tryd.func62, Tryd.ntmps62
  go_wp2_with (go_at_call 46; refine HC.out.mono ?_; rintro e w3 ⟨rfl, hg⟩)
  go_end0
  exact ⟨rfl, hg⟩

theorem allR_drop {f : Clo → Sx → Sx → Prop} {l : List Clo} {i : Nat} {c : Clo} (hc : l[i]? = some c) {s s' : Sx} (h : allR f (l.drop i) s s') : ∃ s1, f c s s1 ∧ allR f (l.drop (i + 1)) s1 s' := by
  have hi : i < l.length := by
    rcases Nat.lt_or_ge i l.length with e | e
    · exact e
    · rw [List.getElem?_eq_none e] at hc; cases hc
  rw [List.drop_eq_getElem_cons hi] at h
  rw [List.getElem?_eq_getElem hi] at hc
  obtain rfl := Option.some.inj hc
  exact h
def restS (ws : List Clo) (i : Nat) : Nat := ((ws.drop i).map fun c => c.2.length).sum
theorem restS_step {ws : List Clo} {i : Nat} {c : Clo} (hc : ws[i]? = some c) : restS ws i = c.2.length + restS ws (i + 1) := by
  have hi : i < ws.length := by
    rcases Nat.lt_or_ge i ws.length with e | e
    · exact e
    · rw [List.getElem?_eq_none e] at hc; cases hc
  rw [List.getElem?_eq_getElem hi] at hc
  obtain rfl := Option.some.inj hc
  unfold restS
  rw [List.drop_eq_getElem_cons hi, List.map_cons, List.sum_cons]
theorem restS_zero (ws : List Clo) : restS ws 0 = (ws.map fun c => c.2.length).sum := by simp [restS]

set_option maxRecDepth 100000 in
set_option maxHeartbeats 4000000 in
theorem reach_step {c : Cx} {n : Nat} (hW : Wk c n) (hL : WF c.L) {s s' : Sx} {r : Int} {a : Nat} {w : World} {G : Gh} (hR : Run c.L (n + 1) (.reach r) s s') (h : Sst c w G s) (ha : G.ab r = some a) :
    Calls Tryd.prog 59 #[.pointer (some ⟨a, 0, none⟩)] w (SPost c s s' w G) := by
  obtain ⟨d, ws, hA, hbx, _⟩ := h.ans ha
  unfold Run at hR
  rw [hA] at hR
  have c0 : w.cell? ⟨a, 0, none⟩ = some (.bool d) := by rw [cell_of_row w a 0 _ _ _ hbx]; rfl
  have f0 : w.frozen? ⟨a, 0, none⟩ = false := by simp [World.frozen?, hbx]
  cases d with
  | true =>
    have hR : s' = s := hR
    subst hR
    have HP : Hid (SPost c s' s' w G (.returned (.tuple #[])) w) := Lib.hid ⟨rfl, G, h, Fr.refl _ _ _⟩
    clear h hbx hA hW
    go_enter Tryd.func59, Tryd.ntmps59
    go_wp2_with fail
    (try simp only [Exit.inBlock, Exit.then]); refine bodyPost_ret (results_none rfl _ _ _) rfl ?_
    exact HP.out
  | false =>
    have hR : allR (fun c_1 => Run c.L n (.when_ c_1.1 c_1.2)) ws (s.put r (true, ws)) s' := hR
    obtain ⟨hS1, hF1⟩ := h.reach ha hA
    obtain ⟨g1, g2, g3⟩ := fine_reach h.ok hA
    have hph := h.ph
    have hsA : (s.put r (true, ws)).A r = some (true, ws) := put_A
    obtain ⟨a', vals, k1, k2, k3, k4, k5, k6⟩ := hS1.an r true ws hsA
    obtain rfl : a = a' := by rw [ha] at k1; exact Option.some.inj k1
    have c1 : (w.setCell ⟨a, 0, none⟩ (.bool true)).cell? ⟨a, 1, none⟩ = some (G.wv r) := by rw [cell_of_row _ a 1 _ _ _ k3]; rfl
    obtain ⟨sp, cp, hv⟩ : ∃ sp cp, G.wv r = .slice sp ws.length cp := by
      rcases k4.2 with ⟨e, h0⟩ | ⟨g, cap, cur, e, _⟩
      · exact ⟨none, 0, by rw [e, h0]⟩
      · exact ⟨_, _, e⟩
    rw [hv] at c1
    have hlen : ws.length ≤ 600000 := by
      have := phi_ws (L := c.L) (h.ok.a r (by rw [hA]; rfl)) hA
      omega
    have HS1 := Lib.hid hS1
    have HF1 := Lib.hid hF1
    have HR := Lib.hid hR
    have HG2 := Lib.hid g2
    have HPH : Hid (phi c.L (s.put r (true, ws)) + restS ws 0 ≤ 600000) := Lib.hid (by rw [restS_zero, g3]; exact hph)
    have HSA := Lib.hid hsA
    have HV := Lib.hid hv
    have HWK := Lib.hid hW
    have HOW := Lib.hid h.ok
    clear hbx hS1 hF1 hR g1 g2 g3 hph hsA hv hW h hA k1 k2 k3 k4 k5 k6 ha
    go_enter Tryd.func59, Tryd.ntmps59
    go_wp2_with fail
    go_loopg [3, 16] ws.length (fun q _ u16 wr => ∃ k : Nat, k + q = ws.length ∧ u16 = .int .i64 k ∧ ∃ sk Gk, allR (fun c_1 => Run c.L n (.when_ c_1.1 c_1.2)) (ws.drop k) sk s' ∧ Sst c wr Gk sk ∧ Fr s w wr G Gk ∧ Le (s.put r (true, ws)) sk ∧ phi c.L sk + restS ws k ≤ 600000 ∧ Gk.wv r = G.wv r)
    case atStart => exact ⟨0, by omega, rfl, s.put r (true, ws), G, HR.out, HS1.out, HF1.out, Le.refl _, HPH.out, rfl⟩
    case round =>
      obtain ⟨k, hkq, rfl, sk, Gk, hRk, hSk, hFk, hLk, hPk, hWv⟩ := hrel
      by_cases hlt : k < ws.length
      · obtain ⟨cl, hcl⟩ : ∃ cl, ws[k]? = some cl := ⟨_, List.getElem?_eq_getElem hlt⟩
        obtain ⟨s1, hr1, hr2⟩ := allR_drop hcl hRk
        obtain ⟨a2, vals2, m1, m2, m3, m4, m5, m6⟩ := hSk.an r true ws (hLk.t r ws HSA.out)
        obtain ⟨v, hv1, hv2⟩ := m6 k cl hcl
        rw [hWv, HV.out] at m4
        obtain ⟨g, rfl⟩ : ∃ g, sp = some ⟨g, 0, none⟩ := by
          rcases m4.2 with ⟨e, h0⟩ | ⟨g, cap, cur, e, _⟩
          · omega
          · injection e with e; exact ⟨g, e⟩
        have hcell : wr.cell? ⟨g, k, none⟩ = some v := by rw [m4.cellAt k (by omega)]; exact hv1
        have hst := restS_step hcl
        have hco := hSk.ok.w r true ws (hLk.t r ws HSA.out) cl (List.mem_of_getElem? hcl)
        have hv3 := hv2
        obtain ⟨p, q, r', i', tv, rv, all, j, rfl, _⟩ := hv3
        have HC : Hid (Calls Tryd.prog 79 #[.pointer (some ⟨p, 0, none⟩), .pointer (some ⟨q, 0, none⟩), .pointer (some ⟨r', 0, none⟩), .pointer (some ⟨i', 0, none⟩)] wr (SPost c sk s1 wr Gk)) := Lib.hid (when1_any HWK.out hr1 hSk hco (by omega) hv2)
        have hfin := (run_fine hL n (.when_ cl.1 cl.2) sk s1 hSk.ok hco hr1).1
        have HN : Hid (∀ w1 G1, Sst c w1 G1 s1 → Fr sk wr w1 Gk G1 → ∃ sk' Gk', allR (fun c_1 => Run c.L n (.when_ c_1.1 c_1.2)) (ws.drop (k + 1)) sk' s' ∧ Sst c w1 Gk' sk' ∧ Fr s w w1 G Gk' ∧ Le (s.put r (true, ws)) sk' ∧ phi c.L sk' + restS ws (k + 1) ≤ 600000 ∧ Gk'.wv r = G.wv r) := Lib.hid (fun w1 G1 hs1 hf1 => by
          refine ⟨s1, G1, hr2, hs1, hFk.trans (HG2.out.trans hLk) hf1, hLk.trans hfin.le, ?_, ?_⟩
          · have := hfin.ph; simp only [slack] at this; omega
          · rw [hf1.tw r (der_iff.2 ⟨ws, hLk.t r ws HSA.out⟩)]; exact hWv)
        unfold whenV at hcell
        clear hRk hSk hFk hLk hPk hWv hcl hr1 hr2 m1 m2 m3 m4 m5 m6 hv1 hv2 hst hco hfin
        have hlt' : (k : Int) < ws.length := by omega
        go_wp2_with (go_at_call 79; refine HC.out.mono ?_; rintro e w3 ⟨rfl, G3, hS3, hF3⟩)
        go_roundg (ws.length - (k + 1))
        case rel => exact ⟨k + 1, by omega, by simp, HN.out _ _ hS3 hF3⟩
        case measure => omega
      · obtain rfl : k = ws.length := by omega
        rw [List.drop_length] at hRk
        have hRk : s' = sk := hRk
        subst hRk
        have HP : Hid (SPost c s s' w G (.returned (.tuple #[])) wr) := Lib.hid ⟨rfl, Gk, hSk, hFk⟩
        clear hSk hFk hLk hPk hWv
        go_wp2_with fail
        go_end0
        exact HP.out
end Go.Proofs.YtlckajnbmkkpeaaDoor
