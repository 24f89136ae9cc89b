/- Layer 3: walks of a search: what is called once all refs are derivable. -/
import Derived.Test.YtlckajnbmkkpeaaDoorXh
import Derived.Deep.AppendLies
namespace Go.Proofs.YtlckajnbmkkpeaaDoor
open Go.RowKit Go.Maps

theorem Tryd.info1 : (Tryd.prog.info? 1).map (fun i => (i.zero, i.size, i.bytes)) = some (some .nilFunc, 1, 8) := by kernel_rfl
theorem whenR_drop {ask : Int → Sx → Sx → Prop} {fin : Sx → Sx → Prop} {t : Thn} {rs : List Int} {k : Nat} (hk : k < rs.length) {s s' : Sx} (h : whenR ask fin t (rs.drop k) s s') : ∃ s1, ask (rs.getD k 0) s s1 ∧ (if s1.der (rs.getD k 0) = true then whenR ask fin t (rs.drop (k + 1)) s1 s' else s' = s1.wait (rs.getD k 0) (t, rs.drop (k + 1))) := by
  rw [List.drop_eq_getElem_cons hk] at h
  rw [List.getD_eq_getElem?_getD, List.getElem?_eq_getElem hk]
  exact h
theorem thn_reach {L : List Nd} {n : Nat} {r : Int} {s s' : Sx} (h : Run L n (.thn (.reach r)) s s') : Run L n (.reach r) s s' := by
  cases n with
  | zero => exact h.elim
  | succ n => unfold Run at h; exact h.succ
theorem thn_learn {L : List Nd} {n : Nat} {r : Int} {s s' : Sx} (h : Run L n (.thn (.learn r)) s s') : Run L n (.learn r) s s' := by
  cases n with
  | zero => exact h.elim
  | succ n => unfold Run at h; exact h.succ
/-- Where a search's loop stands: what is still to be asked, and the three boxes. -/
structure Lw (c : Cx) (n : Nat) (t : Thn) (rs : List Int) (s s' : Sx) (tv rv : Value) (p : Nat) (W0 wr : World) (G Gk : Gh) (sk : Sx) (k : Nat) : Prop where
  run : whenR (fun r => Run c.L n (.ask r)) (Run c.L n (.thn t)) t (rs.drop k) sk s'
  st : Sst c wr Gk sk
  fr : Fr s W0 wr G Gk
  le : Le s sk
  ph : phi c.L sk + (rs.length - k) ≤ 600000
  b0 : Fx wr Gk p (.cells #[.pointer (some ⟨c.bs, 0, none⟩)] 88 (0, 0))
  b1 : Fx wr Gk (p + 1) (.cells #[tv] 1 (0, 0))
  b2 : Fx wr Gk (p + 1 + 1) (.cells #[rv] 23 (0, 0))
  th : ThnV wr Gk c.bs tv t
  rf : RefsV wr Gk rv rs
theorem Lw.next {c : Cx} {n : Nat} {t : Thn} {rs : List Int} {s s' : Sx} {tv rv : Value} {p : Nat} {W0 wr : World} {G Gk : Gh} {sk : Sx} {k : Nat} (h : Lw c n t rs s s' tv rv p W0 wr G Gk sk k) {s1 : Sx} {w1 : World} {G1 : Gh} (hrun : whenR (fun r => Run c.L n (.ask r)) (Run c.L n (.thn t)) t (rs.drop (k + 1)) s1 s') (hf : Fine c.L 0 sk s1) (hs : Sst c w1 G1 s1) (hfr : Fr sk wr w1 Gk G1) : Lw c n t rs s s' tv rv p W0 w1 G G1 s1 (k + 1) :=
  ⟨hrun, hs, h.fr.trans h.le hfr, h.le.trans hf.le, by have := hf.ph; have := h.ph; omega, h.b0.fr hfr, h.b1.fr hfr, h.b2.fr hfr, h.th.fr hfr, h.rf.fr hfr⟩
/-- The closure that waits. -/
theorem Lw.clo {c : Cx} {n : Nat} {t : Thn} {rs : List Int} {s s' : Sx} {tv rv : Value} {p : Nat} {W0 wr : World} {G Gk : Gh} {sk : Sx} {k : Nat} (h : Lw c n t rs s s' tv rv p W0 wr G Gk sk k) (hk : k < rs.length) (h3 : rs.length ≤ 3) {w1 w2 : World} {G1 : Gh} (hf : Fr sk (wr.alloc (.cells #[.int .i64 (k : Nat)] 3)) w1 Gk G1) (hb : Below w1.heap.size w1 w2) : CloV w2 G1 c.bs (whenV p (p + 1) (p + 1 + 1) wr.heap.size) (t, rs.drop (k + 1)) := by
  have f0 : Fr sk wr (wr.alloc (.cells #[.int .i64 (k : Nat)] 3)) Gk Gk := Fr.below ((Below.refl _ _).alloc (Nat.le_refl _) _)
  have f1 := f0.trans (Le.refl sk) hf
  have f2 : Fr sk w1 w2 G1 G1 := Fr.below hb
  have f3 := f1.trans (Le.refl sk) f2
  have hi : Fx (wr.alloc (.cells #[.int .i64 (k : Nat)] 3)) Gk wr.heap.size (.cells #[.int .i64 (k : Nat)] 3 (0, 0)) := ⟨heap_alloc_new _ _, fun e => by have := h.st.mlt _ e; omega⟩
  exact ⟨p, p + 1, p + 1 + 1, wr.heap.size, tv, rv, rs, k, rfl, h.b0.fr f3, h.b1.fr f3, h.th.fr f3, h.b2.fr f3, h.rf.fr f3, (hi.fr hf).fr f2, hk, h3, rfl⟩

/-- The closure waits, and the loop is left. -/
theorem Lw.append {c : Cx} {n : Nat} {t : Thn} {rs : List Int} {s s' : Sx} {tv rv : Value} {p : Nat} {W0 wr : World} {G Gk : Gh} {sk : Sx} {k : Nat} (h : Lw c n t rs s s' tv rv p W0 wr G Gk sk k) (hk : k < rs.length) (h3 : rs.length ≤ 3) (_hL : WF c.L) (hc : cOk c.L (t, rs)) {s1 : Sx} {r : Int} {a : Nat} {w1 w7 : World} {G1 : Gh} {ws : List Clo} {sp : Option Addr} {cpw g2 cap2 : Nat} {vals : List Value} (hf : Fine c.L 0 sk s1) (hs' : s' = s1.wait r (t, rs.drop (k + 1)))
    (hS : Sst c w1 G1 s1) (hF : Fr sk (wr.alloc (.cells #[.int .i64 (k : Nat)] 3)) w1 Gk G1) (hab : G1.ab r = some a) (hA : s1.A r = some (false, ws)) (hO : w1.ownsRow 0 1 1 (.slice sp ws.length cpw) ws.length vals ∧ w1.heap[a]? = some (.cells #[.bool false, .slice sp ws.length cpw] 86 (0, 0)) ∧ ws.length ≤ 600000) (hv : G1.wv r = .slice sp ws.length cpw)
    (hown : w7.ownsRow 0 1 1 (.slice (some ⟨g2, 0, none⟩) (ws.length + 1) cap2) (ws.length + 1) (vals ++ [whenV p (p + 1) (p + 1 + 1) wr.heap.size])) (hgr : (w1.alloc (.cells #[whenV p (p + 1) (p + 1 + 1) wr.heap.size] 1)).grownBy w7 (Value.slice sp ws.length cpw).ownBlock) (hat : (Value.slice sp ws.length cpw).ownBlock = some g2 ∨ g2 = w1.heap.size + 1) :
    w7.cell? ⟨a, 1, none⟩ = some (.slice sp ws.length cpw) ∧ w7.frozen? ⟨a, 1, none⟩ = false ∧ Hid (∃ G9, Sst c (w7.setCell ⟨a, 1, none⟩ (.slice (some ⟨g2, 0, none⟩) (ws.length + 1) cap2)) G9 s' ∧ Fr s W0 (w7.setCell ⟨a, 1, none⟩ (.slice (some ⟨g2, 0, none⟩) (ws.length + 1) cap2)) G G9) := by
  obtain ⟨o1, o2, o3⟩ := hO
  have hb : Below w1.heap.size w1 (w1.alloc (.cells #[whenV p (p + 1) (p + 1 + 1) wr.heap.size] 1)) := (Below.refl _ _).alloc (Nat.le_refl _) _
  have hbx : w7.heap[a]? = some (.cells #[.bool false, .slice sp ws.length cpw] 86 (0, 0)) := by
    rw [hgr.block a (by have := lt_of_heap o2; simp; omega) (fun e => hS.row_ne hA (by rw [hv]; exact e.symm) o2 (by decide) rfl), hb.block a (lt_of_heap o2)]; exact o2
  have hcl : cOk c.L (t, rs.drop (k + 1)) := ⟨hc.1, fun x hx => hc.2 x (List.mem_of_mem_drop hx)⟩
  have hp := h.ph
  have hfp := hf.ph
  obtain ⟨G9, hS9, hF9⟩ := hS.wait hab hA hcl (by simp only [List.length_drop]; omega) (vals := vals) (v := .slice (some ⟨g2, 0, none⟩) (ws.length + 1) cap2) (u := whenV p (p + 1) (p + 1 + 1) wr.heap.size) (by rw [hv]; exact o1) hb hown (by rw [hv]; exact hgr) (fun j hj => by
    have hj : some g2 = some j := hj
    obtain rfl := Option.some.inj hj
    rw [hv]
    rcases hat with e | e
    · exact .inl e
    · exact .inr (by rw [e]; simp)) ⟨g2, rfl⟩ (h.clo hk h3 hF hb)
  refine ⟨by rw [cell_of_row w7 a 1 _ _ _ hbx]; rfl, by simp [World.frozen?, hbx], Lib.hid ⟨G9, by rw [hs']; exact hS9, ?_⟩⟩
  have f0 : Fr sk wr (wr.alloc (.cells #[.int .i64 (k : Nat)] 3)) Gk Gk := Fr.below ((Below.refl _ _).alloc (Nat.le_refl _) _)
  exact (h.fr.trans h.le (f0.trans (Le.refl sk) hF)).trans (h.le.trans hf.le) hF9

theorem wait_form {c : Cx} {w : World} {G : Gh} {s : Sx} (h : Sst c w G s) {r : Int} {a : Nat} (ha : G.ab r = some a) (hd : s.der r = false) : ∃ ws sp cp vals, w.cell? ⟨a, 1, none⟩ = some (.slice sp ws.length cp) ∧ Hid (s.A r = some (false, ws)) ∧ Hid (w.ownsRow 0 1 1 (.slice sp ws.length cp) ws.length vals ∧ w.heap[a]? = some (.cells #[.bool false, .slice sp ws.length cp] 86 (0, 0)) ∧ ws.length ≤ 600000) ∧ Hid (G.wv r = .slice sp ws.length cp) := by
  obtain ⟨d, ws, hA, hbx, _⟩ := h.ans ha
  obtain rfl : d = false := by unfold Sx.der at hd; rw [hA] at hd; exact hd
  obtain ⟨a', vals, k1, k2, k3, k4, _⟩ := h.an r false ws hA
  obtain ⟨sp, cp, hv⟩ : ∃ sp cp, G.wv r = .slice sp ws.length cp := by
    rcases k4.2 with ⟨e, h0⟩ | ⟨g, cap, cur, e, _⟩
    · exact ⟨none, 0, by rw [e, h0]⟩
    · exact ⟨_, _, e⟩
  rw [hv] at hbx k4
  have hl := phi_ws (L := c.L) (h.ok.a r (by rw [hA]; rfl)) hA
  have := h.ph
  exact ⟨ws, sp, cp, vals, by rw [cell_of_row w a 1 _ _ _ hbx]; rfl, Lib.hid hA, Lib.hid ⟨k4, hbx, by omega⟩, Lib.hid hv⟩
set_option maxRecDepth 100000 in
set_option maxHeartbeats 8000000 in
theorem when_reach {c : Cx} (hL : WF c.L) {n : Nat} (hW : Wk c n) {s s' : Sx} {r0 : Int} {a0 : Nat} {rs : List Int} {rv : Value} {w : World} {G : Gh} (hR : Run c.L (n + 1) (.when_ (.reach r0) rs) s s') (h : Sst c w G s) (hc : cOk c.L ((.reach r0), rs)) (h3 : rs.length ≤ 3) (hph : phi c.L s + rs.length ≤ 600000) (ha0 : G.ab r0 = some a0) (hv : RefsV w G rv rs) :
    Calls Tryd.prog 61 #[.pointer (some ⟨c.bs, 0, none⟩), .func (.func 59) #[.pointer (some ⟨a0, 0, none⟩)] #[], rv] w (SPost c s s' w G) := by
  unfold Run at hR
  have hv0 := hv
  obtain ⟨vb, vo, cp, rfl, l1, l2, l3, l4⟩ := hv
  clear l4
  have l1' : (rs.length : Int) ≤ cp := by omega
  have hM : ∀ k, w.heap.size ≤ k → ¬ G.M k := fun k hk e => by have := h.mlt k e; omega
  have hmf : ∀ (fn : Fn) (first cap : Array Value) (w : World), (Instr.makeFunc fn first cap).run Tryd.prog w = .ok (.func fn first cap) w := fun _ _ _ _ => rfl
  obtain ⟨i0, hi0, hz0, hz1, hz2⟩ := info_parts Tryd.info1
  have HB : Hid (Below w.heap.size w (((w.alloc (.cells #[.pointer (some ⟨c.bs, 0, none⟩)] 88)).alloc (.cells #[.func (.func 59) #[.pointer (some ⟨a0, 0, none⟩)] #[]] 1)).alloc (.cells #[.slice (some ⟨vb, vo, none⟩) rs.length cp] 23))) := Lib.hid ((((Below.refl _ _).alloc (Nat.le_refl _) _).alloc (by simp) _).alloc (by simp; omega) _)
  have HST : Hid (Lw c n (.reach r0) rs s s' (.func (.func 59) #[.pointer (some ⟨a0, 0, none⟩)] #[]) (.slice (some ⟨vb, vo, none⟩) rs.length cp) w.heap.size (((w.alloc (.cells #[.pointer (some ⟨c.bs, 0, none⟩)] 88)).alloc (.cells #[.func (.func 59) #[.pointer (some ⟨a0, 0, none⟩)] #[]] 1)).alloc (.cells #[.slice (some ⟨vb, vo, none⟩) rs.length cp] 23)) (((w.alloc (.cells #[.pointer (some ⟨c.bs, 0, none⟩)] 88)).alloc (.cells #[.func (.func 59) #[.pointer (some ⟨a0, 0, none⟩)] #[]] 1)).alloc (.cells #[.slice (some ⟨vb, vo, none⟩) rs.length cp] 23)) G G s 0) := Lib.hid (by
    have hf : Fr s w (((w.alloc (.cells #[.pointer (some ⟨c.bs, 0, none⟩)] 88)).alloc (.cells #[.func (.func 59) #[.pointer (some ⟨a0, 0, none⟩)] #[]] 1)).alloc (.cells #[.slice (some ⟨vb, vo, none⟩) rs.length cp] 23)) G G := Fr.below HB.out
    refine ⟨hR, h.keep HB.out, Fr.refl _ _ _, Le.refl s, by omega, ⟨?_, hM _ (by omega)⟩, ⟨?_, hM _ (by omega)⟩, ⟨?_, hM _ (by omega)⟩, ThnV.fr (w := w) ⟨a0, ha0, rfl⟩ hf, hv0.fr hf⟩
    · rw [Below.heap_alloc _ _ _ (by simp; omega), Below.heap_alloc _ _ _ (by simp)]; exact heap_alloc_new _ _
    · rw [Below.heap_alloc _ _ _ (by simp)]
      have := heap_alloc_new (w.alloc (.cells #[.pointer (some ⟨c.bs, 0, none⟩)] 88)) (.cells #[.func (.func 59) #[.pointer (some ⟨a0, 0, none⟩)] #[]] 1)
      rw [World.size_alloc] at this; exact this
    · have := heap_alloc_new ((w.alloc (.cells #[.pointer (some ⟨c.bs, 0, none⟩)] 88)).alloc (.cells #[.func (.func 59) #[.pointer (some ⟨a0, 0, none⟩)] #[]] 1)) (.cells #[.slice (some ⟨vb, vo, none⟩) rs.length cp] 23)
      rw [World.size_alloc, World.size_alloc] at this; exact this)
  have HWK := Lib.hid hW
  have HOK := Lib.hid hc
  clear hR hv0 l2 l3 h hc hph hM hW
  go_enter Tryd.func61, Tryd.ntmps61
  go_wp2_with fail
  have hsz : ((((w.alloc (.cells #[.pointer (some ⟨c.bs, 0, none⟩)] 88)).alloc (.cells #[.func (.func 59) #[.pointer (some ⟨a0, 0, none⟩)] #[]] 1)).alloc (.cells #[.slice (some ⟨vb, vo, none⟩) rs.length cp] 23))).heap.size = w.heap.size + 3 := by simp
  generalize (((w.alloc (.cells #[.pointer (some ⟨c.bs, 0, none⟩)] 88)).alloc (.cells #[.func (.func 59) #[.pointer (some ⟨a0, 0, none⟩)] #[]] 1)).alloc (.cells #[.slice (some ⟨vb, vo, none⟩) rs.length cp] 23)) = W0 at *
  go_loopg [6, 7, 8, 11] rs.length (fun q _ _ _ u11 wr => ∃ k : Nat, k + q = rs.length ∧ u11 = .int .i64 k ∧ ∃ sk Gk, Lw c n (.reach r0) rs s s' (.func (.func 59) #[.pointer (some ⟨a0, 0, none⟩)] #[]) (.slice (some ⟨vb, vo, none⟩) rs.length cp) w.heap.size W0 wr G Gk sk k)
  case atStart => exact ⟨0, by omega, rfl, s, G, HST.out⟩
  case round =>
    obtain ⟨k, hkq, rfl, sk, Gk, hLw⟩ := hrel
    have q0 := cell_of_one hLw.b0.1
    have q1 := cell_of_one hLw.b1.1
    have z0 := lt_of_heap hLw.b0.1
    by_cases hlt : k < rs.length
    · obtain ⟨s1, hr1, hr2⟩ := whenR_drop hlt hLw.run
      have hhas : hasB c.L.length (rs.getD k 0) = true := HOK.out.2 _ (by rw [List.getD_eq_getElem?_getD, List.getElem?_eq_getElem hlt]; simp)
      have hcell : wr.cell? ⟨vb, vo + k, none⟩ = some (.int .i64 (rs.getD k 0)) := by
        obtain ⟨vb', vo', cp', e, _, _, _, e4⟩ := hLw.rf
        injection e with e1 _ _
        injection e1 with e1
        injection e1 with e1 e2
        subst e1 e2
        exact e4 k hlt
      have hvb : vb < wr.heap.size := World.block_lt_of_cell? wr ⟨vb, vo + k, none⟩ hcell
      obtain ⟨r, hre⟩ : ∃ r, r = rs.getD k 0 := ⟨_, rfl⟩
      rw [← hre] at hr1 hr2 hhas hcell
      have hfin := run_fine hL n (.ask r) sk s1 hLw.st.ok hhas hr1
      have hsome := hfin.2 r rfl
      have HFIN := Lib.hid hfin.1
      have hB1 : Below wr.heap.size wr (wr.alloc (.cells #[.int .i64 (k : Nat)] 3)) := (Below.refl _ _).alloc (Nat.le_refl _) _
      have HC : Hid (Calls Tryd.prog 42 #[.pointer (some ⟨c.bs, 0, none⟩), .int .i64 r] (wr.alloc (.cells #[.int .i64 (k : Nat)] 3)) fun e w' => ∃ a G', e = .returned (.pointer (some ⟨a, 0, none⟩)) ∧ G'.ab r = some a ∧ Sst c w' G' s1 ∧ Fr sk (wr.alloc (.cells #[.int .i64 (k : Nat)] 3)) w' Gk G') := Lib.hid (HWK.out.ask sk s1 r _ Gk hr1 (hLw.st.keep hB1) hhas)
      have HLW := Lib.hid hLw
      have HB1 := Lib.hid hB1
      have hlt' : (k : Int) < rs.length := by omega
      by_cases hder : s1.der r = true
      · rw [if_pos hder] at hr2
        have HR2 := Lib.hid hr2
        clear hr1 hr2 hLw hfin hsome hre hB1 hhas
        go_wp2_with (go_at_call 42; refine HC.out.mono ?_; rintro e w1 ⟨a, G1, rfl, hab, hS1, hF1⟩; have x0 := hS1.ans0 hab; rw [hder] at x0; have HS1 := Lib.hid hS1; have HF1 := Lib.hid hF1; clear hS1 hF1)
        go_roundg (rs.length - (k + 1))
        case rel => exact ⟨k + 1, by omega, by simp, s1, G1, HLW.out.next HR2.out HFIN.out HS1.out ((Fr.below HB1.out).trans (Le.refl sk) HF1.out)⟩
        case measure => omega
      · rw [if_neg hder] at hr2
        have hder' : s1.der r = false := by simpa using hder
        have HR2 := Lib.hid hr2
        have HSO := Lib.hid hsome
        clear hr1 hr2 hLw hfin hsome hre hB1 hhas hder
        go_wp2_with (first
          | (go_at_call 42; refine HC.out.mono ?_; rintro e w1 ⟨a, G1, rfl, hab, hS1, hF1⟩; have x0 := hS1.ans0 hab; rw [hder'] at x0; have HS1 := Lib.hid hS1; have HF1 := Lib.hid hF1; obtain ⟨ws, sp, cpw, vals, x1, HA, HO, HWV⟩ := wait_form hS1 hab hder'; have hla := World.block_lt_of_cell? w1 ⟨a, 0, none⟩ x0; simp only at hla; clear hS1 hF1)
          | (at_builtin; refine wpList_append_lies _ rfl _ _ 84 rfl 0 1 i0 .nilFunc 1 8 Tryd.underlying84 hi0 hz0 hz1 hz2 rfl (by decide) _ _ _ rfl (HO.out.1.alloc _) ⟨w1.heap.size, 0, none⟩ 1 1 [.func (.func 79) #[] #[.pointer (some ⟨w.heap.size, 0, none⟩), .pointer (some ⟨w.heap.size + 1, 0, none⟩), .pointer (some ⟨w.heap.size + 1 + 1, 0, none⟩), .pointer (some ⟨wr.heap.size, 0, none⟩)]] rfl rfl ?c1 ?c2 (by decide) ?c3 ?c4 ?c5 _ rfl ?_))
        case c1 =>
          intro j u hj
          match j, hj with
          | 0, hj => simp at hj; subst hj; simp [Addr.add]
        case c2 => intro u hu; simp at hu; subst hu; rfl
        case c3 => have := HO.out.2.2; unfold maxLen; omega
        case c4 => have := HO.out.2.2; omega
        case c5 => simp
        intro g2 cap2 w7 hown7 hgr7 hat7 hlt7
        obtain ⟨x7, y7, HFN⟩ := HLW.out.append hlt h3 hL HOK.out HFIN.out HR2.out HS1.out HF1.out hab HA.out HO.out HWV.out hown7 hgr7 hat7
        clear hown7 hgr7 hat7 x0 x1 q0 q1 hcell
        go_wp2_with fail
        (try simp only [Exit.inBlock, Exit.then]); refine bodyPost_ret (results_none rfl _ _ _) rfl ?_
        obtain ⟨G9, hS9, hF9⟩ := HFN.out
        exact ⟨rfl, G9, hS9, (Fr.below HB.out).trans (Le.refl s) hF9⟩
    · obtain rfl : k = rs.length := by omega
      have hrun := hLw.run
      rw [List.drop_length] at hrun
      have hrun : Run c.L n (.thn (.reach r0)) sk s' := hrun
      have HC : Hid (Calls Tryd.prog 59 #[.pointer (some ⟨a0, 0, none⟩)] wr (SPost c sk s' wr Gk)) := Lib.hid (HWK.out.reach sk s' r0 a0 wr Gk (thn_reach hrun) hLw.st (hLw.fr.ab _ _ ha0))
      have HLW := Lib.hid hLw
      clear hLw hrun
      go_wp2_with (go_at_call 59; refine HC.out.mono ?_; rintro e w3 ⟨rfl, G3, hS3, hF3⟩)
      go_end0
      exact ⟨rfl, G3, hS3, (Fr.below HB.out).trans (Le.refl s) (HLW.out.fr.trans HLW.out.le hF3)⟩
set_option maxRecDepth 100000 in
set_option maxHeartbeats 8000000 in
theorem when_learn {c : Cx} (hL : WF c.L) {n : Nat} (hW : Wk c n) {s s' : Sx} {r0 : Int} {x0p x0q : Nat} {rs : List Int} {rv : Value} {w : World} {G : Gh} (hR : Run c.L (n + 1) (.when_ (.learn r0) rs) s s') (h : Sst c w G s) (hc : cOk c.L ((.learn r0), rs)) (h3 : rs.length ≤ 3) (hph : phi c.L s + rs.length ≤ 600000) (ht : ThnV w G c.bs (openV x0p x0q) (.learn r0)) (hv : RefsV w G rv rs) :
    Calls Tryd.prog 61 #[.pointer (some ⟨c.bs, 0, none⟩), .func (.func 62) #[] #[.pointer (some ⟨x0p, 0, none⟩), .pointer (some ⟨x0q, 0, none⟩)], rv] w (SPost c s s' w G) := by
  unfold Run at hR
  have hv0 := hv
  obtain ⟨vb, vo, cp, rfl, l1, l2, l3, l4⟩ := hv
  clear l4
  have l1' : (rs.length : Int) ≤ cp := by omega
  have hM : ∀ k, w.heap.size ≤ k → ¬ G.M k := fun k hk e => by have := h.mlt k e; omega
  have hmf : ∀ (fn : Fn) (first cap : Array Value) (w : World), (Instr.makeFunc fn first cap).run Tryd.prog w = .ok (.func fn first cap) w := fun _ _ _ _ => rfl
  obtain ⟨i0, hi0, hz0, hz1, hz2⟩ := info_parts Tryd.info1
  have HB : Hid (Below w.heap.size w (((w.alloc (.cells #[.pointer (some ⟨c.bs, 0, none⟩)] 88)).alloc (.cells #[.func (.func 62) #[] #[.pointer (some ⟨x0p, 0, none⟩), .pointer (some ⟨x0q, 0, none⟩)]] 1)).alloc (.cells #[.slice (some ⟨vb, vo, none⟩) rs.length cp] 23))) := Lib.hid ((((Below.refl _ _).alloc (Nat.le_refl _) _).alloc (by simp) _).alloc (by simp; omega) _)
  have HST : Hid (Lw c n (.learn r0) rs s s' (.func (.func 62) #[] #[.pointer (some ⟨x0p, 0, none⟩), .pointer (some ⟨x0q, 0, none⟩)]) (.slice (some ⟨vb, vo, none⟩) rs.length cp) w.heap.size (((w.alloc (.cells #[.pointer (some ⟨c.bs, 0, none⟩)] 88)).alloc (.cells #[.func (.func 62) #[] #[.pointer (some ⟨x0p, 0, none⟩), .pointer (some ⟨x0q, 0, none⟩)]] 1)).alloc (.cells #[.slice (some ⟨vb, vo, none⟩) rs.length cp] 23)) (((w.alloc (.cells #[.pointer (some ⟨c.bs, 0, none⟩)] 88)).alloc (.cells #[.func (.func 62) #[] #[.pointer (some ⟨x0p, 0, none⟩), .pointer (some ⟨x0q, 0, none⟩)]] 1)).alloc (.cells #[.slice (some ⟨vb, vo, none⟩) rs.length cp] 23)) G G s 0) := Lib.hid (by
    have hf : Fr s w (((w.alloc (.cells #[.pointer (some ⟨c.bs, 0, none⟩)] 88)).alloc (.cells #[.func (.func 62) #[] #[.pointer (some ⟨x0p, 0, none⟩), .pointer (some ⟨x0q, 0, none⟩)]] 1)).alloc (.cells #[.slice (some ⟨vb, vo, none⟩) rs.length cp] 23)) G G := Fr.below HB.out
    refine ⟨hR, h.keep HB.out, Fr.refl _ _ _, Le.refl s, by omega, ⟨?_, hM _ (by omega)⟩, ⟨?_, hM _ (by omega)⟩, ⟨?_, hM _ (by omega)⟩, ThnV.fr (w := w) ht hf, hv0.fr hf⟩
    · rw [Below.heap_alloc _ _ _ (by simp; omega), Below.heap_alloc _ _ _ (by simp)]; exact heap_alloc_new _ _
    · rw [Below.heap_alloc _ _ _ (by simp)]
      have := heap_alloc_new (w.alloc (.cells #[.pointer (some ⟨c.bs, 0, none⟩)] 88)) (.cells #[.func (.func 62) #[] #[.pointer (some ⟨x0p, 0, none⟩), .pointer (some ⟨x0q, 0, none⟩)]] 1)
      rw [World.size_alloc] at this; exact this
    · have := heap_alloc_new ((w.alloc (.cells #[.pointer (some ⟨c.bs, 0, none⟩)] 88)).alloc (.cells #[.func (.func 62) #[] #[.pointer (some ⟨x0p, 0, none⟩), .pointer (some ⟨x0q, 0, none⟩)]] 1)) (.cells #[.slice (some ⟨vb, vo, none⟩) rs.length cp] 23)
      rw [World.size_alloc, World.size_alloc] at this; exact this)
  have HWK := Lib.hid hW
  have HOK := Lib.hid hc
  clear hR hv0 l2 l3 h hc hph hM hW ht
  go_enter Tryd.func61, Tryd.ntmps61
  go_wp2_with fail
  have hsz : ((((w.alloc (.cells #[.pointer (some ⟨c.bs, 0, none⟩)] 88)).alloc (.cells #[.func (.func 62) #[] #[.pointer (some ⟨x0p, 0, none⟩), .pointer (some ⟨x0q, 0, none⟩)]] 1)).alloc (.cells #[.slice (some ⟨vb, vo, none⟩) rs.length cp] 23))).heap.size = w.heap.size + 3 := by simp
  generalize (((w.alloc (.cells #[.pointer (some ⟨c.bs, 0, none⟩)] 88)).alloc (.cells #[.func (.func 62) #[] #[.pointer (some ⟨x0p, 0, none⟩), .pointer (some ⟨x0q, 0, none⟩)]] 1)).alloc (.cells #[.slice (some ⟨vb, vo, none⟩) rs.length cp] 23)) = W0 at *
  go_loopg [6, 7, 8, 11] rs.length (fun q _ _ _ u11 wr => ∃ k : Nat, k + q = rs.length ∧ u11 = .int .i64 k ∧ ∃ sk Gk, Lw c n (.learn r0) rs s s' (.func (.func 62) #[] #[.pointer (some ⟨x0p, 0, none⟩), .pointer (some ⟨x0q, 0, none⟩)]) (.slice (some ⟨vb, vo, none⟩) rs.length cp) w.heap.size W0 wr G Gk sk k)
  case atStart => exact ⟨0, by omega, rfl, s, G, HST.out⟩
  case round =>
    obtain ⟨k, hkq, rfl, sk, Gk, hLw⟩ := hrel
    have q0 := cell_of_one hLw.b0.1
    have q1 := cell_of_one hLw.b1.1
    have z0 := lt_of_heap hLw.b0.1
    by_cases hlt : k < rs.length
    · obtain ⟨s1, hr1, hr2⟩ := whenR_drop hlt hLw.run
      have hhas : hasB c.L.length (rs.getD k 0) = true := HOK.out.2 _ (by rw [List.getD_eq_getElem?_getD, List.getElem?_eq_getElem hlt]; simp)
      have hcell : wr.cell? ⟨vb, vo + k, none⟩ = some (.int .i64 (rs.getD k 0)) := by
        obtain ⟨vb', vo', cp', e, _, _, _, e4⟩ := hLw.rf
        injection e with e1 _ _
        injection e1 with e1
        injection e1 with e1 e2
        subst e1 e2
        exact e4 k hlt
      have hvb : vb < wr.heap.size := World.block_lt_of_cell? wr ⟨vb, vo + k, none⟩ hcell
      obtain ⟨r, hre⟩ : ∃ r, r = rs.getD k 0 := ⟨_, rfl⟩
      rw [← hre] at hr1 hr2 hhas hcell
      have hfin := run_fine hL n (.ask r) sk s1 hLw.st.ok hhas hr1
      have hsome := hfin.2 r rfl
      have HFIN := Lib.hid hfin.1
      have hB1 : Below wr.heap.size wr (wr.alloc (.cells #[.int .i64 (k : Nat)] 3)) := (Below.refl _ _).alloc (Nat.le_refl _) _
      have HC : Hid (Calls Tryd.prog 42 #[.pointer (some ⟨c.bs, 0, none⟩), .int .i64 r] (wr.alloc (.cells #[.int .i64 (k : Nat)] 3)) fun e w' => ∃ a G', e = .returned (.pointer (some ⟨a, 0, none⟩)) ∧ G'.ab r = some a ∧ Sst c w' G' s1 ∧ Fr sk (wr.alloc (.cells #[.int .i64 (k : Nat)] 3)) w' Gk G') := Lib.hid (HWK.out.ask sk s1 r _ Gk hr1 (hLw.st.keep hB1) hhas)
      have HLW := Lib.hid hLw
      have HB1 := Lib.hid hB1
      have hlt' : (k : Int) < rs.length := by omega
      by_cases hder : s1.der r = true
      · rw [if_pos hder] at hr2
        have HR2 := Lib.hid hr2
        clear hr1 hr2 hLw hfin hsome hre hB1 hhas
        go_wp2_with (go_at_call 42; refine HC.out.mono ?_; rintro e w1 ⟨a, G1, rfl, hab, hS1, hF1⟩; have x0 := hS1.ans0 hab; rw [hder] at x0; have HS1 := Lib.hid hS1; have HF1 := Lib.hid hF1; clear hS1 hF1)
        go_roundg (rs.length - (k + 1))
        case rel => exact ⟨k + 1, by omega, by simp, s1, G1, HLW.out.next HR2.out HFIN.out HS1.out ((Fr.below HB1.out).trans (Le.refl sk) HF1.out)⟩
        case measure => omega
      · rw [if_neg hder] at hr2
        have hder' : s1.der r = false := by simpa using hder
        have HR2 := Lib.hid hr2
        have HSO := Lib.hid hsome
        clear hr1 hr2 hLw hfin hsome hre hB1 hhas hder
        go_wp2_with (first
          | (go_at_call 42; refine HC.out.mono ?_; rintro e w1 ⟨a, G1, rfl, hab, hS1, hF1⟩; have x0 := hS1.ans0 hab; rw [hder'] at x0; have HS1 := Lib.hid hS1; have HF1 := Lib.hid hF1; obtain ⟨ws, sp, cpw, vals, x1, HA, HO, HWV⟩ := wait_form hS1 hab hder'; have hla := World.block_lt_of_cell? w1 ⟨a, 0, none⟩ x0; simp only at hla; clear hS1 hF1)
          | (at_builtin; refine wpList_append_lies _ rfl _ _ 84 rfl 0 1 i0 .nilFunc 1 8 Tryd.underlying84 hi0 hz0 hz1 hz2 rfl (by decide) _ _ _ rfl (HO.out.1.alloc _) ⟨w1.heap.size, 0, none⟩ 1 1 [.func (.func 79) #[] #[.pointer (some ⟨w.heap.size, 0, none⟩), .pointer (some ⟨w.heap.size + 1, 0, none⟩), .pointer (some ⟨w.heap.size + 1 + 1, 0, none⟩), .pointer (some ⟨wr.heap.size, 0, none⟩)]] rfl rfl ?c1 ?c2 (by decide) ?c3 ?c4 ?c5 _ rfl ?_))
        case c1 =>
          intro j u hj
          match j, hj with
          | 0, hj => simp at hj; subst hj; simp [Addr.add]
        case c2 => intro u hu; simp at hu; subst hu; rfl
        case c3 => have := HO.out.2.2; unfold maxLen; omega
        case c4 => have := HO.out.2.2; omega
        case c5 => simp
        intro g2 cap2 w7 hown7 hgr7 hat7 hlt7
        obtain ⟨x7, y7, HFN⟩ := HLW.out.append hlt h3 hL HOK.out HFIN.out HR2.out HS1.out HF1.out hab HA.out HO.out HWV.out hown7 hgr7 hat7
        clear hown7 hgr7 hat7 x0 x1 q0 q1 hcell
        go_wp2_with fail
        (try simp only [Exit.inBlock, Exit.then]); refine bodyPost_ret (results_none rfl _ _ _) rfl ?_
        obtain ⟨G9, hS9, hF9⟩ := HFN.out
        exact ⟨rfl, G9, hS9, (Fr.below HB.out).trans (Le.refl s) hF9⟩
    · obtain rfl : k = rs.length := by omega
      have hrun := hLw.run
      rw [List.drop_length] at hrun
      have hrun : Run c.L n (.thn (.learn r0)) sk s' := hrun
      have HC : Hid (Calls Tryd.prog 62 #[.pointer (some ⟨x0p, 0, none⟩), .pointer (some ⟨x0q, 0, none⟩)] wr (SPost c sk s' wr Gk)) := Lib.hid (open1_any HWK.out (thn_learn hrun) hLw.st HOK.out.1 hLw.th)
      have HLW := Lib.hid hLw
      clear hLw hrun
      go_wp2_with (go_at_call 62; refine HC.out.mono ?_; rintro e w3 ⟨rfl, G3, hS3, hF3⟩)
      go_end0
      exact ⟨rfl, G3, hS3, (Fr.below HB.out).trans (Le.refl s) (HLW.out.fr.trans HLW.out.le hF3)⟩
theorem when_step {c : Cx} (hL : WF c.L) {n : Nat} (hW : Wk c n) {s s' : Sx} {t : Thn} {rs : List Int} {tv rv : Value} {w : World} {G : Gh} (hR : Run c.L (n + 1) (.when_ t rs) s s') (h : Sst c w G s) (hc : cOk c.L (t, rs)) (h3 : rs.length ≤ 3) (hph : phi c.L s + rs.length ≤ 600000) (ht : ThnV w G c.bs tv t) (hv : RefsV w G rv rs) :
    Calls Tryd.prog 61 #[.pointer (some ⟨c.bs, 0, none⟩), tv, rv] w (SPost c s s' w G) := by
  cases t with
  | reach r0 =>
    obtain ⟨a0, h1, rfl⟩ := ht
    exact when_reach hL hW hR h hc h3 hph h1 hv
  | learn r0 =>
    have ht' := ht
    obtain ⟨p0, q0, k, n, a, b, rfl, _⟩ := ht'
    exact when_learn hL hW hR h hc h3 hph ht hv
end Go.Proofs.YtlckajnbmkkpeaaDoor
