/- Layer 3: walks of a search: a Seal is opened, a term is learned; all together. -/
import Derived.Test.YtlckajnbmkkpeaaDoorXi
namespace Go.Proofs.YtlckajnbmkkpeaaDoor
open Go.RowKit Go.Maps

set_option maxRecDepth 100000 in
set_option maxHeartbeats 4000000 in
theorem open_any {c : Cx} {n : Nat} (hW : Wk c n) {s s' : Sx} {k n1 a1 b1 e1 : Int} {w : World} {G : Gh} (hR : Run c.L n (.when_ (.learn e1) [a1]) s s') (h : Sst c w G s) (ho : cOk c.L (.learn e1, [a1])) (hp : phi c.L s + 1 ≤ 600000) :
    Calls Tryd.prog 45 #[.pointer (some ⟨c.bs, 0, none⟩), .agg #[.int .i64 k, .int .u64 n1, .int .i64 a1, .int .i64 b1, .int .i64 e1]] w (SPost c s s' w G) := by
  have hM : ∀ k, w.heap.size ≤ k → ¬ G.M k := fun k hk e => by have := h.mlt k e; omega
  have hmf : ∀ (fn : Fn) (first cap : Array Value) (w : World), (Instr.makeFunc fn first cap).run Tryd.prog w = .ok (.func fn first cap) w := fun _ _ _ _ => rfl
  have HB : Hid (Below w.heap.size w (((w.alloc (.cells #[.pointer (some ⟨c.bs, 0, none⟩)] 88)).alloc (.cells #[.int .i64 k, .int .u64 n1, .int .i64 a1, .int .i64 b1, .int .i64 e1] 67)).alloc (.cells #[.int .i64 a1] 3))) := Lib.hid ((((Below.refl _ _).alloc (Nat.le_refl _) _).alloc (by simp) _).alloc (by simp; omega) _)
  have HC : Hid (Calls Tryd.prog 61 #[.pointer (some ⟨c.bs, 0, none⟩), .func (.func 62) #[] #[.pointer (some ⟨w.heap.size, 0, none⟩), .pointer (some ⟨w.heap.size + 1, 0, none⟩)], .slice (some ⟨w.heap.size + 1 + 1, 0, none⟩) 1 1] (((w.alloc (.cells #[.pointer (some ⟨c.bs, 0, none⟩)] 88)).alloc (.cells #[.int .i64 k, .int .u64 n1, .int .i64 a1, .int .i64 b1, .int .i64 e1] 67)).alloc (.cells #[.int .i64 a1] 3)) (SPost c s s' (((w.alloc (.cells #[.pointer (some ⟨c.bs, 0, none⟩)] 88)).alloc (.cells #[.int .i64 k, .int .u64 n1, .int .i64 a1, .int .i64 b1, .int .i64 e1] 67)).alloc (.cells #[.int .i64 a1] 3)) G)) := Lib.hid (by
    refine hW.when_ s s' (.learn e1) [a1] _ _ _ G hR (h.keep HB.out) ho (by simp) (by simpa using hp) ⟨w.heap.size, w.heap.size + 1, k, n1, a1, b1, rfl, ⟨?_, hM _ (by omega)⟩, ⟨?_, hM _ (by omega)⟩⟩ ?_
    · rw [Below.heap_alloc _ _ _ (by simp; omega), Below.heap_alloc _ _ _ (by simp)]; exact heap_alloc_new _ _
    · rw [Below.heap_alloc _ _ _ (by simp)]
      have := heap_alloc_new (w.alloc (.cells #[.pointer (some ⟨c.bs, 0, none⟩)] 88)) (.cells #[.int .i64 k, .int .u64 n1, .int .i64 a1, .int .i64 b1, .int .i64 e1] 67)
      rw [World.size_alloc] at this; exact this
    · exact refs_new (k := w.heap.size + 1 + 1) (rs := [a1]) (by simp) rfl rfl (hM _ (by omega)))
  clear h hW hR ho hp hM
  go_enter Tryd.func45, Tryd.ntmps45
  go_wp2_with (go_at_call 61; refine HC.out.mono ?_; rintro e w1 ⟨rfl, hg⟩)
  go_end0
  exact SPost.from ⟨rfl, hg⟩ HB.out

/-- What is behind the term that is learned: its content. -/
def Cont (c : Cx) (n : Nat) (r : Int) (s2 s' : Sx) : Prop :=
  if (nd c.L r).k = 8 then ∃ s3, Run c.L n (.learn (nd c.L r).a) s2 s3 ∧ Run c.L n (.learn (nd c.L r).b) s3 s'
  else if (nd c.L r).k = 7 then Run c.L n (.when_ (.learn (nd c.L r).c) [(nd c.L r).a]) s2 s' else s' = s2
set_option maxRecDepth 100000 in
set_option maxHeartbeats 4000000 in
theorem learn_old {c : Cx} {s : Sx} {r : Int} {w : World} {G : Gh} (h : Sst c w G s) (hr : hasB c.L.length r = true) (hK : s.K r = true) :
    Calls Tryd.prog 46 #[.pointer (some ⟨c.bs, 0, none⟩), .int .i64 r] w (SPost c s s w G) := by
  have c0 := h.s0
  have HK := Lib.hid (knows_any r (has_i64 h hr) w h.kw)
  rw [hK] at HK
  have HS := Lib.hid h
  clear h
  go_enter Tryd.func46, Tryd.ntmps46
  go_wp2_with (go_at_call 16; refine HK.out.mono ?_; rintro e w1 ⟨rfl, hb1⟩)
  (try simp only [Exit.inBlock, Exit.then]); refine bodyPost_ret (results_none rfl _ _ _) rfl ?_
  exact ⟨rfl, G, HS.out.keep hb1, Fr.below hb1⟩
theorem know_store {c : Cx} {s : Sx} {r : Int} {w : World} {G : Gh} (h : Sst c w G s) (hr : hasB c.L.length r = true) (hK : s.K r = false) :
    ∃ w3, (Instr.mapUpdate 73 (.map (some c.mq)) (.int .i64 r) (.agg #[])).run Tryd.prog w = .ok () w3 ∧ Sst c w3 G (s.know r) ∧ Fr s w w3 G G := by
  obtain ⟨w3, h1, h2, h3⟩ := h.kn.store (cnt_small h _) (has_i64 h hr)
  exact ⟨w3, h1, h.know hr hK h2 h3⟩
set_option maxRecDepth 100000 in
set_option maxHeartbeats 8000000 in
theorem learn_plain {c : Cx} (hL : WF c.L) {n : Nat} (hW : Wk c n) {s s1 s2 s' : Sx} {r : Int} {w : World} {G : Gh} (h : Sst c w G s) (hr : hasB c.L.length r = true) (hK : s.K r = false) (h1 : Run c.L n (.ask r) (s.know r) s1) (h2 : Run c.L n (.reach r) s1 s2) (h3 : s' = s2) (k8 : (nd c.L r).k ≠ 8) (k7 : (nd c.L r).k ≠ 7) :
    Calls Tryd.prog 46 #[.pointer (some ⟨c.bs, 0, none⟩), .int .i64 r] w (SPost c s s' w G) := by
  have c0 := h.s0
  have HK := Lib.hid (knows_any r (has_i64 h hr) w h.kw)
  rw [hK] at HK
  have HS := Lib.hid h
  have HW := Lib.hid hW
  have f1 := (run_fine hL n (.ask r) _ _ (h.ok.know hr) hr h1).1
  have f2 := (run_fine hL n (.reach r) _ _ f1.ok hr h2).1
  have HLE : Hid (Le s s1 ∧ Le s s2) := Lib.hid ⟨(Le.know s r).trans f1.le, ((Le.know s r).trans f1.le).trans f2.le⟩
  have H1 := Lib.hid h1; have H2 := Lib.hid h2
  subst h3
  clear h hW h1 h2 f1 f2
  go_enter Tryd.func46, Tryd.ntmps46
  go_wp2_with (first
    | (go_at_call 16; refine HK.out.mono ?_; rintro e w1 ⟨rfl, hb1⟩; clear c0
       have hS1 := HS.out.keep hb1
       have k0 := hS1.s0; have k1 := hS1.kw.c2
       obtain ⟨w3, hup, hS3, hF3⟩ := know_store hS1 hr hK
       have j0 := hS3.s0
       have HA := Lib.hid (HW.out.ask _ _ r w3 G H1.out hS3 hr)
       have HF3 : Hid (Fr s w w3 G G) := Lib.hid ((Fr.below hb1).trans (Le.refl s) hF3)
       clear hS1 hS3 hF3)
    | (go_at_call 42; refine HA.out.mono ?_; rintro e w4 ⟨a, G4, rfl, hab, hS4, hF4⟩
       have HR := Lib.hid (HW.out.reach _ _ r a w4 G4 H2.out hS4 hab)
       have HF4 : Hid (Fr s w w4 G G4) := Lib.hid (HF3.out.trans (Le.know s r) hF4)
       have i0 := hS4.s0
       clear hS4 hF4)
    | (go_at_call 59; refine HR.out.mono ?_; rintro e w5 ⟨rfl, G5, hS5, hF5⟩
       have g0 := hS5.s0; have g1 := hS5.kw.c0
       have HG := Lib.hid (get_has hL hr hS5.ar)
       have HS5 := Lib.hid hS5; have HF5 : Hid (Fr s w w5 G G5) := Lib.hid (HF4.out.trans HLE.out.1 hF5)
       clear hS5 hF5)
    | (go_at_call 47; refine HG.out.mono ?_; rintro e w6 ⟨rfl, hb6⟩))
  go_end0
  exact ⟨rfl, G5, HS5.out.keep (hb6.alloc hb6.size _), HF5.out.trans HLE.out.2 (Fr.below (hb6.alloc hb6.size _))⟩
set_option maxRecDepth 100000 in
set_option maxHeartbeats 8000000 in
theorem learn_seal {c : Cx} (hL : WF c.L) {n : Nat} (hW : Wk c n) {s s1 s2 s' : Sx} {r : Int} {w : World} {G : Gh} (h : Sst c w G s) (hr : hasB c.L.length r = true) (hK : s.K r = false) (h1 : Run c.L n (.ask r) (s.know r) s1) (h2 : Run c.L n (.reach r) s1 s2) (h3 : Run c.L n (.when_ (.learn (nd c.L r).c) [(nd c.L r).a]) s2 s') (k7 : (nd c.L r).k = 7) :
    Calls Tryd.prog 46 #[.pointer (some ⟨c.bs, 0, none⟩), .int .i64 r] w (SPost c s s' w G) := by
  have c0 := h.s0
  have HK := Lib.hid (knows_any r (has_i64 h hr) w h.kw)
  rw [hK] at HK
  have HS := Lib.hid h
  have HW := Lib.hid hW
  have f1 := (run_fine hL n (.ask r) _ _ (h.ok.know hr) hr h1).1
  have f2 := (run_fine hL n (.reach r) _ _ f1.ok hr h2).1
  have HLE : Hid (Le s s1 ∧ Le s s2) := Lib.hid ⟨(Le.know s r).trans f1.le, ((Le.know s r).trans f1.le).trans f2.le⟩
  obtain ⟨pa, _, pc⟩ := nd_has hL hr
  have H1 := Lib.hid h1; have H2 := Lib.hid h2
  have HO : Hid (∀ w1 G1, Sst c w1 G1 s2 → Calls Tryd.prog 45 #[.pointer (some ⟨c.bs, 0, none⟩), .agg #[.int .i64 7, .int .u64 (nd c.L r).n, .int .i64 (nd c.L r).a, .int .i64 (nd c.L r).b, .int .i64 (nd c.L r).c]] w1 (SPost c s2 s' w1 G1)) := Lib.hid (fun w1 G1 hs => open_any hW h3 hs ⟨pc, by simpa using pa⟩ (by
    have e0 := phi_know (L := c.L) (s := s) hr (by rw [hK]; simp)
    have := f1.ph; have := f2.ph; have := h.ph
    simp only [slack] at *
    omega))
  clear h hW h1 h2 f1 f2 pa pc h3
  go_enter Tryd.func46, Tryd.ntmps46
  go_wp2_with (first
    | (go_at_call 16; refine HK.out.mono ?_; rintro e w1 ⟨rfl, hb1⟩; clear c0
       have hS1 := HS.out.keep hb1
       have k0 := hS1.s0; have k1 := hS1.kw.c2
       obtain ⟨w3, hup, hS3, hF3⟩ := know_store hS1 hr hK
       have j0 := hS3.s0
       have HA := Lib.hid (HW.out.ask _ _ r w3 G H1.out hS3 hr)
       have HF3 : Hid (Fr s w w3 G G) := Lib.hid ((Fr.below hb1).trans (Le.refl s) hF3)
       clear hS1 hS3 hF3)
    | (go_at_call 42; refine HA.out.mono ?_; rintro e w4 ⟨a, G4, rfl, hab, hS4, hF4⟩
       have HR := Lib.hid (HW.out.reach _ _ r a w4 G4 H2.out hS4 hab)
       have HF4 : Hid (Fr s w w4 G G4) := Lib.hid (HF3.out.trans (Le.know s r) hF4)
       have i0 := hS4.s0
       clear hS4 hF4)
    | (go_at_call 59; refine HR.out.mono ?_; rintro e w5 ⟨rfl, G5, hS5, hF5⟩
       have g0 := hS5.s0; have g1 := hS5.kw.c0
       have HG := Lib.hid (get_has hL hr hS5.ar)
       have HS5 := Lib.hid hS5; have HF5 : Hid (Fr s w w5 G G5) := Lib.hid (HF4.out.trans HLE.out.1 hF5)
       clear hS5 hF5)
    | (go_at_call 47; refine HG.out.mono ?_; rintro e w6 ⟨rfl, hb6⟩; rw [k7])
    | (go_at_call 45; refine (HO.out _ G5 (HS5.out.keep (hb6.alloc hb6.size _))).mono ?_; rintro e w8 ⟨rfl, G8, hS8, hF8⟩))
  go_end0
  exact ⟨rfl, G8, hS8, (HF5.out.trans HLE.out.2 (Fr.below (hb6.alloc hb6.size _))).trans HLE.out.2 hF8⟩
set_option maxRecDepth 100000 in
set_option maxHeartbeats 8000000 in
theorem learn_pair {c : Cx} (hL : WF c.L) {n : Nat} (hW : Wk c n) {s s1 s2 s3 s' : Sx} {r : Int} {w : World} {G : Gh} (h : Sst c w G s) (hr : hasB c.L.length r = true) (hK : s.K r = false) (h1 : Run c.L n (.ask r) (s.know r) s1) (h2 : Run c.L n (.reach r) s1 s2) (h3 : Run c.L n (.learn (nd c.L r).a) s2 s3) (h4 : Run c.L n (.learn (nd c.L r).b) s3 s') (k8 : (nd c.L r).k = 8) :
    Calls Tryd.prog 46 #[.pointer (some ⟨c.bs, 0, none⟩), .int .i64 r] w (SPost c s s' w G) := by
  have c0 := h.s0
  have HK := Lib.hid (knows_any r (has_i64 h hr) w h.kw)
  rw [hK] at HK
  have HS := Lib.hid h
  have HW := Lib.hid hW
  have f1 := (run_fine hL n (.ask r) _ _ (h.ok.know hr) hr h1).1
  have f2 := (run_fine hL n (.reach r) _ _ f1.ok hr h2).1
  have HLE : Hid (Le s s1 ∧ Le s s2) := Lib.hid ⟨(Le.know s r).trans f1.le, ((Le.know s r).trans f1.le).trans f2.le⟩
  obtain ⟨pa, pb, _⟩ := nd_has hL hr
  have f3 := (run_fine hL n (.learn (nd c.L r).a) _ _ f2.ok pa h3).1
  have H1 := Lib.hid h1; have H2 := Lib.hid h2
  have HL1 : Hid (∀ w1 G1, Sst c w1 G1 s2 → Calls Tryd.prog 46 #[.pointer (some ⟨c.bs, 0, none⟩), .int .i64 (nd c.L r).a] w1 (SPost c s2 s3 w1 G1)) := Lib.hid (fun w1 G1 hs => hW.learn _ _ _ w1 G1 h3 hs pa)
  have HL2 : Hid (∀ w1 G1, Sst c w1 G1 s3 → Calls Tryd.prog 46 #[.pointer (some ⟨c.bs, 0, none⟩), .int .i64 (nd c.L r).b] w1 (SPost c s3 s' w1 G1)) := Lib.hid (fun w1 G1 hs => hW.learn _ _ _ w1 G1 h4 hs pb)
  have HLF := Lib.hid (HLE.out.2.trans f3.le)
  clear h hW h1 h2 f1 f2 f3 pa pb h3 h4
  go_enter Tryd.func46, Tryd.ntmps46
  go_wp2_with (first
    | (go_at_call 16; refine HK.out.mono ?_; rintro e w1 ⟨rfl, hb1⟩; clear c0
       have hS1 := HS.out.keep hb1
       have k0 := hS1.s0; have k1 := hS1.kw.c2
       obtain ⟨w3, hup, hS3, hF3⟩ := know_store hS1 hr hK
       have j0 := hS3.s0
       have HA := Lib.hid (HW.out.ask _ _ r w3 G H1.out hS3 hr)
       have HF3 : Hid (Fr s w w3 G G) := Lib.hid ((Fr.below hb1).trans (Le.refl s) hF3)
       clear hS1 hS3 hF3)
    | (go_at_call 42; refine HA.out.mono ?_; rintro e w4 ⟨a, G4, rfl, hab, hS4, hF4⟩
       have HR := Lib.hid (HW.out.reach _ _ r a w4 G4 H2.out hS4 hab)
       have HF4 : Hid (Fr s w w4 G G4) := Lib.hid (HF3.out.trans (Le.know s r) hF4)
       have i0 := hS4.s0
       clear hS4 hF4)
    | (go_at_call 59; refine HR.out.mono ?_; rintro e w5 ⟨rfl, G5, hS5, hF5⟩
       have g0 := hS5.s0; have g1 := hS5.kw.c0
       have HG := Lib.hid (get_has hL hr hS5.ar)
       have HS5 := Lib.hid hS5; have HF5 : Hid (Fr s w w5 G G5) := Lib.hid (HF4.out.trans HLE.out.1 hF5)
       clear hS5 hF5)
    | (go_at_call 47; refine HG.out.mono ?_; rintro e w6 ⟨rfl, hb6⟩; rw [k8])
    | (go_at_call 46; have _h := hb6; refine (HL1.out _ G5 (HS5.out.keep (hb6.alloc hb6.size _))).mono ?_; rintro e w8 ⟨rfl, G8, hS8, hF8⟩
       have hF9 : Fr s w w8 G G8 := (HF5.out.trans HLE.out.2 (Fr.below (hb6.alloc hb6.size _))).trans HLE.out.2 hF8
       have HF9 := Lib.hid hF9
       have hB : w8.cell? ⟨w6.heap.size, 3, none⟩ = some (.int .i64 (nd c.L r).b) := by
         have hk := hF8.kept w6.heap.size (by simp) (fun e => by have := HS5.out.mlt _ e; have := hb6.size; omega)
         rw [World.cell?_of_block hk, cell_of_row _ _ 3 _ _ _ (heap_alloc_new _ _)]; rfl
       have HS8 := Lib.hid hS8
       clear hS8 hF8 hF9 hb6 HS5)
    | (go_at_call 46; refine (HL2.out _ G8 HS8.out).mono ?_; rintro e w10 ⟨rfl, G10, hS10, hF10⟩))
  go_end0
  exact ⟨rfl, G10, hS10, HF9.out.trans HLF.out hF10⟩
theorem learn_step {c : Cx} (hL : WF c.L) {n : Nat} (hW : Wk c n) {s s' : Sx} {r : Int} {w : World} {G : Gh} (hR : Run c.L (n + 1) (.learn r) s s') (h : Sst c w G s) (hr : hasB c.L.length r = true) :
    Calls Tryd.prog 46 #[.pointer (some ⟨c.bs, 0, none⟩), .int .i64 r] w (SPost c s s' w G) := by
  unfold Run at hR
  cases hK : s.K r with
  | true =>
    rw [if_pos hK] at hR
    subst hR
    exact learn_old h hr hK
  | false =>
    rw [if_neg (by rw [hK]; simp)] at hR
    obtain ⟨s1, s2, h1, h2, h3⟩ := hR
    by_cases k8 : (nd c.L r).k = 8
    · rw [if_pos k8] at h3
      obtain ⟨s3, h4, h5⟩ := h3
      exact learn_pair hL hW h hr hK h1 h2 h4 h5 k8
    · rw [if_neg k8] at h3
      by_cases k7 : (nd c.L r).k = 7
      · rw [if_pos k7] at h3
        exact learn_seal hL hW h hr hK h1 h2 h3 k7
      · rw [if_neg k7] at h3
        exact learn_plain hL hW h hr hK h1 h2 h3 k8 k7
/-- The functions of a search do what the machine does, however deep. -/
theorem wk_any (c : Cx) (hL : WF c.L) : ∀ n, Wk c n
  | 0 => ⟨fun _ _ _ _ _ h => h.elim, fun _ _ _ _ _ _ h => h.elim, fun _ _ _ _ _ _ _ _ h => h.elim, fun _ _ _ _ _ _ h => h.elim, fun _ _ _ _ _ h => h.elim⟩
  | n + 1 => by
    have ih := wk_any c hL n
    exact ⟨fun _ _ _ _ _ hR h hr => ask_step hL ih hR h hr, fun _ _ _ _ _ _ hR h hp hr ha => compose_step hL ih hR h hp hr ha, fun _ _ _ _ _ _ _ _ hR h hc h3 hp ht hv => when_step hL ih hR h hc h3 hp ht hv, fun _ _ _ _ _ _ hR h ha => reach_step ih hL hR h ha, fun _ _ _ _ _ hR h hr => learn_step hL ih hR h hr⟩
end Go.Proofs.YtlckajnbmkkpeaaDoor
