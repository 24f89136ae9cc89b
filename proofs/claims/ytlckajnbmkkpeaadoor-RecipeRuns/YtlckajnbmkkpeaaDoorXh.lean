/- Layer 3: walks of a search: a term is made of its parts. -/
import Derived.Test.YtlckajnbmkkpeaaDoorXg
import Derived.Deep.RegionHeld3
namespace Go.Proofs.YtlckajnbmkkpeaaDoor
open Go.RowKit Go.Maps

/-- A row of ints that is new. -/
theorem refs_new {w : World} {G : Gh} {rs : List Int} {k n : Nat} (hk : w.heap.size = k) (hn : rs.length = n) {cs : Array Value} (hc : cs = (rs.map (Value.int .i64)).toArray) (hM : ¬ G.M k) : RefsV (w.alloc (.cells cs 3)) G (.slice (some ⟨k, 0, none⟩) n n) rs := by
  subst hc hk hn
  refine ⟨w.heap.size, 0, rs.length, rfl, Nat.le_refl _, by simp, hM, fun i hi => ?_⟩
  rw [cell_of_row _ _ _ _ _ _ (heap_alloc_new w _)]
  simp [List.getD, hi]
set_option maxRecDepth 100000 in
set_option maxHeartbeats 4000000 in
theorem compose_free {c : Cx} {s s' : Sx} {a : Nat} {w : World} {G : Gh} (k n1 a1 b1 e1 : Int) (hk : k = 0 ∨ k = 9 ∨ (k = 1 ∧ 4294967296 ≤ n1))
    (hC : ∀ w1, Below w.heap.size w w1 → Calls Tryd.prog 59 #[.pointer (some ⟨a, 0, none⟩)] w1 (SPost c s s' w1 G)) :
    Calls Tryd.prog 58 #[.pointer (some ⟨c.bs, 0, none⟩), .agg #[.int .i64 k, .int .u64 n1, .int .i64 a1, .int .i64 b1, .int .i64 e1], .func (.func 59) #[.pointer (some ⟨a, 0, none⟩)] #[]] w (SPost c s s' w G) := by
  have HC := Lib.hid hC
  clear hC
  rcases hk with rfl | rfl | ⟨rfl, hn⟩
  · go_enter Tryd.func58, Tryd.ntmps58
    go_wp2_with (go_at_call 59; refine (HC.out _ ((Below.refl _ _).alloc (Nat.le_refl _) _)).mono ?_; rintro e w1 ⟨rfl, hg⟩)
    go_end0
    exact SPost.from ⟨rfl, hg⟩ ((Below.refl _ _).alloc (Nat.le_refl _) _)
  · go_enter Tryd.func58, Tryd.ntmps58
    go_wp2_with (go_at_call 59; refine (HC.out _ ((Below.refl _ _).alloc (Nat.le_refl _) _)).mono ?_; rintro e w1 ⟨rfl, hg⟩)
    go_end0
    exact SPost.from ⟨rfl, hg⟩ ((Below.refl _ _).alloc (Nat.le_refl _) _)
  · go_enter Tryd.func58, Tryd.ntmps58
    go_wp2_with (go_at_call 59; refine (HC.out _ ((Below.refl _ _).alloc (Nat.le_refl _) _)).mono ?_; rintro e w1 ⟨rfl, hg⟩)
    go_end0
    exact SPost.from ⟨rfl, hg⟩ ((Below.refl _ _).alloc (Nat.le_refl _) _)

set_option maxRecDepth 100000 in
set_option maxHeartbeats 4000000 in
theorem compose_name {c : Cx} {s : Sx} {a : Nat} {w : World} {G : Gh} (n1 a1 b1 e1 : Int) (hn : n1 < 4294967296) (h : Sst c w G s) :
    Calls Tryd.prog 58 #[.pointer (some ⟨c.bs, 0, none⟩), .agg #[.int .i64 1, .int .u64 n1, .int .i64 a1, .int .i64 b1, .int .i64 e1], .func (.func 59) #[.pointer (some ⟨a, 0, none⟩)] #[]] w (SPost c s s w G) := by
  have HC := Lib.hid h
  clear h
  go_enter Tryd.func58, Tryd.ntmps58
  go_wp2_with fail
  go_end0
  exact ⟨rfl, G, HC.out.keep ((Below.refl _ _).alloc (Nat.le_refl _) _), Fr.below ((Below.refl _ _).alloc (Nat.le_refl _) _)⟩

set_option maxRecDepth 100000 in
set_option maxHeartbeats 4000000 in
theorem compose_parts {c : Cx} {s s' : Sx} {a : Nat} {w : World} {G : Gh} (k n1 a1 b1 e1 : Int) (h0 : k ≠ 0) (h1 : k ≠ 1) (h3 : k ≠ 3) (h9 : k ≠ 9) (h : Sst c w G s)
    (hC : ∀ w1 rv, Below w.heap.size w w1 → RefsV w1 G rv [a1, b1, e1] → Calls Tryd.prog 61 #[.pointer (some ⟨c.bs, 0, none⟩), reachV a, rv] w1 (SPost c s s' w1 G)) :
    Calls Tryd.prog 58 #[.pointer (some ⟨c.bs, 0, none⟩), .agg #[.int .i64 k, .int .u64 n1, .int .i64 a1, .int .i64 b1, .int .i64 e1], .func (.func 59) #[.pointer (some ⟨a, 0, none⟩)] #[]] w (SPost c s s' w G) := by
  have HC := Lib.hid hC
  have HM : Hid (∀ k, w.heap.size ≤ k → ¬ G.M k) := Lib.hid (fun k hk e => by have := h.mlt k e; omega)
  clear hC h
  go_enter Tryd.func58, Tryd.ntmps58
  go_wp2_with (go_at_call 61; refine (HC.out _ _ (((Below.refl _ _).alloc (Nat.le_refl _) _).alloc (by simp) _) (refs_new (by simp) rfl (by simp) (HM.out _ (by omega)))).mono ?_; rintro e w1 ⟨rfl, hg⟩)
  go_end0
  exact SPost.from ⟨rfl, hg⟩ (((Below.refl _ _).alloc (Nat.le_refl _) _).alloc (by simp) _)
set_option maxRecDepth 100000 in
set_option maxHeartbeats 4000000 in
theorem compose_dh {c : Cx} {s s1 s' : Sx} {a : Nat} {w : World} {G : Gh} (n1 a1 b1 e1 : Int) (h : Sst c w G s) (ha : i64ok a1) (hb : i64ok b1)
    (hC : ∀ w1 rv, Below w.heap.size w w1 → RefsV w1 G rv [a1, pubR c.L b1] → Calls Tryd.prog 61 #[.pointer (some ⟨c.bs, 0, none⟩), reachV a, rv] w1 (SPost c s s1 w1 G))
    (hD : ∀ w1 G1 rv, Sst c w1 G1 s1 → (∀ r x, G.ab r = some x → G1.ab r = some x) → RefsV w1 G1 rv [b1, pubR c.L a1] → Calls Tryd.prog 61 #[.pointer (some ⟨c.bs, 0, none⟩), reachV a, rv] w1 (SPost c s1 s' w1 G1)) (hle : Le s s1) :
    Calls Tryd.prog 58 #[.pointer (some ⟨c.bs, 0, none⟩), .agg #[.int .i64 3, .int .u64 n1, .int .i64 a1, .int .i64 b1, .int .i64 e1], .func (.func 59) #[.pointer (some ⟨a, 0, none⟩)] #[]] w (SPost c s s' w G) := by
  have HC := Lib.hid hC
  have HD := Lib.hid hD
  have HM : Hid (∀ k, w.heap.size ≤ k → ¬ G.M k) := Lib.hid (fun k hk e => by have := h.mlt k e; omega)
  have HPB : Hid (∀ w1, Below w.heap.size w w1 → Calls Tryd.prog 78 #[.pointer (some ⟨c.bs, 0, none⟩), .int .i64 b1] w1 fun e w' => e = .returned (.int .i64 (pubR c.L b1)) ∧ Below w1.heap.size w1 w') := Lib.hid (fun w1 hb1 => public_any (h.keep hb1) b1 hb)
  have HPA : Hid (∀ w1 G1, Sst c w1 G1 s1 → Calls Tryd.prog 78 #[.pointer (some ⟨c.bs, 0, none⟩), .int .i64 a1] w1 fun e w' => e = .returned (.int .i64 (pubR c.L a1)) ∧ Below w1.heap.size w1 w') := Lib.hid (fun w1 G1 h1 => public_any h1 a1 ha)
  have HLE := Lib.hid hle
  clear hC hD h hle ha hb
  go_enter Tryd.func58, Tryd.ntmps58
  go_wp2_with fail
  have hB0 : Below w.heap.size w (w.alloc (.cells #[.int .i64 3, .int .u64 n1, .int .i64 a1, .int .i64 b1, .int .i64 e1] 67)) := (Below.refl _ _).alloc (Nat.le_refl _) _
  have hbx := heap_alloc_new w (.cells #[.int .i64 3, .int .u64 n1, .int .i64 a1, .int .i64 b1, .int .i64 e1] 67)
  generalize w.alloc (.cells #[.int .i64 3, .int .u64 n1, .int .i64 a1, .int .i64 b1, .int .i64 e1] 67) = W0 at *
  have HCE : Hid (∀ w1 : World, w1.heap[w.heap.size]? = W0.heap[w.heap.size]? → w1.cell? ⟨w.heap.size, 2, none⟩ = some (.int .i64 a1) ∧ w1.cell? ⟨w.heap.size, 3, none⟩ = some (.int .i64 b1)) := Lib.hid (fun w1 e => ⟨by rw [cell_of_row w1 w.heap.size 2 _ _ _ (e.trans hbx)]; rfl, by rw [cell_of_row w1 w.heap.size 3 _ _ _ (e.trans hbx)]; rfl⟩)
  have hlt0 := lt_of_heap hbx
  have HLT := Lib.hid hlt0
  obtain ⟨cA, cB⟩ := HCE.out W0 rfl
  clear hbx
  go_region_held3 (fun w' => w'.cell? ⟨w.heap.size, 2, none⟩ = some (.int .i64 a1) ∧ w'.cell? ⟨w.heap.size, 3, none⟩ = some (.int .i64 b1)) (go_keep)
    (first
      | (go_at_call 78; refine (HPB.out _ hB0.drew).mono ?_; rintro e w2 ⟨rfl, hb2⟩; have hb2' := hB0.drew.trans (hb2.mono hB0.size); obtain ⟨cA2, cB2⟩ := HCE.out w2 (hb2.block _ HLT.out); have hlt2 : w.heap.size < w2.heap.size := Nat.lt_of_lt_of_le HLT.out hb2.size)
      | (go_at_call 61; refine (HC.out _ _ (hb2'.alloc hb2'.size _) (refs_new rfl rfl (by simp) (HM.out _ (Nat.le_of_lt hlt2)))).mono ?_; rintro e w3 ⟨rfl, G3, hS3, hF3⟩; obtain ⟨cA3, cB3⟩ := HCE.out w3 ((hF3.kept _ (by simp; omega) (HM.out _ (Nat.le_refl _))).trans ((Below.heap_alloc _ _ _ hlt2).trans (hb2.block _ HLT.out)))))
  go_wp2_with fail
  have HS3 := Lib.hid hS3
  have HMM : Hid (∀ k, w3.heap.size ≤ k → ¬ G3.M k) := Lib.hid (fun k hk e => by have := HS3.out.mlt k e; omega)
  have HF3 : Hid (Fr s w w3 G G3) := Lib.hid ((Fr.below (hb2'.alloc hb2'.size _)).trans (Le.refl s) hF3)
  have HCF : Hid (∀ w1 : World, w1.heap[w.heap.size]? = w3.heap[w.heap.size]? → w1.cell? ⟨w.heap.size, 2, none⟩ = some (.int .i64 a1) ∧ w1.cell? ⟨w.heap.size, 3, none⟩ = some (.int .i64 b1)) := Lib.hid (fun w1 e => HCE.out w1 (e.trans ((hF3.kept _ (by simp; omega) (HM.out _ (Nat.le_refl _))).trans ((Below.heap_alloc _ _ _ hlt2).trans (hb2.block _ HLT.out)))))
  have HNM : Hid (¬ G3.M w.heap.size) := Lib.hid (hF3.not (by simp; omega) (HM.out _ (Nat.le_refl _)))
  have HLU : Hid (w.heap.size < w3.heap.size) := Lib.hid (by have := hF3.size; simp at this; omega)
  clear hS3 hF3 cA2 cB2 hb2 hb2' hB0 cA cB hlt2 hlt0
  go_region_held3 (fun w' => w'.cell? ⟨w.heap.size, 2, none⟩ = some (.int .i64 a1) ∧ w'.cell? ⟨w.heap.size, 3, none⟩ = some (.int .i64 b1)) (go_keep)
    (first
      | (go_at_call 78; refine (HPA.out _ G3 (HS3.out.keep (Below.refl _ _).drew)).mono ?_; rintro e w4 ⟨rfl, hb4⟩; obtain ⟨cA4, cB4⟩ := HCF.out w4 (hb4.block _ HLU.out); have hlt4 : w3.heap.size ≤ w4.heap.size := hb4.size; have hb4' : Below w3.heap.size w3 w4 := (Below.refl _ _).drew.trans hb4)
      | (go_at_call 61; refine (HD.out _ G3 _ (HS3.out.keep (hb4'.alloc hlt4 _)) HF3.out.ab (refs_new rfl rfl (by simp) (HMM.out _ hlt4))).mono ?_; rintro e w5 ⟨rfl, G5, hS5, hF5⟩; obtain ⟨cA5, cB5⟩ := HCF.out w5 ((hF5.kept _ (by have := HLU.out; simp; omega) HNM.out).trans ((Below.heap_alloc _ _ _ (Nat.lt_of_lt_of_le HLU.out hlt4)).trans (hb4.block _ HLU.out)))))
  go_wp2_with fail
  go_end0
  exact ⟨rfl, G5, hS5, HF3.out.trans HLE.out ((Fr.below (hb4'.alloc hlt4 _)).trans (Le.refl s1) hF5)⟩

theorem compose_step {c : Cx} (hL : WF c.L) {n : Nat} (hW : Wk c n) {s s' : Sx} {r : Int} {a : Nat} {w : World} {G : Gh} (hR : Run c.L (n + 1) (.compose r) s s') (h : Sst c w G s) (hph : phi c.L s + 4 ≤ 600000) (hr : hasB c.L.length r = true) (ha : G.ab r = some a) :
    Calls Tryd.prog 58 #[.pointer (some ⟨c.bs, 0, none⟩), agg (nd c.L r), reachV a] w (SPost c s s' w G) := by
  obtain ⟨pa, pb, pc⟩ := nd_has hL hr
  have ia := i64ok_of (hasB_iff.1 pa) h.ar.small
  have ib := i64ok_of (hasB_iff.1 pb) h.ar.small
  unfold Run at hR
  unfold agg reachV
  have hre : Run c.L n (.reach r) s s' → ∀ w1, Below w.heap.size w w1 → Calls Tryd.prog 59 #[.pointer (some ⟨a, 0, none⟩)] w1 (SPost c s s' w1 G) := fun hR w1 hb => hW.reach s s' r a w1 G hR (h.keep hb) ha
  by_cases k0 : (nd c.L r).k = 0 ∨ (nd c.L r).k = 9
  · rw [if_pos k0] at hR
    exact compose_free _ _ _ _ _ (k0.imp id .inl) (hre hR)
  · rw [if_neg k0] at hR
    by_cases k1 : (nd c.L r).k = 1
    · rw [if_pos k1] at hR
      by_cases hn : 4294967296 ≤ (nd c.L r).n
      · rw [if_pos hn] at hR
        exact compose_free _ _ _ _ _ (.inr (.inr ⟨k1, hn⟩)) (hre hR)
      · rw [if_neg hn] at hR
        subst hR
        rw [k1]
        exact compose_name _ _ _ _ (by omega) h
    · rw [if_neg k1] at hR
      by_cases k3 : (nd c.L r).k = 3
      · rw [if_pos k3] at hR
        obtain ⟨s1, h1, h2⟩ := hR
        have o1 : cOk c.L (.reach r, [(nd c.L r).a, pubR c.L (nd c.L r).b]) := ⟨hr, by simpa using ⟨pa, pubR_has pb⟩⟩
        have o2 : cOk c.L (.reach r, [(nd c.L r).b, pubR c.L (nd c.L r).a]) := ⟨hr, by simpa using ⟨pb, pubR_has pa⟩⟩
        have f1 := (run_fine hL n (.when_ (.reach r) [(nd c.L r).a, pubR c.L (nd c.L r).b]) s s1 h.ok o1 h1).1
        have hp1 := f1.ph
        simp only [slack, List.length_cons, List.length_nil] at hp1
        rw [k3]
        exact compose_dh _ _ _ _ h ia ib (fun w1 rv hb hv => hW.when_ s s1 (.reach r) _ (reachV a) rv w1 G h1 (h.keep hb) o1 (by simp) (by simp; omega) ⟨a, ha, rfl⟩ hv)
          (fun w1 G1 rv h1 hab hv => hW.when_ s1 s' (.reach r) _ (reachV a) rv w1 G1 h2 h1 o2 (by simp) (by simp; omega) ⟨a, hab r a ha, rfl⟩ hv) f1.le
      · rw [if_neg k3] at hR
        have o1 : cOk c.L (.reach r, [(nd c.L r).a, (nd c.L r).b, (nd c.L r).c]) := ⟨hr, by simpa using ⟨pa, pb, pc⟩⟩
        exact compose_parts _ _ _ _ _ (fun e => k0 (.inl e)) k1 k3 (fun e => k0 (.inr e)) h (fun w1 rv hb hv => hW.when_ s s' (.reach r) _ (reachV a) rv w1 G hR (h.keep hb) o1 (by simp) (by simp; omega) ⟨a, ha, rfl⟩ hv)
end Go.Proofs.YtlckajnbmkkpeaaDoor
