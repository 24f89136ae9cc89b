/- Layer 3: a search in memory: the steps that reach, wait, and make known. -/
import Derived.Test.YtemigefkkjgehaaDoorXb
namespace Go.Proofs.YtemigefkkjgehaaDoor
open Go.RowKit Go.Maps

theorem setCell_two {w : World} {b : Nat} {u v0 v1 : Value} {t : TypeId} (h : w.heap[b]? = some (.cells #[v0, v1] t (0, 0))) : (w.setCell ⟨b, 0, none⟩ u).heap[b]? = some (.cells #[u, v1] t (0, 0)) := by
  have hlt := lt_of_heap h
  simp [World.setCell, h, Array.getElem?_modify]
theorem setCell_two1 {w : World} {b : Nat} {u v0 v1 : Value} {t : TypeId} (h : w.heap[b]? = some (.cells #[v0, v1] t (0, 0))) : (w.setCell ⟨b, 1, none⟩ u).heap[b]? = some (.cells #[v0, u] t (0, 0)) := by
  have hlt := lt_of_heap h
  simp [World.setCell, h, Array.getElem?_modify]

section
variable {c : Cx} {w : World} {G : Gh} {s : Sx} {r : Int}
/-- Blocks that are no answers, no rows and no maps. -/
theorem Sst.row_ne (h : Sst c w G s) {y : Int} {d : Bool} {ws : List Clo} (hy : s.A y = some (d, ws)) {k : Nat} (hk : (G.wv y).ownBlock = some k) {a : Nat} {cs : Array Value} {t : TypeId} {z : Nat × Nat} (ha : w.heap[a]? = some (.cells cs t z)) (ht : t ≠ 1) : k ≠ a := fun e => by
  obtain ⟨a', vals, g1, g2, g3, g4, g5, g6⟩ := h.an y d ws hy
  obtain ⟨c', fz, hc⟩ := Lib.ownsRow_kind g4 k hk
  rw [e, ha] at hc
  simp only [Option.some.injEq, Obj.cells.injEq] at hc
  exact ht hc.2.1
/-- A term is reached. -/
theorem Sst.reach (h : Sst c w G s) {a : Nat} {ws : List Clo} (ha : G.ab r = some a) (hA : s.A r = some (false, ws)) :
    Sst c (w.setCell ⟨a, 0, none⟩ (.bool true)) G (s.put r (true, ws)) ∧ Fr s w (w.setCell ⟨a, 0, none⟩ (.bool true)) G G := by
  obtain ⟨a', vals, g1, g2, g3, g4, g5, g6⟩ := h.an r false ws hA
  obtain rfl : a = a' := by rw [ha] at g1; exact Option.some.inj g1
  have oth : ∀ {k : Nat}, k ≠ a → (w.setCell ⟨a, 0, none⟩ (.bool true)).heap[k]? = w.heap[k]? := fun hk => heap_setCell_other _ _ _ _ (by simpa using hk)
  have hf : Fr s w (w.setCell ⟨a, 0, none⟩ (.bool true)) G G := ⟨rfl, rfl, rfl, by simp, fun k _ hM => oth (fun e => hM (e ▸ g2)), fun _ h => .inl h, fun _ _ h => h, fun _ _ => rfl⟩
  obtain ⟨m1, m2, m3⟩ := h.arM
  have ne : ∀ {k : Nat}, ¬ G.M k → k ≠ a := fun hM e => hM (e ▸ g2)
  have nm : ∀ {k : Nat} {es : Array MapEntry} {cc : Nat}, w.heap[k]? = some (.map es cc) → k ≠ a := fun hk e => by rw [e, g3] at hk; cases hk
  obtain ⟨e1, c1, o1⟩ := h.kn.obj
  obtain ⟨e2, c2, o2⟩ := h.asd.obj
  obtain ⟨f1, f2, f3⟩ := fine_reach h.ok hA
  refine ⟨⟨h.ar.keep (oth (ne m1)) (oth (ne m2)) (oth (ne m3)), h.arM, h.kb.fr hf, h.sb.fr hf, h.kn.keep (oth (nm o1)), ?_, h.kM, h.aM, h.ne, f1, fun y => ?_, fun y d ws' hy => ?_, h.inj, fun y y' k hy hy' => ?_, by have := h.ph; omega, fun k hk => by have := h.mlt k hk; simpa using this⟩, hf⟩
  · have e : (fun y => ((s.put r (true, ws)).A y).isSome) = fun y => (s.A y).isSome := funext fun y => by
      by_cases e : y = r
      · subst e; rw [put_A, hA]; rfl
      · rw [put_other e]
    rw [e]; exact h.asd.keep (oth (nm o2))
  · by_cases e : y = r
    · subst e; rw [put_A, ha]; rfl
    · rw [put_other e]; exact h.dom y
  · by_cases e : y = r
    · subst e
      rw [put_A] at hy
      obtain ⟨rfl, rfl⟩ : true = d ∧ ws = ws' := by simpa using hy
      refine ⟨a, vals, ha, g2, setCell_two g3, ownsRow_same g4 (fun k hk => oth (h.row_ne hA hk g3 (by decide))), g5, fun i cl hc => ?_⟩
      obtain ⟨v, e1, e2⟩ := g6 i cl hc
      exact ⟨v, e1, e2.fr hf⟩
    · rw [put_other e] at hy
      obtain ⟨a', vals', k1, k2, k3, k4, k5, k6⟩ := h.an y d ws' hy
      have na : a' ≠ a := fun e' => e (h.inj _ _ _ k1 (e' ▸ ha))
      refine ⟨a', vals', k1, k2, (oth na).trans k3, ownsRow_same k4 (fun k hk => oth (h.row_ne hy hk g3 (by decide))), k5, fun i cl hc => ?_⟩
      obtain ⟨v, e1, e2⟩ := k6 i cl hc
      exact ⟨v, e1, e2.fr hf⟩
  · have q : ∀ {z}, ((s.put r (true, ws)).A z).isSome = true → (s.A z).isSome = true := fun {z} hz => by
      by_cases e : z = r
      · subst e; rw [hA]; rfl
      · rw [put_other e] at hz; exact hz
    exact h.inj2 y y' k (q hy) (q hy')

/-- A closure waits: its row has grown, and stands in the answer. -/
theorem Sst.wait (h : Sst c w G s) {a : Nat} {ws : List Clo} (ha : G.ab r = some a) (hA : s.A r = some (false, ws)) {cl : Clo} (hcl : cOk c.L cl) (hph : phi c.L s + (1 + cl.2.length) ≤ 600000) {vals : List Value} {v u : Value} (hvals : w.ownsRow 0 1 1 (G.wv r) ws.length vals) {w1 w2 : World} (hb : Below w.heap.size w w1)
    (hown : w2.ownsRow 0 1 1 v (ws.length + 1) (vals ++ [u])) (hg : w1.grownBy w2 (G.wv r).ownBlock) (hat : ∀ k, v.ownBlock = some k → (G.wv r).ownBlock = some k ∨ w1.heap.size ≤ k) (_hv : ∃ k, v.ownBlock = some k)
    (hu : CloV w1 G c.bs u cl) :
    ∃ G', Sst c (w2.setCell ⟨a, 1, none⟩ v) G' (s.wait r cl) ∧ Fr s w (w2.setCell ⟨a, 1, none⟩ v) G G' := by
  obtain ⟨a', vals', g1, g2, g3, g4, g5, g6⟩ := h.an r false ws hA
  obtain rfl : a = a' := by rw [ha] at g1; exact Option.some.inj g1
  have hvv : vals = vals' := by
    rcases hvals.2 with ⟨e, h0⟩ | ⟨p, cp, cur, e, _, hp, _, _, _, ht⟩
    · have l1 := hvals.1
      have l2 := g4.1
      rw [h0] at l1 l2
      simp at l1 l2
      rw [l1, l2]
    · rcases g4.2 with ⟨e', _⟩ | ⟨p', cp', cur', e', _, hp', _, _, _, ht'⟩
      · rw [e] at e'; cases e'
      · rw [e] at e'
        injection e' with e1 e2 e3
        injection e1 with e1
        injection e1 with e1
        subst e1
        rw [hp] at hp'
        simp only [Option.some.injEq, Obj.cells.injEq, and_true] at hp'
        rw [← ht, ← ht', hp']
  subst hvv
  rw [Sx.wait_eq hA]
  have hs1 := hb.size
  have hs2 := hg.size
  have rowlt : ∀ k, (G.wv r).ownBlock = some k → k < w.heap.size := fun k hk => (g4.lt k hk).2
  have oth : ∀ {k : Nat}, k < w.heap.size → k ≠ a → (G.wv r).ownBlock ≠ some k → (w2.setCell ⟨a, 1, none⟩ v).heap[k]? = w.heap[k]? := fun {k} hk hka hkr => by
    rw [heap_setCell_other _ _ _ _ (by simpa using hka), hg.block k (by omega) (fun e => hkr e.symm), hb.block k hk]
  refine ⟨⟨fun k => G.M k ∨ v.ownBlock = some k, G.ab, fun y => if y = r then v else G.wv y⟩, ?_⟩
  have hf : Fr s w (w2.setCell ⟨a, 1, none⟩ v) G ⟨fun k => G.M k ∨ v.ownBlock = some k, G.ab, fun y => if y = r then v else G.wv y⟩ := by
    refine ⟨hg.os.trans hb.os, hg.tape.trans hb.tape, hg.output.trans hb.output, by simp; omega, fun k hk hM => oth hk (fun e => hM (e ▸ g2)) (fun e => hM (g5 k e)), fun k hk => ?_, fun _ _ h => h, fun y hy => ?_⟩
    · rcases hk with e | e
      · exact .inl e
      · rcases hat k e with e' | e'
        · exact .inl (g5 k e')
        · exact .inr (by omega)
    · show (if y = r then _ else G.wv y) = G.wv y
      rw [if_neg (fun e => by rw [e] at hy; unfold Sx.der at hy; rw [hA] at hy; cases hy)]
  have hf1 : Fr s w1 (w2.setCell ⟨a, 1, none⟩ v) G ⟨fun k => G.M k ∨ v.ownBlock = some k, G.ab, fun y => if y = r then v else G.wv y⟩ := by
    refine ⟨hg.os, hg.tape, hg.output, by simpa using hs2, fun k hk hM => ?_, fun k hk => ?_, fun _ _ h => h, fun y hy => ?_⟩
    · rw [heap_setCell_other _ _ _ _ (by intro e; exact hM (e ▸ g2)), hg.block k hk (fun e => hM (g5 k e.symm))]
    · rcases hk with e | e
      · exact .inl e
      · rcases hat k e with e' | e'
        · exact .inl (g5 k e')
        · exact .inr e'
    · show (if y = r then _ else G.wv y) = G.wv y
      rw [if_neg (fun e => by rw [e] at hy; unfold Sx.der at hy; rw [hA] at hy; cases hy)]
  have newM : ∀ {k : Nat}, k < w.heap.size → ¬ G.M k → ¬ (G.M k ∨ v.ownBlock = some k) := fun hk hM e => hf.not hk hM e
  obtain ⟨m1, m2, m3⟩ := h.arM
  have ne : ∀ {k : Nat}, ¬ G.M k → k ≠ a := fun hM e => hM (e ▸ g2)
  have nr : ∀ {k : Nat}, ¬ G.M k → (G.wv r).ownBlock ≠ some k := fun hM e => hM (g5 _ e)
  have nm : ∀ {k : Nat} {es : Array MapEntry} {cc : Nat}, w.heap[k]? = some (.map es cc) → k ≠ a ∧ (G.wv r).ownBlock ≠ some k := by
    intro k es cc hk
    refine ⟨fun e => (by rw [e, g3] at hk; cases hk), fun e => ?_⟩
    obtain ⟨c', fz, hc⟩ := Lib.ownsRow_kind g4 k e
    rw [hk] at hc; cases hc
  obtain ⟨e1, c1, o1⟩ := h.kn.obj
  obtain ⟨e2, c2, o2⟩ := h.asd.obj
  have hfw := fine_wait (L := c.L) h.ok (r := r) (by rw [hA]; rfl) (by unfold Sx.der; rw [hA]; simp) hcl
  rw [Sx.wait_eq hA] at hfw
  -- a row that is new, or the old one, is no answer's block
  have vne : ∀ {k a2 : Nat} {cs : Array Value} {t : TypeId} {z : Nat × Nat}, v.ownBlock = some k → w.heap[a2]? = some (.cells cs t z) → t ≠ 1 → k ≠ a2 := fun {k a2 cs t z} hk h2 ht e => by
    rcases hat k hk with e' | e'
    · exact h.row_ne hA e' h2 ht e
    · have := lt_of_heap h2; omega
  have ha2 : w2.heap[a]? = some (.cells #[.bool false, G.wv r] 86 (0, 0)) := by
    rw [hg.block a (by have := lt_of_heap g3; omega) (fun e => h.row_ne hA e.symm g3 (by decide) rfl), hb.block a (lt_of_heap g3)]; exact g3
  refine ⟨⟨h.ar.keep (oth h.ar.blt (ne m1) (nr m1)) (oth h.ar.glt (ne m2) (nr m2)) (oth h.ar.mlt (ne m3) (nr m3)), ⟨newM h.ar.blt m1, newM h.ar.glt m2, newM h.ar.mlt m3⟩, h.kb.fr hf, h.sb.fr hf, h.kn.keep (oth h.kn.lt (nm o1).1 (nm o1).2), ?_, .inl h.kM, .inl h.aM, h.ne, hfw.ok, fun y => ?_, fun y d ws' hy => ?_, h.inj, fun y y' k hy hy' e e' => ?_, by have := hfw.ph; omega, fun k hk => ?_⟩, hf⟩
  · have e : (fun y => ((s.put r (false, ws ++ [cl])).A y).isSome) = fun y => (s.A y).isSome := funext fun y => by
      by_cases e : y = r
      · subst e; rw [put_A, hA]; rfl
      · rw [put_other e]
    rw [e]; exact h.asd.keep (oth h.asd.lt (nm o2).1 (nm o2).2)
  · by_cases e : y = r
    · subst e; rw [put_A]; show (G.ab y).isSome = _; rw [ha]; rfl
    · rw [put_other e]; exact h.dom y
  · by_cases e : y = r
    · subst e
      rw [put_A] at hy
      obtain ⟨rfl, rfl⟩ : false = d ∧ ws ++ [cl] = ws' := by simpa using hy
      refine ⟨a, vals ++ [u], ha, .inl g2, ?_, ?_, fun k hk => ?_, fun i x hx => ?_⟩
      · simp only [if_true]; exact setCell_two1 ha2
      · simp only [if_true, List.length_append, List.length_cons, List.length_nil]
        refine ownsRow_same hown (fun k hk => heap_setCell_other _ _ _ _ ?_)
        exact vne hk g3 (by decide)
      · simp only [if_true] at hk; exact .inr hk
      · have hlen : vals.length = ws.length := by have := hvals.1; simpa using this
        rcases Nat.lt_or_ge i ws.length with hi | hi
        · rw [List.getElem?_append_left hi] at hx
          obtain ⟨v', k1, k2⟩ := g6 i x hx
          exact ⟨v', by rw [List.getElem?_append_left (by omega)]; exact k1, k2.fr hf⟩
        · rw [List.getElem?_append_right hi] at hx
          have hi0 : i = ws.length := by
            rcases Nat.lt_or_ge (i - ws.length) 1 with z | z
            · omega
            · rw [List.getElem?_eq_none (by simpa using z)] at hx; cases hx
          subst hi0
          simp at hx
          subst hx
          exact ⟨u, by rw [List.getElem?_append_right (by omega), hlen]; simp, hu.fr hf1⟩
    · rw [put_other e] at hy
      obtain ⟨a', vals', k1, k2, k3, k4, k5, k6⟩ := h.an y d ws' hy
      have na : a' ≠ a := fun e' => e (h.inj _ _ _ k1 (e' ▸ ha))
      have nrow : ∀ k, (G.wv y).ownBlock = some k → (G.wv r).ownBlock ≠ some k := fun k hk hk' => e (h.inj2 _ _ k (by rw [hy]; rfl) (by rw [hA]; rfl) hk hk')
      refine ⟨a', vals', k1, .inl k2, ?_, ?_, fun k hk => ?_, fun i x hx => ?_⟩
      · simp only [if_neg e]
        rw [oth (lt_of_heap k3) na (fun e' => h.row_ne hA e' k3 (by decide) rfl)]; exact k3
      · simp only [if_neg e]
        exact ownsRow_same k4 (fun k hk => oth (k4.lt k hk).2 (h.row_ne hy hk g3 (by decide)) (nrow k hk))
      · simp only [if_neg e] at hk; exact .inl (k5 k hk)
      · obtain ⟨v', q1, q2⟩ := k6 i x hx
        exact ⟨v', q1, q2.fr hf⟩
  · have q : ∀ {z}, ((s.put r (false, ws ++ [cl])).A z).isSome = true → (s.A z).isSome = true := fun {z} hz => by
      by_cases e : z = r
      · subst e; rw [hA]; rfl
      · rw [put_other e] at hz; exact hz
    have q0 : (s.A r).isSome = true := by rw [hA]; rfl
    have old : ∀ {z k}, (s.A z).isSome = true → (G.wv z).ownBlock = some k → v.ownBlock = some k → z = r := fun {z k} hz hk hvk => by
      rcases hat k hvk with x | x
      · exact h.inj2 _ _ k hz q0 hk x
      · obtain ⟨⟨d, l⟩, hzz⟩ := Option.isSome_iff_exists.1 hz
        obtain ⟨_, _, _, _, _, k4, _⟩ := h.an z d l hzz
        have := (k4.lt k hk).2
        omega
    simp only at e e'
    by_cases x : y = r <;> by_cases x' : y' = r
    · rw [x, x']
    · rw [if_pos x] at e
      rw [if_neg x'] at e'
      rw [x]; exact (old (q hy') e' e).symm
    · rw [if_neg x] at e
      rw [if_pos x'] at e'
      rw [x']; exact old (q hy) e e'
    · rw [if_neg x] at e
      rw [if_neg x'] at e'
      exact h.inj2 _ _ k (q hy) (q hy') e e'
  · have hsz : (w2.setCell ⟨a, 1, none⟩ v).heap.size = w2.heap.size := by simp
    rw [hsz]
    rcases hk with e | e
    · have := h.mlt k e; omega
    · exact (hown.lt k e).2

/-- A term is made known. -/
theorem Sst.know (h : Sst c w G s) (hr : hasB c.L.length r = true) (hK : s.K r = false) {w2 : World} (hm : MapU w2 c.mq (cnt c.L.length s.K + 1) (fun y => if y = r then true else s.K y)) (ht : w.mapTurned w2 c.mq) :
    Sst c w2 G (s.know r) ∧ Fr s w w2 G G := by
  have hg := ht.grown
  have old : ∀ k, k < w.heap.size → k ≠ c.mq → w2.heap[k]? = w.heap[k]? := fun k hk hne => hg.block k hk (fun e => hne (Option.some.inj e))
  have hf : Fr s w w2 G G := ⟨hg.os, hg.tape, hg.output, hg.size, fun k hk hM => old k hk (fun e => hM (e ▸ h.kM)), fun _ h => .inl h, fun _ _ h => h, fun _ _ => rfl⟩
  obtain ⟨m1, m2, m3⟩ := h.arM
  have ne : ∀ {k : Nat}, ¬ G.M k → k ≠ c.mq := fun hM e => hM (e ▸ h.kM)
  obtain ⟨e1, c1, o1⟩ := h.kn.obj
  refine ⟨⟨h.ar.keep (old _ h.ar.blt (ne m1)) (old _ h.ar.glt (ne m2)) (old _ h.ar.mlt (ne m3)), h.arM, h.kb.fr hf, h.sb.fr hf, ?_, h.asd.keep (old _ h.asd.lt (Ne.symm h.ne)), h.kM, h.aM, h.ne, h.ok.know hr, h.dom, fun y d ws hy => ?_, h.inj, h.inj2, ?_, fun k hk => Nat.lt_of_lt_of_le (h.mlt k hk) hg.size⟩, hf⟩
  · show MapU w2 c.mq (cnt c.L.length (fun y => if y = r then true else s.K y)) (fun y => if y = r then true else s.K y)
    rw [cnt_add hr hK]; exact hm
  · obtain ⟨a, vals, g1, g2, g3, g4, g5, g6⟩ := h.an y d ws hy
    refine ⟨a, vals, g1, g2, (old _ (lt_of_heap g3) (fun e => by rw [e, o1] at g3; cases g3)).trans g3, ownsRow_same g4 (fun k hk => old k (g4.lt k hk).2 (fun e => ?_)), g5, fun i cl hc => ?_⟩
    · obtain ⟨c', fz, hc⟩ := Lib.ownsRow_kind g4 k hk
      rw [e, o1] at hc; cases hc
    · obtain ⟨v, q1, q2⟩ := g6 i cl hc
      exact ⟨v, q1, q2.fr hf⟩
  · have := phi_know (L := c.L) (s := s) hr (by rw [hK]; simp)
    have := h.ph
    omega
end
end Go.Proofs.YtemigefkkjgehaaDoor
