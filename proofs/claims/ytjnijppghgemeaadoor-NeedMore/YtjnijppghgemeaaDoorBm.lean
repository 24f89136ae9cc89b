/- Layer 6: the walk of Psk, where there is such a message. -/
import Derived.Test.YtjnijppghgemeaaDoorBl
namespace Go.Proofs.YtjnijppghgemeaaDoor
open Go.RowKit Go.Shelf

/-- One message's row of a pattern whose rows are its own. -/
theorem Ow.row {w : World} {B : Nat} {v0 v1 vM : Value} {p0 p1 : List Int} {ms : List Ms} {vs : List Value} (h : Ow w B v0 v1 vM p0 p1 ms vs) {i : Nat} (hi : i < ms.length) {t : List Int} (ht : t = (ms.getD i default).t) (h1 : 1 ≤ t.length) :
    ∃ gM cM gT cT, vM = .slice (some ⟨gM, 0, none⟩) ms.length cM ∧ vs[i]? = some (.slice (some ⟨gT, 0, none⟩) t.length cT) ∧ w.cell? ⟨gM, i * 2 + 1, none⟩ = some (.slice (some ⟨gT, 0, none⟩) t.length cT) ∧
      w.ownsRow B 3 1 (.slice (some ⟨gT, 0, none⟩) t.length cT) t.length (t.map (Value.int .i64)) := by
  subst ht
  obtain ⟨gM, cM, cur, hM, hg, hcap, hcell⟩ := own_get h.om (by omega)
  obtain ⟨u, hu⟩ : ∃ y, vs[i]? = some y := ⟨vs[i]'(by rw [h.ln]; exact hi), List.getElem?_eq_getElem _⟩
  have ho := h.ot i u hu
  obtain ⟨_, ⟨_, e⟩ | ⟨gT, cT, _, e, _⟩⟩ := ho
  · omega
  · refine ⟨gM, cM, gT, cT, hM, by rw [hu, e], ?_, by rw [← e]; exact h.ot i u hu⟩
    rw [hcell _ (by omega), (msC_at ms vs i h.ln hi).2, hu, e]

theorem new2 (w : World) (o : Obj) (v : Value) : ((w.alloc o).alloc (.cells #[v] 3)).heap[w.heap.size + 1]? = some (.cells #[v] 3 (0, 0)) := by
  have := heap_alloc_new (w.alloc o) (.cells #[v] 3)
  rwa [World.size_alloc] at this
/-- All that is known behind slices.Insert. -/
theorem psk_all {w w2 w5 : World} {x : Sl} {p : Pt} {B : Nat} {v0 v1 : Value} {nm : List UInt8} {p0 p1 : List Int} {ms : List Ms} {vs : List Value} {gM cM gT cT gN i : Nat} {t t' : List Int} (hN2 : Pb w x p w2) (hO : Ow w2 B v0 v1 (.slice (some ⟨gM, 0, none⟩) ms.length cM) p0 p1 ms vs) (hi : i < ms.length) (hvs : vs[i]? = some (.slice (some ⟨gT, 0, none⟩) t.length cT))
    (hgr : ((w2.alloc (.cells #[.string ⟨nm.toArray⟩, v0, v1, .slice (some ⟨gM, 0, none⟩) ms.length cM] 26)).alloc (.cells #[.int .i64 7] 3)).grownBy w5 (some gT)) (hN : gN = gT ∨ ((w2.alloc (.cells #[.string ⟨nm.toArray⟩, v0, v1, .slice (some ⟨gM, 0, none⟩) ms.length cM] 26)).alloc (.cells #[.int .i64 7] 3)).heap.size ≤ gN) (ht : IntsV w5 (some ⟨gN, 0, none⟩) t') (hl : t'.length = t.length + 1) (cN : Nat) (hB : w.heap.size ≤ B) :
    w5.cell? ⟨gM, i * 2 + 1, none⟩ = some (.slice (some ⟨gT, 0, none⟩) t.length cT) ∧ w5.frozen? ⟨gM, i * 2 + 1, none⟩ = false ∧
    (w5.cell? ⟨w2.heap.size, 0, none⟩ = some (.string ⟨nm.toArray⟩) ∧ w5.cell? ⟨w2.heap.size, 1, none⟩ = some v0 ∧ w5.cell? ⟨w2.heap.size, 2, none⟩ = some v1 ∧ w5.cell? ⟨w2.heap.size, 3, none⟩ = some (.slice (some ⟨gM, 0, none⟩) ms.length cM)) ∧
    ¬ w2.heap.size = gM ∧ ¬ w.heap.size + 1 = gM ∧
    (w5.cell? ⟨w.heap.size + 1, 0, none⟩ = some (.string ⟨#[]⟩) ∧ w5.cell? ⟨w.heap.size + 1, 1, none⟩ = some (.slice none 0 0) ∧ w5.cell? ⟨w.heap.size + 1, 2, none⟩ = some (.slice none 0 0) ∧ w5.cell? ⟨w.heap.size + 1, 3, none⟩ = some (.slice none 0 0) ∧
      w5.frozen? ⟨w.heap.size + 1, 0, none⟩ = false ∧ w5.frozen? ⟨w.heap.size + 1, 1, none⟩ = false ∧ w5.frozen? ⟨w.heap.size + 1, 2, none⟩ = false ∧ w5.frozen? ⟨w.heap.size + 1, 3, none⟩ = false) ∧
    (w5.setCell ⟨gM, i * 2 + 1, none⟩ (.slice (some ⟨gN, 0, none⟩) (t.length + 1) cN)).heap[w.heap.size + 1]? = some (.cells #[.string ⟨#[]⟩, .slice none 0 0, .slice none 0 0, .slice none 0 0] 26 (0, 0)) ∧
    Below w.heap.size w (w5.setCell ⟨gM, i * 2 + 1, none⟩ (.slice (some ⟨gN, 0, none⟩) (t.length + 1) cN)) ∧
    ∃ y, Value.agg #[.string ⟨nm.toArray⟩, v0, v1, .slice (some ⟨gM, 0, none⟩) ms.length cM] = patV y ⟨nm, p0, p1, ms.set i ⟨(ms.getD i default).fr, t'⟩⟩ ∧ PatA (w5.setCell ⟨gM, i * 2 + 1, none⟩ (.slice (some ⟨gN, 0, none⟩) (t.length + 1) cN)) y ⟨nm, p0, p1, ms.set i ⟨(ms.getD i default).fr, t'⟩⟩ := by
  have hk : Below w2.heap.size w2 ((w2.alloc (.cells #[.string ⟨nm.toArray⟩, v0, v1, .slice (some ⟨gM, 0, none⟩) ms.length cM] 26)).alloc (.cells #[.int .i64 7] 3)) := ((Below.refl _ _).alloc (Nat.le_refl _) _).alloc (by simp) _
  have hO4 := hO.keep hk
  have hP4 := hN2.keep hk
  have hq4 : ((w2.alloc (.cells #[.string ⟨nm.toArray⟩, v0, v1, .slice (some ⟨gM, 0, none⟩) ms.length cM] 26)).alloc (.cells #[.int .i64 7] 3)).heap[w2.heap.size]? = some (.cells #[.string ⟨nm.toArray⟩, v0, v1, .slice (some ⟨gM, 0, none⟩) ms.length cM] 26 (0, 0)) := by
    rw [Below.heap_alloc _ _ _ (by simp)]; exact heap_alloc_new w2 _
  have lT := ((hO.ot i _ hvs).lt gT rfl).2
  have lM := (hO.om.lt gM rfl).2
  have hbT := ((hO.ot i _ hvs).lt gT rfl)
  obtain ⟨cT', hcT⟩ : ∃ cur, w2.heap[gT]? = some (.cells cur 3 (0, 0)) := by
    obtain ⟨_, ⟨e, _⟩ | ⟨g', _, cur, e, _, hg, _⟩⟩ := hO.ot i _ hvs
    · cases e
    · have e2 : g' = _ := (Option.some.inj (congrArg Value.ownBlock e)).symm
      rw [e2] at hg; exact ⟨cur, hg⟩
  obtain ⟨cM', hcM⟩ : ∃ cur, w2.heap[gM]? = some (.cells cur 55 (0, 0)) := by
    obtain ⟨_, ⟨e, _⟩ | ⟨g', _, cur, e, _, hg, _⟩⟩ := hO.om
    · cases e
    · have e2 : g' = _ := (Option.some.inj (congrArg Value.ownBlock e)).symm
      rw [e2] at hg; exact ⟨cur, hg⟩
  have nT : w.heap.size + 1 ≠ gT := fun e => by
    rw [← e, hN2.res] at hcT; simp at hcT
  have nM : w.heap.size + 1 ≠ gM := fun e => by
    rw [← e, hN2.res] at hcM; simp at hcM
  obtain ⟨m1, m2, m3, y, m4, m5⟩ := psk_mem (nm := nm) (cN := cN) hO4 hi hvs rfl rfl hgr hN ht
  rw [hl] at m5
  have q5 := (hgr.block w2.heap.size (lt_of_heap hq4) (fun e => by cases e; omega)).trans hq4
  have r5 := (hgr.block (w.heap.size + 1) (lt_of_heap hP4.res) (fun e => nT (Option.some.inj e))).trans hP4.res
  obtain ⟨b0, b1, b2, b3, -⟩ := box4c q5
  refine ⟨m1, m2, ⟨b0, b1, b2, b3⟩, by omega, nM, box4c r5, ?_, ?_, y, m4, m5⟩
  · rw [Below.heap_setCell _ _ _ _ (by simpa using nM)]; exact r5
  · have nB : w.heap.size ≤ gM := by
      exact Nat.le_trans hB (hO.om.lt gM rfl).1
    refine (hP4.bel.grown hgr hP4.bel.size (fun j e => ?_)).setCell nB _
    cases e
    exact Nat.le_trans hB hbT.1

set_option maxRecDepth 100000 in
set_option maxHeartbeats 2000000 in
theorem psk_zeroth (x : Sl) (p : Pt) (w : World) (hp : PatA w x p) (hr : right p = true) : Calls Tryd.prog 20 #[patV x p, .int .i64 0] w fun e w' => ∃ y, e = .returned (.tuple #[patV y (pskP p 0), .int .i64 (pskE p 0)]) ∧ PatA w' y (pskP p 0) ∧ Below w.heap.size w w' := by
  have HR := Lib.hid (fun wx (hb : Below w.heap.size w wx) => right_any x p wx (hp.keep hb))
  have HN := Lib.hid (pb_new w x p)
  rw [hr] at HR
  obtain ⟨hlen, hpl, htl⟩ := first_len hr
  have HCO := Lib.hid (fun wx (hb : Below w.heap.size w wx) => copyOf_any x p wx (hp.keep hb) (by omega) (by omega) (by omega) (fun i hi => by have := (htl i hi).2; omega))
  obtain ⟨t, ht⟩ : ∃ t, t = (p.ms.getD 0 default).t := ⟨_, rfl⟩
  have hT1 : 1 ≤ t.length ∧ t.length ≤ 12 := by rw [ht]; exact htl 0 (by omega)
  have HP : Hid (pskP p 0 = (if t.length < 12 then ⟨p.nm, p.p0, p.p1, p.ms.set 0 ⟨(p.ms.getD 0 default).fr, 7 :: t⟩⟩ else zP) ∧ pskE p 0 = if t.length < 12 then 0 else 13) := Lib.hid (by
    have hI : pskI 0 = 0 := by unfold pskI; omega
    have hok : pskOk p 0 = decide (t.length < 12) := by
      unfold pskOk; rw [hI, ← ht]
      have e1 : decide ((0 : Int) ≤ 0) = true := by simp; try omega
      have e2 : decide ((0 : Int) ≤ p.ms.length) = true := by simp; try omega
      rw [e1, e2]; rfl
    have hM : pskM p 0 = ⟨(p.ms.getD 0 default).fr, 7 :: t⟩ := by
      unfold pskM insT; rw [hI, ← ht]; first | rw [if_pos rfl] | rw [if_neg (by omega)]
    unfold pskP pskE
    rw [hr, hok, hI, hM]
    by_cases h : t.length < 12 <;> simp [h])
  have HT := Lib.hid ht
  have HLN := Lib.hid hlen
  have HT1 := Lib.hid hT1
  have hmx : max (-1 : Int) 0 = 0 := by decide
  have HI : Hid (0 < p.ms.length) := Lib.hid (by omega)
  clear hp hr htl hpl ht hlen hT1
  unfold patV at *
  by_cases h12 : t.length = 12
  · have HPZ : Hid (pskP p 0 = zP ∧ pskE p 0 = 13) := Lib.hid (by rw [HP.out.1, HP.out.2, if_neg (by omega), if_neg (by omega)]; exact ⟨rfl, rfl⟩)
    rw [HPZ.out.1, HPZ.out.2]
    have h12i : ((t.length : Int) == 12) = true := by rw [h12]; rfl
    clear h12
    go_enter Tryd.func20, Tryd.ntmps20
    go_wp2_with (first
      | (go_at_call 34; refine (HR.out _ HN.out.bel).mono ?_; rintro e w1 ⟨rfl, hb1⟩; have HN1 := Lib.hid (HN.out.keep hb1); clear hb1; obtain ⟨a0, a1, a2, a3, -⟩ := box4c HN1.out.pb)
      | (go_at_call 35; refine (HCO.out _ HN1.out.bel).mono ?_; rintro e w2 ⟨v0, v1, vM, vs, rfl, ho2, hb2⟩; have HN2 := Lib.hid (HN1.out.keep hb2); have HO2 := Lib.hid ho2; clear hb2 ho2 a0 a1 a2 a3; obtain ⟨t0, d0, hv0⟩ := own_slice HO2.out.o0; obtain ⟨t1, d1, hv1⟩ := own_slice HO2.out.o1; obtain ⟨gM, cM, gT, cT, hvM, hvs, hct, hot⟩ := HO2.out.row HI.out HT.out HT1.out.1; subst hv0 hv1 hvM; have HVS := Lib.hid hvs; have HOT := Lib.hid hot; clear hvs hot; have lM := World.block_lt_of_cell? _ _ hct; have HLT := Lib.hid (HOT.out.lt gT rfl).2; obtain ⟨r0, r1, r2, r3, y0, y1, y2, y3⟩ := box4c HN2.out.res; have lr2 := lt_of_heap HN2.out.res))
    refine bodyPost_ret (v := .tuple #[.agg #[.string ⟨#[]⟩, .slice none 0 0, .slice none 0 0, .slice none 0 0], .int .i64 13]) (by rw [results_cell_tmp rfl]; go_simp) rfl ?_
    exact ⟨nilS, rfl, patA_zero _, (set4_below HN2.out.bel (Nat.le_succ _) _ _ _ _).alloc (set4_below HN2.out.bel (Nat.le_succ _) _ _ _ _).size _⟩
  · have HPY : Hid (pskP p 0 = ⟨p.nm, p.p0, p.p1, p.ms.set 0 ⟨(p.ms.getD 0 default).fr, 7 :: t⟩⟩ ∧ pskE p 0 = 0) := Lib.hid (by have := HT1.out.2; rw [HP.out.1, HP.out.2, if_pos (by omega), if_pos (by omega)]; exact ⟨rfl, rfl⟩)
    rw [HPY.out.1, HPY.out.2]
    have h12i : ((t.length : Int) == 12) = false := by simp; omega
    clear h12
    go_enter Tryd.func20, Tryd.ntmps20
    go_wp2_with (first
      | (go_at_call 34; refine (HR.out _ HN.out.bel).mono ?_; rintro e w1 ⟨rfl, hb1⟩; have HN1 := Lib.hid (HN.out.keep hb1); clear hb1; obtain ⟨a0, a1, a2, a3, -⟩ := box4c HN1.out.pb)
      | (go_at_call 35; refine (HCO.out _ HN1.out.bel).mono ?_; rintro e w2 ⟨v0, v1, vM, vs, rfl, ho2, hb2⟩; have HN2 := Lib.hid (HN1.out.keep hb2); have HO2 := Lib.hid ho2; clear hb2 ho2 a0 a1 a2 a3; obtain ⟨t0, d0, hv0⟩ := own_slice HO2.out.o0; obtain ⟨t1, d1, hv1⟩ := own_slice HO2.out.o1; obtain ⟨gM, cM, gT, cT, hvM, hvs, hct, hot⟩ := HO2.out.row HI.out HT.out HT1.out.1; subst hv0 hv1 hvM; have HVS := Lib.hid hvs; have HOT := Lib.hid hot; clear hvs hot; have lM := World.block_lt_of_cell? _ _ hct; have HLT := Lib.hid (HOT.out.lt gT rfl).2; obtain ⟨r0, r1, r2, r3, y0, y1, y2, y3⟩ := box4c HN2.out.res; have lr2 := lt_of_heap HN2.out.res)
      | (go_at_call 36; refine (insert_front t gT cT (w2.heap.size + 1) _ _ (row_below HOT.out (((Below.refl _ _).alloc (Nat.le_refl _) _).alloc (by simp) _)) HT1.out.1 HT1.out.2 (new2 w2 _ _) (by have := HLT.out; omega)).mono ?_; rintro e w5 ⟨gN, cN, rfl, hN, hI, hgr⟩; have H5 := Lib.hid (psk_all (nm := p.nm) (x := x) HN2.out HO2.out HI.out HVS.out hgr hN hI (by simp) cN (by have := HN1.out.bel.size; omega)); clear hN hI hgr r0 r1 r2 r3 y0 y1 y2 y3; obtain ⟨n1, n2, ⟨b0, b1, b2, b3⟩, hqM, hrM, ⟨r0, r1, r2, r3, y0, y1, y2, y3⟩, -⟩ := H5.out))
    refine bodyPost_ret (v := .tuple #[.agg #[.string ⟨p.nm.toArray⟩, .slice t0 p.p0.length d0, .slice t1 p.p1.length d1, .slice (some ⟨gM, 0, none⟩) p.ms.length cM], .int .i64 0]) (by rw [results_cell_tmp rfl]; go_simp) rfl ?_
    obtain ⟨-, -, -, -, -, -, hres, hbel, y, hy, hA⟩ := H5.out
    refine ⟨y, ?_, hA.other (noInt_res hres) (set4_only _ _ _ _ _ _), set4_below hbel (Nat.le_succ _) _ _ _ _⟩
    rw [hy]; rfl
end Go.Proofs.YtjnijppghgemeaaDoor
