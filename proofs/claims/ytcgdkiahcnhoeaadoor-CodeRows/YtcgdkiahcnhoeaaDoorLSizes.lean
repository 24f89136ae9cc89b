/- The walk of CodeSizes: a term has no more rows than its arena terms, and more than what it is made of. -/
import Derived.Test.YtcgdkiahcnhoeaaDoorSa
import Derived.Test.YtcgdkiahcnhoeaaDoorLApart
namespace Go.Proofs.YtcgdkiahcnhoeaaDoor
open Go.RowKit Go.Maps Go.Shelf

theorem nodup_sub : ∀ (l m : List Int), l.Nodup → (∀ x ∈ l, x ∈ m) → l.length ≤ m.length
  | [], _, _, _ => by simp
  | a :: l, m, hn, h => by
    have hn' := List.nodup_cons.1 hn
    have ha := h a (by simp)
    have h1 := List.length_erase_of_mem ha
    have h2 := nodup_sub l (m.erase a) hn'.2 (fun x hx => (List.mem_erase_of_ne (fun (e : x = a) => hn'.1 (e ▸ hx))).2 (h x (by simp [hx])))
    have h3 := List.length_pos_of_mem ha
    simp only [List.length_cons]
    omega
theorem rows_lt {L : List Nd} (h : WF L) {x p : Int} (hx : hasB L.length x = true) (hp : p ∈ prt (nd L x)) : (rows L p).length < (rows L x).length := by
  have hs := rows_self hx
  have hpx := (rows_ord h x).closed hs hp
  have hin := prt_in h hx hp
  have hv := vis_ok h (p.toNat + 1) [] p (Acc.nil L)
  have hnx : x ∉ rows L p := fun e => by
    rcases hv.new x e with e | e
    · simp at e
    · omega
  have := nodup_sub (x :: rows L p) (rows L x) (List.nodup_cons.2 ⟨hnx, hv.ok.nodup⟩) (fun y hy => by
    simp only [List.mem_cons] at hy
    rcases hy with rfl | hy
    · exact hs
    · exact rows_sub h hpx y hy)
  simp only [List.length_cons] at this
  omega

/-- What a law of layer 2 has of its list of nodes. -/
def Bl (w : World) (ns : List Nd) (lim : Nat) (v : Value) : Prop :=
  ∀ W, Below w.heap.size w W → Calls Tryd.prog 10 #[.int .i64 lim, v] W (BuiltPost lim ns W)
theorem Bl.of {w : World} {v : Value} {ns : List Nd} (h : BuiltAt w v ns) {lim : Nat} (hl : limZ lim = lim) : Bl w ns lim v := fun W hW => h lim lim hl W hW

set_option maxRecDepth 100000 in
set_option maxHeartbeats 1000000 in
theorem sizes_long (s : Option Addr) (n c : Nat) (hn : 40 < n) (_hm : n ≤ maxLen) (x : Int) (_hx : i64ok x) (w : World) (hE : Env w) :
    Calls Tryd.prog 8 #[.slice s n c, .int .i64 x] w fun e w' => e = .returned (.bool true) ∧ Below w.heap.size w w' := by
  have HA := Lib.hid (awake_any w hE)
  have hn1 : (40 : Int) < (n : Int) := by omega
  clear hE
  go_enter Tryd.func8, Tryd.ntmps8
  go_wp2_with (go_at_call 9; refine HA.out.mono ?_; rintro e w2 ⟨rfl, hb2⟩)
  go_ret
  exact ⟨rfl, hb2⟩

set_option maxRecDepth 100000 in
set_option maxHeartbeats 1000000 in
theorem sizes_good (s : Option Addr) (c : Nat) (ns : List Nd) (hn : ns.length ≤ 40) (x : Int) (hx : i64ok x) (w : World) (hE : Env w) (hB : BuiltAt w (.slice s ns.length c) ns) :
    Calls Tryd.prog 8 #[.slice s ns.length c, .int .i64 x] w fun e w' => e = .returned (.bool true) ∧ Below w.heap.size w w' := by
  have HB := Lib.hid ((Bl.of hB (lim := 100) (by decide)) w (Below.refl _ _))
  have HE := Lib.hid hE
  have HAW : Hid (∀ w1, Below w.heap.size w w1 → Calls Tryd.prog 9 #[] w1 fun e w' => e = .returned (.bool true) ∧ Below w1.heap.size w1 w') := Lib.hid (fun w1 h => awake_any w1 (hE.below h))
  have hn1 : decide ((40 : Int) < (ns.length : Int)) = false := by simp; omega
  have hn2 : ¬ (40 : Int) < (ns.length : Int) := by omega
  unfold BuiltPost at HB
  obtain ⟨L, hL⟩ : ∃ L, L = bld 100 ns := ⟨_, rfl⟩
  rw [← hL] at HB
  have HSZ : Hid (∀ w1 b g bm cap p, St w w1 b g bm cap 100 L → i64ok p → Calls Tryd.prog 13 #[.pointer (some ⟨b, 0, none⟩), .int .i64 p] w1 fun e w' => e = .returned (.int .i64 (rows L p).length) ∧ Below w1.heap.size w1 w') := Lib.hid (fun w1 b g bm cap p h hp => sizeF_any p hp w1 (hE.below h.bel) h.ar)
  clear hE hB hL
  by_cases hh : hasB L.length x = true
  · obtain ⟨i, rfl⟩ : ∃ i : Nat, x = i := ⟨x.toNat, by have := hasB_iff.1 hh; omega⟩
    have hi : i < L.length := by have := hasB_iff.1 hh; omega
    obtain ⟨d, hd⟩ : ∃ d, d = L.getD i zN := ⟨_, rfl⟩
    have HG : Hid (∀ w1 b g bm cap, St w w1 b g bm cap 100 L → Calls Tryd.prog 19 #[.pointer (some ⟨b, 0, none⟩), .int .i64 i] w1 fun e w' => e = .returned (.tuple #[agg d, .bool true]) ∧ Below w1.heap.size w1 w') := Lib.hid (fun w1 b g bm cap h => by rw [hd]; exact get_yes b g bm cap 100 L i hi w1 h.ar)
    have HF : Hid (∀ w1 b g bm cap, St w w1 b g bm cap 100 L → (∀ p ∈ prt d, i64ok p ∧ (rows L p).length < (rows L i).length) ∧ 0 ≤ many d.k ∧ 1 ≤ (rows L i).length ∧ (rows L i).length ≤ L.length ∧ L.length ≤ 65536) := Lib.hid (fun w1 b g bm cap h => by
      have hw := h.ar.wf
      have hs := h.ar.small
      have hnd : nd L i = d := by rw [hd]; rfl
      refine ⟨fun p hp => ?_, by rw [hd]; exact (right_iff.1 (hw.good i hi)).1, List.length_pos_of_mem (rows_self hh), (rows_acc hw i).len, hs⟩
      rw [← hnd] at hp
      have := prt_in hw hh hp
      exact ⟨by unfold i64ok; omega, rows_lt hw hh hp⟩)
    obtain ⟨k1, n1, a1, b1, c1⟩ := d
    have HH := Lib.hid hh
    clear hh hd
    unfold agg at HG
    simp only at HG
    obtain ⟨sz, hsz⟩ : ∃ z, z = (rows L i).length := ⟨_, rfl⟩
    rw [← hsz] at HF
    have HSZX : Hid (∀ w1 b g bm cap, St w w1 b g bm cap 100 L → Calls Tryd.prog 13 #[.pointer (some ⟨b, 0, none⟩), .int .i64 i] w1 fun e w' => e = .returned (.int .i64 sz) ∧ Below w1.heap.size w1 w') := Lib.hid (fun w1 b g bm cap h => by rw [hsz]; exact HSZ.out w1 b g bm cap i h hx)
    clear hsz
    go_enter Tryd.func8, Tryd.ntmps8
    go_wp2_with (first
      | (go_at_call 10; refine HB.out.mono ?_; rintro e w1 ⟨b, g, bm, cap, gr, capr, rfl, hP⟩; have hS0 := fun o => hP.st.keep ((Below.refl w1.heap.size w1).alloc (Nat.le_refl _) o))
      | (go_at_call 19; refine (HG.out _ b g bm cap (hS0 _)).mono ?_; rintro e w2 ⟨rfl, hb2⟩; have hS2 := fun o => ((hS0 _).keep hb2).keep ((Below.refl w2.heap.size w2).alloc (Nat.le_refl _) o))
      | (go_at_call 13; refine (HSZX.out _ b g bm cap (hS2 _)).mono ?_; rintro e w3 ⟨rfl, hb3⟩))
    have hS3 := (hS2 (.cells #[.int .i64 k1, .int .u64 n1, .int .i64 a1, .int .i64 b1, .int .i64 c1] 48)).keep hb3
    obtain ⟨f1, f2, f3, f4, f5⟩ := HF.out _ b g bm cap hS3
    obtain ⟨kk, hkk, hk10⟩ : ∃ kk : Nat, k1 = kk ∧ kk < 10 := kind_nat f2
    subst hkk
    have hbx : w3.heap[w2.heap.size]? = some (.cells #[.int .i64 (kk : Int), .int .u64 n1, .int .i64 a1, .int .i64 b1, .int .i64 c1] 48 (0, 0)) := (hb3.block _ (by simp)).trans (heap_alloc_new w2 _)
    obtain ⟨y0, y1, y2, y3, y4, -⟩ := node_facts hbx
    have hnl := lt_of_heap hbx
    have hpl : many (kk : Int) = ((prt ⟨kk, n1, a1, b1, c1⟩).length : Nat) := (prt_length (d := ⟨kk, n1, a1, b1, c1⟩) f2).symm
    have hp3 := prt_len ⟨kk, n1, a1, b1, c1⟩
    obtain ⟨ps, hps⟩ : ∃ ps, ps = prt ⟨kk, n1, a1, b1, c1⟩ := ⟨_, rfl⟩
    rw [← hps] at hpl hp3 f1
    have HPS := Lib.hid hps
    have HPL := Lib.hid hpl
    have HF1 := Lib.hid f1
    obtain ⟨nb, hnb⟩ : ∃ nb, nb = w2.heap.size := ⟨_, rfl⟩
    rw [← hnb] at y0 y1 y2 y3 y4 hnl hbx
    rw [← hnb]
    have HS3 := Lib.hid hS3
    have HBX := Lib.hid hbx
    clear hS0 hS2 hb2 hb3 hbx hpl hps f1 f2 hS3 hnb
    have hq1 : (0 : Int) ≤ (ps.length : Int) := by omega
    have hq2 : (ps.length : Int) ≤ 3 := by omega
    go_cut [54, 55, 56] (fun s54 s55 s56 wx => ∃ sb, s54 = .slice (some ⟨sb, 0, none⟩) ps.length 3 ∧ s55 = .int .i64 ps.length ∧ s56 = .int .i64 0 ∧ tri wx sb a1 b1 c1 ∧ Below w3.heap.size w3 wx)
    case first =>
      go_region_held3 (fun w' => w'.cell? ⟨nb, 0, none⟩ = some (.int .i64 (kk : Int)) ∧ w'.cell? ⟨nb, 2, none⟩ = some (.int .i64 a1) ∧ w'.cell? ⟨nb, 3, none⟩ = some (.int .i64 b1) ∧ w'.cell? ⟨nb, 4, none⟩ = some (.int .i64 c1)) (go_keep)
        (first
          | (go_at_call 20; refine (many_any _ _).mono ?_; rintro e w' ⟨rfl, rfl⟩; rw [HPL.out]))
      all_goals
        go_wp2_with fail
        go_meet
        case rel => exact ⟨w3.heap.size, rfl, rfl, rfl, heap_alloc_new w3 _, ((Below.refl _ _).alloc (Nat.le_refl _) _).drew⟩
    case rest =>
      obtain ⟨sb, rfl, rfl, rfl, ht, hbc⟩ := hcut
      have HT := Lib.hid ht
      have HSC := Lib.hid (HS3.out.keep hbc)
      clear ht hbc y0 y1 y2 y3 y4
      go_wp2_with fail
      go_loopg [12, 56] ps.length (fun q _ u56 wr => ∃ k : Nat, k + q = ps.length ∧ u56 = .int .i64 k ∧ Below wc.heap.size wc wr)
      case atStart => exact ⟨0, by omega, rfl, Below.refl _ _⟩
      case round =>
        obtain ⟨k, hkq, rfl, hbr⟩ := hrel
        have hSr := HSC.out.keep hbr
        by_cases hlt : k < ps.length
        · obtain ⟨p, hpe⟩ : ∃ p, p = ps.getD k 0 := ⟨_, rfl⟩
          have hpm : p ∈ ps := by rw [hpe, List.getD_eq_getElem?_getD, List.getElem?_eq_getElem hlt]; simp
          have hf1 := HF1.out p hpm
          have cP : wr.cell? ⟨sb, k, none⟩ = some (.int .i64 p) := by
            rw [World.cell?_of_block (hbr.block sb (lt_of_heap HT.out)), hpe, HPS.out]
            exact tri_at HT.out (by rw [← HPS.out]; exact hlt)
          have HZ := Lib.hid (HSZ.out wr b g bm cap p hSr hf1.1)
          have hlt2 := hf1.2
          obtain ⟨pz', hpz'⟩ : ∃ v, v = (rows L p).length := ⟨_, rfl⟩
          rw [← hpz'] at HZ hlt2
          have hlt3 : ¬ (sz : Int) ≤ (pz' : Int) := by omega
          have hlt4 : decide ((sz : Int) ≤ (pz' : Int)) = false := by simpa using hlt3
          have HBR := Lib.hid hbr
          clear hpe hpm hf1 hpz' hSr hbr
          go_wp2_with (go_at_call 13; refine HZ.out.mono ?_; rintro e w5 ⟨rfl, hb5⟩)
          go_roundg (ps.length - (k + 1))
          case rel => exact ⟨k + 1, by omega, by simp, HBR.out.trans (hb5.mono HBR.out.size)⟩
          case measure => omega
        · have HLN := Lib.hid (len_any b (some ⟨g, 0, none⟩) L.length cap wr hSr.ar.c0)
          have HA := Lib.hid (HAW.out wr hSr.bel)
          have HSR := Lib.hid hSr
          have g1 : (1 : Int) ≤ (sz : Int) := by omega
          have g2 : (sz : Int) ≤ (L.length : Int) := by omega
          clear hSr hbr
          go_wp2_with (first
            | (go_at_call 22; refine HLN.out.mono ?_; rintro e w5 ⟨rfl, hw5⟩; rw [← hw5]; clear hw5)
            | (go_at_call 9; refine HA.out.mono ?_; rintro e w6 ⟨rfl, hb6⟩))
          go_ret
          exact ⟨rfl, (HSR.out.keep hb6).bel⟩
  · have hh' : hasB L.length x = false := by simpa using hh
    have HG : Hid (∀ w1 b g bm cap, St w w1 b g bm cap 100 L → Calls Tryd.prog 19 #[.pointer (some ⟨b, 0, none⟩), .int .i64 x] w1 fun e w' => e = .returned (.tuple #[agg zN, .bool false]) ∧ Below w1.heap.size w1 w') := Lib.hid (fun w1 b g bm cap h => get_no b g bm cap 100 L x hh' w1 h.ar)
    have HZ0 : Hid (∀ w1 b g bm cap, St w w1 b g bm cap 100 L → Calls Tryd.prog 13 #[.pointer (some ⟨b, 0, none⟩), .int .i64 x] w1 fun e w' => e = .returned (.int .i64 0) ∧ Below w1.heap.size w1 w') := Lib.hid (fun w1 b g bm cap h => by
      have := HSZ.out w1 b g bm cap x h hx
      rw [rows_no hh'] at this; exact this)
    clear hh hh'
    unfold agg zN at HG
    simp only at HG
    go_enter Tryd.func8, Tryd.ntmps8
    go_wp2_with (first
      | (go_at_call 10; refine HB.out.mono ?_; rintro e w1 ⟨b, g, bm, cap, gr, capr, rfl, hP⟩; have hS0 := fun o => hP.st.keep ((Below.refl w1.heap.size w1).alloc (Nat.le_refl _) o))
      | (go_at_call 19; refine (HG.out _ b g bm cap (hS0 _)).mono ?_; rintro e w2 ⟨rfl, hb2⟩; have hS2 := fun o => ((hS0 _).keep hb2).keep ((Below.refl w2.heap.size w2).alloc (Nat.le_refl _) o))
      | (go_at_call 13; refine (HZ0.out _ b g bm cap (hS2 _)).mono ?_; rintro e w3 ⟨rfl, hb3⟩)
      | (go_at_call 9; refine (HAW.out w3 ((hS2 _).keep hb3).bel).mono ?_; rintro e w4 ⟨rfl, hb4⟩))
    go_ret
    exact ⟨rfl, (((hS2 _).keep hb3).keep hb4).bel⟩
end Go.Proofs.YtcgdkiahcnhoeaaDoor
