/- Layer 7: walks of take, begin. -/
import Derived.Test.YtahbbojhdkillaaDoorCe
namespace Go.Proofs.YtahbbojhdkillaaDoor
open Go.RowKit Go.Shelf

theorem box2c {w : World} {b : Nat} {v0 v1 : Value} {T : TypeId} (h : w.heap[b]? = some (.cells #[v0, v1] T (0, 0))) : w.cell? ⟨b, 0, none⟩ = some v0 ∧ w.cell? ⟨b, 1, none⟩ = some v1 :=
  ⟨(cell_of_row w _ 0 _ _ _ h).trans rfl, (cell_of_row w _ 1 _ _ _ h).trans rfl⟩
theorem below_gw {w0 w wr : World} {b : Nat} (h : Below w0.heap.size w0 w) (hg : w.grownBy wr (some b)) (hb : w0.heap.size ≤ b) : Below w0.heap.size w0 wr :=
  h.grown hg h.size fun k e => by cases e; exact hb
theorem gw_block {w wr : World} {b j : Nat} {o : Obj} (hg : w.grownBy wr (some b)) (h : w.heap[j]? = some o) (hj : j ≠ b) : wr.heap[j]? = some o := (hg.block j (lt_of_heap h) (fun e => hj (by cases e; rfl))).trans h
theorem rtk_next {p : Pt} {r : Int} {l : List Int} {i : Nat} {L : List Tk} (h : i < l.length) : rtk p r L (l.drop i) = if rone p r (l.getD i 0) L = 0 then rtk p r (L ++ [(r, l.getD i 0)]) (l.drop (i + 1)) else rone p r (l.getD i 0) L := by
  rw [drop_nextI h]; rfl
theorem map_next {r : Int} {l : List Int} {i : Nat} {L : List Tk} (h : i < l.length) : L ++ (l.take (i + 1)).map (fun t => (r, t)) = (L ++ (l.take i).map fun t => (r, t)) ++ [(r, l.getD i 0)] := by
  rw [take_nextI h]; simp
/-- While a message is processed. -/
structure Tv (p : Pt) (r : Int) (L : List Tk) (l : List Int) (bv : Obj) (w : World) (b i : Nat) (f : Cs) (wr : World) : Prop where
  st : StV wr b f
  sr : Sr p f (L ++ (l.take i).map fun t => (r, t))
  rt : rtk p r L l = rtk p r (L ++ (l.take i).map fun t => (r, t)) (l.drop i)
  bx : wr.heap[w.heap.size]? = some bv
  gr : w.grownBy wr (some b)
  lt : b < w.heap.size

set_option maxRecDepth 100000 in
set_option maxHeartbeats 4000000 in
theorem take7_any (p : Pt) (L : List Tk) (f : Cs) (b : Nat) (s : Option Addr) (c : Nat) (r : Int) (l : List Int) (hr : r = 0 ∨ r = 1) (hl : ∀ t ∈ l, isTok t = true) (hlen : l.length ≤ 65536) (w0 w : World) (hb0 : Below w0.heap.size w0 w) (hbb : w0.heap.size ≤ b) (hk : Ky w0) (hs : StV w b f) (hS : Sr p f L) (hi : IntsV w0 s l) :
    Calls Tryd.prog 41 #[.pointer (some ⟨b, 0, none⟩), .agg #[.int .i64 r, .slice s l.length c]] w fun e w' => e = .returned (.int .i64 (rtk p r L l)) ∧ w.grownBy w' (some b) ∧ (rtk p r L l = 0 → ∃ f', StV w' b f' ∧ Sr p f' (L ++ l.map fun t => (r, t))) := by
  have hlb := lt_of_heap hs
  obtain ⟨n, hn⟩ : ∃ n, n = l.length := ⟨_, rfl⟩
  rw [← hn]
  have hn65 : (n : Int) ≤ 65536 := by omega
  have HN := Lib.hid hn
  have HT0 : Hid (Tv p r L l (.cells #[.int .i64 r, .slice s n c] 68 (0, 0)) w b 0 f (w.alloc (.cells #[.int .i64 r, .slice s n c] 68))) := Lib.hid
    ⟨hs.keep ((Below.refl _ _).alloc (Nat.le_refl _) _), by simpa using hS, by simp, heap_alloc_new w _, grown_of_below ((Below.refl _ _).alloc (Nat.le_refl _) _), hlb⟩
  have HI := Lib.hid hi
  have HR := Lib.hid hr
  have HTK := Lib.hid hl
  have HK := Lib.hid hk
  have HB0 := Lib.hid (And.intro hb0 hbb)
  clear hn hs hS hi hr hl hk hb0 hbb hlen
  go_enter Tryd.func41, Tryd.ntmps41
  go_wp2_with fail
  go_loopg [11] n (fun q u11 wr => ∃ (i : Nat) (g : Cs), i + q = n ∧ u11 = .int .i64 i ∧ Aside (Tv p r L l (.cells #[.int .i64 r, .slice s n c] 68 (0, 0)) w b i g wr))
  case atStart => exact ⟨0, f, by omega, rfl, HT0.out⟩
  case round =>
    obtain ⟨i, g, hiq, rfl, htv⟩ := hrel
    have HTV := Lib.hid htv.out; clear htv
    have HBW := Lib.hid (below_gw HB0.out.1 HTV.out.gr HB0.out.2)
    obtain ⟨m0, m1⟩ := box2c HTV.out.bx
    have lm := lt_of_heap HTV.out.bx
    by_cases hlt : i < n
    · obtain ⟨gb, o, hsa, hia⟩ := HI.out (by have := HN.out; omega)
      subst hsa
      have hx := hia i (by have := HN.out; omega)
      clear hia
      obtain ⟨x, hxx⟩ : ∃ x, x = l.getD i 0 := ⟨_, rfl⟩
      rw [← hxx] at hx
      have hx' : wr.cell? ⟨gb, o + i, none⟩ = some (.int .i64 x) := (HBW.out.cell (p := ⟨gb, o + i, none⟩) (World.block_lt_of_cell? _ _ hx)).trans hx
      have HTX : Hid (isTok x = true) := Lib.hid (HTK.out x (by rw [hxx, List.getD_eq_getElem?_getD, List.getElem?_eq_getElem (by have := HN.out; omega)]; exact List.getElem_mem _))
      have HBA := Lib.hid (brokenAt_any b g r x HR.out HTX.out wr (HK.out.keep HBW.out) HTV.out.st)
      rw [HTV.out.sr.bat HR.out HTX.out] at HBA
      have HNX := Lib.hid (rtk_next (p := p) (r := r) (L := L ++ (l.take i).map fun t => (r, t)) (show i < l.length by have := HN.out; omega))
      rw [← hxx] at HNX
      have HMX := Lib.hid (map_next (r := r) (L := L) (show i < l.length by have := HN.out; omega))
      rw [← hxx] at HMX
      obtain ⟨v, hv⟩ : ∃ v, v = rone p r x (L ++ (l.take i).map fun t => (r, t)) := ⟨_, rfl⟩
      rw [← hv] at HBA HNX
      clear hxx hx hv
      have hi2 : (i : Int) < n := by omega
      by_cases hz : v = 0
      · subst hz
        go_wp2_with (first
          | (go_at_call 57; refine HBA.out.mono ?_; rintro e w1 ⟨rfl, hb1⟩; have HB1 := Lib.hid hb1; clear hb1 m0 m1; obtain ⟨m0, m1⟩ := box2c ((HB1.out.block _ lm).trans HTV.out.bx))
          | (go_at_call 56; refine (process_any b g r x HR.out HTX.out _ (HTV.out.st.keep HB1.out)).mono ?_; rintro e w2 ⟨rfl, hs2, hg2⟩; have HS2 := Lib.hid hs2; have HG2 := Lib.hid hg2; clear hs2 hg2))
        go_roundg (n - (i + 1))
        case measure => omega
        case rel =>
          have hnx := HNX.out
          rw [if_pos trivial, ← HMX.out] at hnx
          exact ⟨i + 1, pc g r x, by omega, by go_num, (show Aside _ from ⟨HS2.out, by rw [HMX.out]; exact HTV.out.sr.pc HR.out HTX.out, HTV.out.rt.trans hnx, gw_block HG2.out ((HB1.out.block _ lm).trans HTV.out.bx) (by have := HTV.out.lt; omega), gw_trans HTV.out.gr (gw_trans (grown_of_below HB1.out) HG2.out), HTV.out.lt⟩)⟩
      · have hzb : (v != 0) = true := by simpa using hz
        have HZ : Hid (rtk p r L l = v ∧ v ≠ 0) := Lib.hid ⟨by
          have hnx := HNX.out
          rw [if_neg hz] at hnx
          exact HTV.out.rt.trans hnx, hz⟩
        clear hz
        go_wp2_with (go_at_call 57; refine HBA.out.mono ?_; rintro e w1 ⟨rfl, hb1⟩; have HB1 := Lib.hid hb1; clear hb1 m0 m1)
        go_ret
        exact ⟨by rw [HZ.out.1]; rfl, gw_trans HTV.out.gr (grown_of_below HB1.out), fun h => absurd (HZ.out.1.symm.trans h) HZ.out.2⟩
    · have hi2 : ¬ (i : Int) < n := by omega
      have HF : Hid (rtk p r L l = sl p r (L ++ l.map fun t => (r, t)) ∧ Sr p g (L ++ l.map fun t => (r, t))) := Lib.hid (by
        have h1 := HTV.out.rt
        have h2 := HTV.out.sr
        rw [List.drop_of_length_le (by have := HN.out; omega)] at h1
        rw [List.take_of_length_le (by have := HN.out; omega)] at h1 h2
        exact ⟨h1, h2⟩)
      have HBB := Lib.hid (bbs_any b g r HR.out wr (HK.out.keep HBW.out) HTV.out.st)
      rw [HF.out.2.bbs HR.out] at HBB
      obtain ⟨v, hv⟩ : ∃ v, v = sl p r (L ++ l.map fun t => (r, t)) := ⟨_, rfl⟩
      rw [← hv] at HBB
      have HV := Lib.hid hv
      clear hv
      go_wp2_with (go_at_call 58; refine HBB.out.mono ?_; rintro e w1 ⟨rfl, hb1⟩; have HB1 := Lib.hid hb1; clear hb1 m0 m1)
      go_ret
      exact ⟨by rw [HF.out.1, ← HV.out]; rfl, gw_trans HTV.out.gr (grown_of_below HB1.out), fun _ => ⟨g, HTV.out.st.keep HB1.out, HF.out.2⟩⟩

theorem csA_new (v : Bool) : (#[Value.bool v, .bool false, .bool false, .bool false, .bool false, .bool false, .bool false, .bool false, .bool false, .bool false, .bool false, .bool false, .bool false, .bool false, .bool false] : Array Value) = csA (fun j => decide (j = 0) && v) := by
  unfold csA; simp
theorem pre1_next {r : Int} {f : Cs} {l : List Int} {i : Nat} (h : i < l.length) : pre1 r f (l.take (i + 1)) = pc (pre1 r f (l.take i)) r (l.getD i 0) := by
  unfold pre1; rw [take_nextI h, List.foldl_append]; rfl
set_option maxRecDepth 100000 in
set_option maxHeartbeats 4000000 in
theorem begin_any (x : Sl) (p : Pt) (hr : right p = true) (w : World) (hp : PatA w x p) : Calls Tryd.prog 40 #[patV x p] w fun e w' => ∃ b, e = .returned (.pointer (some ⟨b, 0, none⟩)) ∧ StV w' b (bg p) ∧ w.heap.size ≤ b ∧ Below w.heap.size w w' := by
  have HPS := Lib.hid (fun wx h => hasPsk_any x p hr wx h)
  obtain ⟨nm, p0, p1, ms⟩ := p
  obtain ⟨s0, c0, s1, c1, s2, c2⟩ := x
  obtain ⟨-, t0, t1⟩ := right_pre hr
  obtain ⟨l0, l1, -, -⟩ := right_lens hr
  have HP := Lib.hid hp
  have HI0 := Lib.hid hp.i0
  have HI1 := Lib.hid hp.i1
  unfold patV at HPS ⊢
  simp only at HPS HI0 HI1 l0 l1 t0 t1 ⊢
  have HQ0 := Lib.hid t0
  have HQ1 := Lib.hid t1
  have x0 : ∀ w, (Instr.index 26 (.agg #[.slice s0 p0.length c0, .slice s1 p1.length c1]) (.int .i64 0)).run Tryd.prog w = .ok (.slice s0 p0.length c0) w := fun _ => by kernel_rfl
  have x1 : ∀ w, (Instr.index 26 (.agg #[.slice s0 p0.length c0, .slice s1 p1.length c1]) (.int .i64 1)).run Tryd.prog w = .ok (.slice s1 p1.length c1) w := fun _ => by kernel_rfl
  obtain ⟨n0, hn0⟩ : ∃ n, n = p0.length := ⟨_, rfl⟩
  obtain ⟨n1, hn1⟩ : ∃ n, n = p1.length := ⟨_, rfl⟩
  rw [← hn0] at x0 x1 HPS ⊢
  rw [← hn1] at x0 x1 HPS ⊢
  have hz0 : (n0 : Int) ≤ 65536 := by omega
  have hz1 : (n1 : Int) ≤ 65536 := by omega
  have HN0 := Lib.hid hn0
  have HN1 := Lib.hid hn1
  clear hn0 hn1 l0 l1 t0 t1 hp hr
  obtain ⟨v, hv⟩ : ∃ v, v = psk ⟨nm, p0, p1, ms⟩ := ⟨_, rfl⟩
  rw [← hv] at HPS
  have HV := Lib.hid hv
  clear hv
  go_enter Tryd.func40, Tryd.ntmps40
  go_wp2_with (go_at_call 54; refine (HPS.out _ (by have h := HP.out.keep ((Below.refl _ _).alloc (Nat.le_refl _) (.cells #[.string ⟨nm.toArray⟩, .slice s0 p0.length c0, .slice s1 p1.length c1, .slice s2 ms.length c2] 29)); rw [← HN0.out, ← HN1.out] at h; exact h)).mono ?_; rintro e w1 ⟨rfl, hb1⟩; obtain ⟨k0, k1, k2, k3, hbw⟩ := box4 hb1; have HBW := Lib.hid hbw; have lw := World.block_lt_of_cell? _ _ k0; clear hb1 hbw)
  have HS0 : Hid (StV (w1.alloc (.cells #[.bool v, .bool false, .bool false, .bool false, .bool false, .bool false, .bool false, .bool false, .bool false, .bool false, .bool false, .bool false, .bool false, .bool false, .bool false] 97)) w1.heap.size (fun j => decide (j = 0) && v)) := Lib.hid (by
    have h := heap_alloc_new w1 (.cells #[.bool v, .bool false, .bool false, .bool false, .bool false, .bool false, .bool false, .bool false, .bool false, .bool false, .bool false, .bool false, .bool false, .bool false, .bool false] 97)
    unfold StV; rw [← csA_new]; exact h)
  have HA0 : Hid (Below w.heap.size w (w1.alloc (.cells #[.bool v, .bool false, .bool false, .bool false, .bool false, .bool false, .bool false, .bool false, .bool false, .bool false, .bool false, .bool false, .bool false, .bool false, .bool false] 97))) := Lib.hid (HBW.out.alloc HBW.out.size _)
  have HSZ := Lib.hid HBW.out.size
  refine wp_loop_rounds 3 ?_
  rw [rounds_succ]
  go_wp2_with fail
  clear k0 k1 k2 k3 lw
  go_loopg [20] n0 (fun q u20 wr => ∃ i : Nat, i + q = n0 ∧ u20 = .int .i64 i ∧ Aside (StV wr w1.heap.size (pre1 0 (fun j => decide (j = 0) && v) (p0.take i)) ∧ Below w.heap.size w wr))
  case atStart => exact ⟨0, by omega, rfl, HS0.out, HA0.out⟩
  case round =>
    obtain ⟨i, hiq, rfl, ht⟩ := hrel
    have HT := Lib.hid ht.out; clear ht
    by_cases hlt : i < n0
    · obtain ⟨gb, o, hsa, hia⟩ := (HI0.out.keep HT.out.2) (by have := HN0.out; omega)
      subst hsa
      have hx := hia i (by have := HN0.out; omega)
      clear hia
      obtain ⟨x, hxx⟩ : ∃ x, x = p0.getD i 0 := ⟨_, rfl⟩
      rw [← hxx] at hx
      have HX := Lib.hid hxx
      have HTX : Hid (x = 1 ∨ x = 2) := Lib.hid (HQ0.out x (by rw [hxx, List.getD_eq_getElem?_getD, List.getElem?_eq_getElem (by have := HN0.out; omega)]; exact List.getElem_mem _))
      clear hxx
      have HKB : Hid ((decide (x = 1) || decide (x = 2)) = true) := Lib.hid (by rcases HTX.out with e | e <;> simp [e])
      have HPR := Lib.hid (process_any w1.heap.size _ 0 x (by decide) (by rcases HTX.out with e | e <;> (rw [e]; rfl)) wr HT.out.1)
      have hi2 : (i : Int) < n0 := by omega
      go_wp2_with (first
        | (go_at_call 55; refine (isKey_any _ _).mono ?_; rintro e w2 ⟨rfl, rfl⟩; rw [HKB.out])
        | (go_at_call 56; refine HPR.out.mono ?_; rintro e w3 ⟨rfl, hs3, hg3⟩; have HS3 := Lib.hid hs3; have HG3 := Lib.hid hg3; clear hs3 hg3))
      go_roundg (n0 - (i + 1))
      case measure => omega
      case rel => exact ⟨i + 1, by omega, by go_num, (show _ ∧ _ from ⟨by rw [pre1_next (by have := HN0.out; omega), ← HX.out]; exact HS3.out, below_gw HT.out.2 HG3.out HSZ.out⟩)⟩
    · have hi2 : ¬ (i : Int) < n0 := by omega
      have HS1 : Hid (StV wr w1.heap.size (pre1 0 (fun j => decide (j = 0) && v) p0)) := Lib.hid (by
        have h := HT.out.1
        rw [List.take_of_length_le (by have := HN0.out; omega)] at h; exact h)
      have HA1 := Lib.hid HT.out.2
      go_wp2_with fail
      rw [rounds_succ]
      go_wp2_with fail
      go_loopg [20] n1 (fun q u20 wr => ∃ i : Nat, i + q = n1 ∧ u20 = .int .i64 i ∧ Aside (StV wr w1.heap.size (pre1 1 (pre1 0 (fun j => decide (j = 0) && v) p0) (p1.take i)) ∧ Below w.heap.size w wr))
      case atStart => exact ⟨0, by omega, rfl, HS1.out, HA1.out⟩
      case round =>
        obtain ⟨i, hiq, rfl, ht⟩ := hrel
        have HT := Lib.hid ht.out; clear ht
        by_cases hlt : i < n1
        · obtain ⟨gb, o, hsa, hia⟩ := (HI1.out.keep HT.out.2) (by have := HN1.out; omega)
          subst hsa
          have hx := hia i (by have := HN1.out; omega)
          clear hia
          obtain ⟨x, hxx⟩ : ∃ x, x = p1.getD i 0 := ⟨_, rfl⟩
          rw [← hxx] at hx
          have HX := Lib.hid hxx
          have HTX : Hid (x = 1 ∨ x = 2) := Lib.hid (HQ1.out x (by rw [hxx, List.getD_eq_getElem?_getD, List.getElem?_eq_getElem (by have := HN1.out; omega)]; exact List.getElem_mem _))
          clear hxx
          have HKB : Hid ((decide (x = 1) || decide (x = 2)) = true) := Lib.hid (by rcases HTX.out with e | e <;> simp [e])
          have HPR := Lib.hid (process_any w1.heap.size _ 1 x (by decide) (by rcases HTX.out with e | e <;> (rw [e]; rfl)) wr HT.out.1)
          have hi2 : (i : Int) < n1 := by omega
          go_wp2_with (first
            | (go_at_call 55; refine (isKey_any _ _).mono ?_; rintro e w2 ⟨rfl, rfl⟩; rw [HKB.out])
            | (go_at_call 56; refine HPR.out.mono ?_; rintro e w3 ⟨rfl, hs3, hg3⟩; have HS3 := Lib.hid hs3; have HG3 := Lib.hid hg3; clear hs3 hg3))
          go_roundg (n1 - (i + 1))
          case measure => omega
          case rel => exact ⟨i + 1, by omega, by go_num, (show _ ∧ _ from ⟨by rw [pre1_next (by have := HN1.out; omega), ← HX.out]; exact HS3.out, below_gw HT.out.2 HG3.out HSZ.out⟩)⟩
        · have hi2 : ¬ (i : Int) < n1 := by omega
          have HS2 : Hid (StV wr w1.heap.size (pre1 1 (pre1 0 (fun j => decide (j = 0) && v) p0) p1)) := Lib.hid (by
            have h := HT.out.1
            rw [List.take_of_length_le (by have := HN1.out; omega)] at h; exact h)
          have HA2 := Lib.hid HT.out.2
          go_wp2_with fail
          rw [rounds_succ]
          go_wp2_with fail
          go_ret
          exact ⟨_, rfl, by unfold bg; simp only; rw [← HV.out]; exact HS2.out, HSZ.out, HA2.out⟩
end Go.Proofs.YtahbbojhdkillaaDoor
