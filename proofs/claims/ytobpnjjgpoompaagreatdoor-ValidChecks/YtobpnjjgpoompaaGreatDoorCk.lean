/- Layer 7: the walk of Keyed. -/
import Derived.Test.YtobpnjjgpoompaaGreatDoorCj
namespace Go.Proofs.YtobpnjjgpoompaaGreatDoor
open Go.RowKit Go.Shelf

/-- While messages are gone through. -/
structure Kv (p : Pt) (pv : Obj) (w : World) (b : Nat) (L : List Tk) (f : Cs) (wr : World) : Prop where
  st : StV wr b f
  sr : Sr p f L
  bx : wr.heap[w.heap.size]? = some pv
  bel : Below w.heap.size w wr
  gb : w.heap.size < b
set_option maxRecDepth 100000 in
set_option maxHeartbeats 1000000 in
theorem keyed7_any (x : Sl) (p : Pt) (k : Nat) (hkl : k < p.ms.length) (hr : right p = true) (w : World) (hp : PatA w x p) (hk : Ky w) : Calls Tryz.prog 19 #[patV x p, .int .i64 k] w fun e w' => e = .returned (.bool (rkey p (flat (p.ms.take (k + 1))))) ∧ Below w.heap.size w w' := by
  have HBG := Lib.hid (fun wx (hb : Below w.heap.size w wx) => begin_any x p hr wx (hp.keep hb))
  have HK := Lib.hid hk
  have HIM := Lib.hid hp.im
  have HR := Lib.hid hr
  have HLN := Lib.hid (right_lens hr).2.2
  have hcp := hp.cp
  obtain ⟨s0, c0, s1, c1, s2, c2⟩ := x
  have HBX := Lib.hid (heap_alloc_new w (.cells #[.string ⟨p.nm.toArray⟩, .slice s0 p.p0.length c0, .slice s1 p.p1.length c1, .slice s2 p.ms.length c2] 26))
  unfold patV at HBG ⊢
  simp only at HBG HBX HIM hcp ⊢
  obtain ⟨n, hn⟩ : ∃ n, n = p.ms.length := ⟨_, rfl⟩
  rw [← hn] at HBG HBX hkl hcp ⊢
  have HN := Lib.hid hn
  have hk1 : (k : Int) < n := by omega
  have hk0 : ¬ (n : Int) ≤ k := by omega
  have hkn : ¬ n ≤ k := by omega
  have hkc : (k : Int) + 1 ≤ c2 := by omega
  have hn65 : (n : Int) ≤ 65536 := by have := HLN.out.1; omega
  have HKL := Lib.hid hkl
  obtain ⟨g, o, hs2, -⟩ := HIM.out (by omega)
  subst hs2
  clear hn hp hk hr hkl
  go_enter Tryz.func19, Tryz.ntmps19
  go_wp2_with (go_at_call 24; refine (HBG.out _ ((Below.refl _ _).alloc (Nat.le_refl _) _)).mono ?_; rintro e w2 ⟨b, rfl, hs2, hsz2, hb2⟩; have HS2 := Lib.hid hs2; have HSZ := Lib.hid hsz2; have HX2 := Lib.hid ((hb2.block _ (lt_of_heap HBX.out)).trans HBX.out); have HB2 := Lib.hid (((Below.refl _ _).alloc (Nat.le_refl _) _).trans (hb2.mono (by simp)) : Below w.heap.size w w2); obtain ⟨b0, b1, b2, b3, -⟩ := box4c HX2.out; clear hs2 hsz2 hb2)
  have HC0 : Hid (Kv p (.cells #[.string ⟨p.nm.toArray⟩, .slice s0 p.p0.length c0, .slice s1 p.p1.length c1, .slice (some ⟨g, o, none⟩) n c2] 26 (0, 0)) w b (flat (p.ms.take 0)) (bg p) w2) := Lib.hid ⟨HS2.out, by simpa [flat_nil] using sr_bg HR.out, HX2.out, HB2.out, by have := HSZ.out; simp at this; omega⟩
  clear b0 b1 b2 b3
  go_loopg [27] (k + 1) (fun q u27 wr => ∃ (i : Nat) (f : Cs), i + q = k + 1 ∧ u27 = .int .i64 i ∧ Aside (Kv p (.cells #[.string ⟨p.nm.toArray⟩, .slice s0 p.p0.length c0, .slice s1 p.p1.length c1, .slice (some ⟨g, o, none⟩) n c2] 26 (0, 0)) w b (flat (p.ms.take i)) f wr))
  case atStart => exact ⟨0, bg p, by omega, rfl, HC0.out⟩
  case round =>
    obtain ⟨i, f, hiq, rfl, hcv⟩ := hrel
    have HCV := Lib.hid hcv.out; clear hcv
    obtain ⟨wo, rfl⟩ : ∃ wo, wo = wr := ⟨_, rfl⟩
    by_cases hlt : i < k + 1
    · have hi2 : (i : Int) < (k : Int) + 1 := by omega
      have HLT : Hid (i < p.ms.length) := Lib.hid (by have := HN.out; have := HKL.out; omega)
      have him := HIM.out.keep HCV.out.bel
      obtain ⟨g', o', hgo, hia⟩ := him (by have := HLT.out; omega)
      cases hgo
      obtain ⟨q0, sx, cx, q1, qi⟩ := hia i HLT.out
      have hmm := right_ms' HR.out (m := p.ms.getD i default) (by rw [List.getD_eq_getElem?_getD, List.getElem?_eq_getElem HLT.out]; exact List.getElem_mem _)
      have hll := HLN.out.2 i HLT.out
      have hfn := flat_next HLT.out
      have lg := World.block_lt_of_cell? _ _ q0
      have hi0 : IntsV w sx (p.ms.getD i default).t := by
        obtain ⟨g', o', e', hia'⟩ := HIM.out (by have := HLT.out; omega)
        cases e'
        obtain ⟨q0', sx', cx', q1', qi'⟩ := hia' i HLT.out
        have := (HCV.out.bel.cell (p := ⟨g, o + i * 2 + 1, none⟩) (World.block_lt_of_cell? _ _ q1')).trans q1'
        rw [q1] at this
        cases this
        exact qi'
      clear hia qi him
      obtain ⟨fr, hfr⟩ : ∃ fr, fr = (p.ms.getD i default).fr := ⟨_, rfl⟩
      obtain ⟨ts, hts⟩ : ∃ ts, ts = (p.ms.getD i default).t := ⟨_, rfl⟩
      rw [← hfr, ← hts] at hmm hfn
      rw [← hfr] at q0
      rw [← hts] at q1 hi0 hll
      have HFN := Lib.hid hfn
      have HMM := Lib.hid hmm
      have HI0 := Lib.hid hi0
      clear hfr hts hfn hmm hi0
      obtain ⟨m, hm⟩ : ∃ m, m = ts.length := ⟨_, rfl⟩
      rw [← hm] at q1
      have hm65 : (m : Int) ≤ 65536 := by omega
      have HM := Lib.hid hm
      clear hm hll
      have hki : (i : Int) < n := by have := HN.out; have := HLT.out; omega
      go_wp2_with fail
      have HIN : Hid (Kv p (.cells #[.string ⟨p.nm.toArray⟩, .slice s0 p.p0.length c0, .slice s1 p.p1.length c1, .slice (some ⟨g, o, none⟩) n c2] 26 (0, 0)) w b (flat (p.ms.take i) ++ (ts.take 0).map fun t => (fr, t)) f (wo.alloc (.cells #[.int .i64 fr, .slice sx m cx] 46)) ∧ (wo.alloc (.cells #[.int .i64 fr, .slice sx m cx] 46)).heap[wo.heap.size]? = some (.cells #[.int .i64 fr, .slice sx m cx] 46 (0, 0)) ∧ b < wo.heap.size) := Lib.hid
        ⟨⟨HCV.out.st.keep ((Below.refl _ _).alloc (Nat.le_refl _) _), by simpa using HCV.out.sr, (Below.heap_alloc _ _ _ (lt_of_heap HCV.out.bx)).trans HCV.out.bx, HCV.out.bel.alloc HCV.out.bel.size _, HCV.out.gb⟩, heap_alloc_new wo _, lt_of_heap HCV.out.st⟩
      go_loopg [34] m (fun q u34 wr => ∃ (j : Nat) (h : Cs), j + q = m ∧ u34 = .int .i64 j ∧ Aside (Kv p (.cells #[.string ⟨p.nm.toArray⟩, .slice s0 p.p0.length c0, .slice s1 p.p1.length c1, .slice (some ⟨g, o, none⟩) n c2] 26 (0, 0)) w b (flat (p.ms.take i) ++ (ts.take j).map fun t => (fr, t)) h wr ∧ wr.heap[wo.heap.size]? = some (.cells #[.int .i64 fr, .slice sx m cx] 46 (0, 0)) ∧ b < wo.heap.size))
      case atStart => exact ⟨0, f, by omega, rfl, HIN.out⟩
      case round =>
        obtain ⟨j, h, hjq, rfl, hkv⟩ := hrel
        have HKV := Lib.hid hkv.out; clear hkv
        obtain ⟨m0, m1⟩ := box2c HKV.out.2.1
        have lm := lt_of_heap HKV.out.2.1
        by_cases hjl : j < m
        · have hj2 : (j : Int) < m := by omega
          obtain ⟨gb, ob, hsa, hib⟩ := (HI0.out.keep HKV.out.1.bel) (by have := HM.out; omega)
          subst hsa
          have hx := hib j (by have := HM.out; omega)
          clear hib
          obtain ⟨x, hxx⟩ : ∃ x, x = ts.getD j 0 := ⟨_, rfl⟩
          rw [← hxx] at hx
          have HTX : Hid (isTok x = true) := Lib.hid (HMM.out.2 x (by rw [hxx, List.getD_eq_getElem?_getD, List.getElem?_eq_getElem (by have := HM.out; omega)]; exact List.getElem_mem _))
          have HMX := Lib.hid (map_next (r := fr) (L := flat (p.ms.take i)) (show j < ts.length by have := HM.out; omega))
          rw [← hxx] at HMX
          clear hxx
          have HPR := Lib.hid (process_any b h fr x HMM.out.1 HTX.out wr HKV.out.1.st)
          go_wp2_with (go_at_call 33; refine HPR.out.mono ?_; rintro e w3 ⟨rfl, hs3, hg3⟩; have HS3 := Lib.hid hs3; have HG3 := Lib.hid hg3; clear hs3 hg3)
          go_roundg (m - (j + 1))
          case measure => omega
          case rel => exact ⟨j + 1, pc h fr x, by omega, by go_num, (show _ ∧ _ ∧ _ from ⟨⟨HS3.out, by rw [HMX.out]; exact HKV.out.1.sr.pc HMM.out.1 HTX.out, gw_block HG3.out HKV.out.1.bx (by have := HKV.out.1.gb; omega), below_gw HKV.out.1.bel HG3.out (by have := HKV.out.1.gb; omega), HKV.out.1.gb⟩, gw_block HG3.out HKV.out.2.1 (by have := HKV.out.2.2; omega), HKV.out.2.2⟩)⟩
        · have hj2 : ¬ (j : Int) < m := by omega
          have HF : Hid (Kv p (.cells #[.string ⟨p.nm.toArray⟩, .slice s0 p.p0.length c0, .slice s1 p.p1.length c1, .slice (some ⟨g, o, none⟩) n c2] 26 (0, 0)) w b (flat (p.ms.take (i + 1))) h wr) := Lib.hid (by
            have h1 := HKV.out.1
            have e : ts.take j = ts := List.take_of_length_le (by have := HM.out; omega)
            rw [e, ← HFN.out] at h1
            exact h1)
          go_wp2_with fail
          go_roundg (k + 1 - (i + 1))
          case measure => omega
          case rel => exact ⟨i + 1, h, by omega, by go_num, HF.out⟩
    · have hi2 : ¬ (i : Int) < (k : Int) + 1 := by omega
      have HKE := Lib.hid (keyed_any b f wo (HK.out.keep HCV.out.bel) HCV.out.st)
      have HSR : Hid (kyd f = rkey p (flat (p.ms.take (k + 1)))) := Lib.hid (by
        have h1 := HCV.out.sr.kyd
        rw [show i = k + 1 by omega] at h1; exact h1)
      rw [HSR.out] at HKE
      go_wp2_with (go_at_call 34; refine HKE.out.mono ?_; rintro e w3 ⟨rfl, rfl⟩)
      go_ret
      exact ⟨rfl, HCV.out.bel⟩
end Go.Proofs.YtobpnjjgpoompaaGreatDoor
