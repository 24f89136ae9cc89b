/- Layer 3: walks: Learn of what is new. -/
import Derived.Test.YtemigefkkjgehaaDoorYc
namespace Go.Proofs.YtemigefkkjgehaaDoor
open Go.RowKit Go.Maps

def sealC (L : List Nd) (x : Int) : Clo := (.learn (nd L x).c, [(nd L x).a])
theorem learn_run {L : List Nd} (hL : WF L) {K : Int → Bool} (hK : ∀ r, K r = true → hasB L.length r = true) (hS : Shut L fun r => K r = true) {r : Int} (hr : hasB L.length r = true) {l : List Int} (hl : ∀ x ∈ l, K x = true ∧ (nd L x).k = 7) (hl' : ∀ x, K x = true → (nd L x).k = 7 → K (nd L x).c = true ∨ x ∈ l) :
    ∃ n s1 s2, allR (fun c => Run L n (.when_ c.1 c.2)) (l.map (sealC L)) (s0 K) s1 ∧ Run L n (.learn r) s1 s2 ∧ (∀ y, s2.K y = true ↔ cl L (fun x => K x = true ∨ x = r) y) ∧ Shut L (fun y => s2.K y = true) := by
  obtain ⟨s1, s2, h1, ⟨m, h2⟩, h3, h4, _⟩ := learn_search hL hK hS hr hl hl'
  obtain ⟨n, h1⟩ := all_goes h1
  exact ⟨n + m, s1, s2, allR_mono (fun c s s' h => Run.mono (by omega) h) _ _ _ h1, Run.mono (by omega) h2, h3, h4⟩
theorem seal_sum (L : List Nd) (l : List Int) : ((l.map (sealC L)).map fun c => c.2.length).sum = l.length := by
  induction l with
  | nil => rfl
  | cons x l ih => simp only [List.map_cons, List.sum_cons, ih, sealC, List.length_cons, List.length_nil]; omega
theorem own_form {w : World} {B : Nat} {t : TypeId} {z n : Nat} {v : Value} {xs : List Value} (h : w.ownsRow B t z v n xs) : ∃ sp c, v = .slice sp n c := by
  rcases h.2 with ⟨rfl, h0⟩ | ⟨g, cap, cur, rfl, _⟩
  · exact ⟨none, 0, by rw [h0]⟩
  · exact ⟨_, _, rfl⟩
/-- The loop over the Seals that are shut, under way. -/
structure Lo (c : Cx) (n : Nat) (l : List Int) (K : Int → Bool) (s1 : Sx) (W wr : World) (G Gk : Gh) (sk : Sx) (k : Nat) : Prop where
  run : allR (fun c_1 => Run c.L n (.when_ c_1.1 c_1.2)) ((l.map (sealC c.L)).drop k) sk s1
  st : Sst c wr Gk sk
  fr : Fr (s0 K) W wr G Gk
  le : Le (s0 K) sk
  ph : phi c.L sk + (l.length - k) ≤ 600000

theorem map_getD (L : List Nd) {l : List Int} {k : Nat} (hk : k < l.length) : (l.map (nd L)).getD k zN = nd L (l.getD k 0) := by
  rw [List.getD_eq_getElem?_getD, List.getD_eq_getElem?_getD, List.getElem?_map, List.getElem?_eq_getElem hk]; rfl
theorem Lo.next {c : Cx} {n : Nat} {l : List Int} {K : Int → Bool} {s1 : Sx} {W wr : World} {G Gk : Gh} {sk : Sx} {k : Nat} (h : Lo c n l K s1 W wr G Gk sk k) (hL : WF c.L) (hk : k < l.length) (hin : ∀ x ∈ l, hasB c.L.length x = true) :
    ∃ sk', Run c.L n (.when_ (.learn (nd c.L (l.getD k 0)).c) [(nd c.L (l.getD k 0)).a]) sk sk' ∧ cOk c.L (.learn (nd c.L (l.getD k 0)).c, [(nd c.L (l.getD k 0)).a]) ∧ phi c.L sk + 1 ≤ 600000 ∧ ∀ w1 G1, Sst c w1 G1 sk' → Fr sk wr w1 Gk G1 → Lo c n l K s1 W w1 G G1 sk' (k + 1) := by
  have hx : l.getD k 0 ∈ l := by rw [List.getD_eq_getElem?_getD, List.getElem?_eq_getElem hk]; simp
  obtain ⟨pa, _, pc⟩ := nd_has hL (hin _ hx)
  have hc : (l.map (sealC c.L))[k]? = some (sealC c.L (l.getD k 0)) := by
    rw [List.getElem?_map, List.getD_eq_getElem?_getD, List.getElem?_eq_getElem hk]; rfl
  obtain ⟨sk', h1, h2⟩ := allR_drop hc h.run
  have ho : cOk c.L (sealC c.L (l.getD k 0)) := ⟨pc, by simpa [sealC] using pa⟩
  have hf := (run_fine hL n (.when_ (sealC c.L (l.getD k 0)).1 (sealC c.L (l.getD k 0)).2) sk sk' h.st.ok ho h1).1
  have hp := h.ph
  refine ⟨sk', h1, ho, by omega, fun w1 G1 hs hfr => ⟨h2, hs, h.fr.trans h.le hfr, h.le.trans hf.le, ?_⟩⟩
  have := hf.ph
  simp only [slack, sealC, List.length_cons, List.length_nil] at this
  omega
set_option maxRecDepth 100000 in
set_option maxHeartbeats 8000000 in
theorem learn_fresh {w : World} {bk b g bm cap lim : Nat} {L : List Nd} {mk : Nat} {hv : Value} {hs : List Int} {K : Int → Bool} (hL : WF L) (h : Kno w bk b g bm cap lim L mk hv hs K) (hlen : hs.length ≤ 1000000) (r : Int) (hr : hasB L.length r = true) (hK : K r = false) :
    Calls Tryd.prog 22 #[.pointer (some ⟨bk, 0, none⟩), .int .i64 r] w (LPost w bk b g bm cap lim L mk hv hs K r) := by
  have c0 := h.kw.c0
  have hi := i64ok_of (hasB_iff.1 hr) h.ar.small
  have HC : Hid (∀ o, (w.alloc o).cell? ⟨b, 0, none⟩ = some (.slice (some ⟨g, 0, none⟩) L.length cap)) := Lib.hid (fun o => (h.ar.below ((Below.refl _ _).alloc (Nat.le_refl _) o)).c0)
  obtain ⟨i0, hi0, hz0, hz1, hz2⟩ := info_parts Tryd.infoI
  obtain ⟨sp, cp, hvv⟩ : ∃ sp cp, hv = .slice sp hs.length cp := by
    rcases h.own.2 with ⟨e, h0⟩ | ⟨g, cap, cur, e, _⟩
    · exact ⟨none, 0, by rw [e, h0]⟩
    · exact ⟨_, _, e⟩
  subst hvv
  have HH := Lib.hid h
  have c1 := h.kw.c1
  have hlt := lt_of_heap h.box
  have HO : Hid (∀ o o', ((w.alloc o).alloc o').ownsRow 0 3 1 (.slice sp hs.length cp) hs.length (hs.map (Value.int .i64))) := Lib.hid (fun o o' => (h.own.alloc o).alloc o')
  have hB2 : ∀ o o', Below w.heap.size w ((w.alloc o).alloc o') := fun o o' => ((Below.refl _ _).alloc (Nat.le_refl _) _).alloc (by simp) _
  have HB2 := Lib.hid hB2
  have hsm := h.ar.small
  clear h hB2
  go_enter Tryd.func22, Tryd.ntmps22
  go_wp2_with (first
    | (go_at_call 43; refine (has1_any b (some ⟨g, 0, none⟩) L.length cap _ r _ (HC.out _) ?_).mono ?_; (go_simp); rintro e w' ⟨rfl, rfl⟩; rw [hr])
    | (at_builtin; refine wpList_append_lies _ rfl _ _ 23 rfl 0 3 i0 (.int .i64 0) 1 8 Tryd.underlying23 hi0 hz0 hz1 hz2 rfl (by decide) _ _ _ rfl (HO.out _ _) ⟨w.heap.size + 1, 0, none⟩ 1 1 [.int .i64 r] rfl rfl ?c1 ?c2 (by decide) ?c3 ?c4 ?c5 _ rfl ?_))
  case c1 =>
    intro j u hj
    match j, hj with
    | 0, hj => simp at hj; subst hj; simp [Addr.add]
  case c2 => intro u hu; simp at hu; subst hu; rfl
  case c3 => unfold maxLen; omega
  case c4 => omega
  case c5 => simp
  intro g2 cap2 w7 hown7 hgr7 hat7 hlt7
  obtain ⟨x7, y7, HFN⟩ := HH.out.heard (HB2.out _ _) hown7 hgr7 (fun k hk => by
    have hk : some g2 = some k := hk
    obtain rfl := Option.some.inj hk
    rcases hat7 with e | e
    · exact .inl e
    · exact .inr (by rw [e]; simp))
  have HKN := Lib.hid (knows_any r hi _ HFN.out.1.kw)
  rw [hK] at HKN
  have HKH := Lib.hid HH.out.kh
  have HSH := Lib.hid HH.out.sh
  clear hown7 hgr7 hat7 c0 c1 HH HO HB2 HC
  go_wp2_with (first
    | (go_at_call 16; refine HKN.out.mono ?_; rintro e w8 ⟨rfl, hb8⟩
       have HK8 := Lib.hid (HFN.out.1.keep hb8)
       have HL8 := Lib.hid (HFN.out.2.trans (Kl.below _ _ _ hb8))
       have HNS := Lib.hid (newSearch_any bk w8)
       have HSU := Lib.hid (shut_any (HK8.out.keep (srch_below w8 bk)))
       clear HKN HFN x7 y7 hb8)
    | (go_at_call 41; refine HNS.out.mono ?_; rintro e w9 ⟨rfl, rfl⟩)
    | (go_at_call 44; refine HSU.out.mono ?_; rintro e w10 ⟨v, l, rfl, hrow, hin, hal, hll, hb10⟩
       obtain ⟨sp2, cp2, hvv⟩ := own_form hrow
       subst hvv))
  obtain ⟨n, s1, s2, hall, hln, hcl, hsh⟩ := learn_run hL HKH.out HSH.out hr hin hal
  obtain ⟨cx, hcx⟩ : ∃ cx, cx = cxOf bk b g bm cap lim L mk (.slice (some ⟨g2, 0, none⟩) (hs.length + 1) cap2) w8.heap.size := ⟨_, rfl⟩
  obtain ⟨G0, hG0⟩ : ∃ G0, G0 = ghOf mk w8.heap.size := ⟨_, rfl⟩
  have hcL : cx.L = L := by rw [hcx]; rfl
  have hbs : cx.bs = w8.heap.size + 1 := by rw [hcx]; rfl
  have HLO : Hid (Lo cx n l K s1 w10 w10 G0 G0 (s0 K) 0) := Lib.hid (by
    refine ⟨by rw [hcL]; exact hall, ?_, Fr.refl _ _ _, Le.refl _, ?_⟩
    · rw [hcx, hG0]; exact HK8.out.start.keep hb10
    · have := phi_s0 L K
      rw [hcL]; omega)
  have HFB : Hid (Fr (s0 K) (srch w8 bk) w10 G0 G0) := Lib.hid (Fr.below hb10)
  have HRW : Hid (∀ wr Gk sk k, Lo cx n l K s1 w10 wr G0 Gk sk k → k < l.length → ∃ g', sp2 = some ⟨g', 0, none⟩ ∧ rowAt wr g' (l.map (nd L))) := Lib.hid (fun wr Gk sk k hlo hk => by
    rcases hrow.2 with ⟨e, h0⟩ | ⟨g', cap', cur', e, hge, hg', _⟩
    · omega
    · injection e with e _ _
      subst e
      have hM : ¬ G0.M g' := fun e => by
        rw [hG0] at e
        change g' = mk ∨ g' = w8.heap.size at e
        have h1 := srch_size w8 bk
        have h2 := HK8.out.kn.lt
        rcases e with e | e <;> omega
      have hrow' := ownsRow_same hrow (w' := wr) (fun k' hk' => by
        have hk' : some g' = some k' := hk'
        obtain rfl := Option.some.inj hk'
        exact hlo.fr.kept g' (lt_of_heap hg') hM)
      exact ⟨g', rfl, ownsRow_row hrow'⟩)
  have HIN : Hid (∀ x ∈ l, hasB cx.L.length x = true) := Lib.hid (fun x hx => by rw [hcL]; exact HKH.out x (hin x hx).1)
  have HEN : Hid (∀ wr Gk sk, Lo cx n l K s1 w10 wr G0 Gk sk l.length → Calls Tryd.prog 46 #[.pointer (some ⟨w8.heap.size + 1, 0, none⟩), .int .i64 r] wr fun e w' => e = .returned (.tuple #[]) ∧ LPost w bk b g bm cap lim L mk (.slice sp hs.length cp) hs K r (.returned (.int .i64 0)) w') := Lib.hid (fun wr Gk sk hlo => by
    have hrun := hlo.run
    rw [List.drop_of_length_le (by simp)] at hrun
    have hrun : s1 = sk := hrun
    subst hrun
    have hc := (wk_any cx (by rw [hcL]; exact hL) n).learn s1 s2 r wr Gk (by rw [hcL]; exact hln) hlo.st (by rw [hcL]; exact hr)
    rw [hbs] at hc
    refine hc.mono ?_
    rintro e w' ⟨rfl, G', hS', hF'⟩
    rw [hcx] at hS'
    have hfr := (HFB.out.trans (Le.refl _) hlo.fr).trans hlo.le hF'
    rw [hG0] at hfr
    obtain ⟨q1, q2⟩ := HK8.out.stop hS' hfr hsh
    exact ⟨rfl, _, s2.K, rfl, q1, hcl, HL8.out.trans (Kl.kp _ _ q2)⟩)
  have hLc : WF cx.L := by rw [hcL]; exact hL
  have HLC := Lib.hid hLc
  have HWK := Lib.hid (wk_any cx hLc n)
  clear hall hln hcl hsh hrow hin hal hb10 hcx hG0 HNS HSU HK8 HL8 hLc
  have hl6 : l.length ≤ 65536 := by omega
  go_loopg [7, 34] l.length (fun q _ u34 wr => ∃ k : Nat, k + q = l.length ∧ u34 = .int .i64 k ∧ ∃ sk Gk, Lo cx n l K s1 w10 wr G0 Gk sk k)
  case atStart => exact ⟨0, by omega, rfl, s0 K, G0, HLO.out⟩
  case round =>
    obtain ⟨k, hkq, rfl, sk, Gk, hlo⟩ := hrel
    by_cases hltk : k < l.length
    · obtain ⟨g', rfl, hra⟩ := HRW.out wr Gk sk k hlo hltk
      obtain ⟨ri0, ri1, ri2, ri3, ri4⟩ := hra k (by simpa using hltk)
      rw [map_getD L hltk] at ri0 ri1 ri2 ri3 ri4
      obtain ⟨sk', hr1, hco, hp1, hnx⟩ := hlo.next HLC.out hltk HIN.out
      rw [hcL] at hr1 hco
      obtain ⟨d, hd⟩ : ∃ d, d = nd L (l.getD k 0) := ⟨_, rfl⟩
      rw [← hd] at ri0 ri1 ri2 ri3 ri4 hr1 hco
      have HOP : Hid (∀ w1, Below wr.heap.size wr w1 → Calls Tryd.prog 45 #[.pointer (some ⟨w8.heap.size + 1, 0, none⟩), .agg #[.int .i64 d.k, .int .u64 d.n, .int .i64 d.a, .int .i64 d.b, .int .i64 d.c]] w1 (SPost cx sk sk' w1 Gk)) := Lib.hid (fun w1 hb => by
        have := open_any (k := d.k) (n1 := d.n) (b1 := d.b) HWK.out (by rw [hcL]; exact hr1) (hlo.st.keep hb) (by rw [hcL]; exact hco) hp1
        rw [hbs] at this; exact this)
      have HNX := Lib.hid hnx
      have hg' : g' < wr.heap.size := World.block_lt_of_cell? wr _ ri0
      clear hlo hra hr1 hco hp1 hnx hd
      have hltk' : (k : Int) < l.length := by omega
      go_wp2_with (go_at_call 45; refine (HOP.out _ ((Below.refl _ _).alloc (Nat.le_refl _) _)).mono ?_; rintro e w3 ⟨rfl, G3, hS3, hF3⟩)
      go_roundg (l.length - (k + 1))
      case rel => exact ⟨k + 1, by omega, by simp, sk', G3, HNX.out _ _ hS3 ((Fr.below ((Below.refl _ _).alloc (Nat.le_refl _) _)).trans (Le.refl sk) hF3)⟩
      case measure => omega
    · obtain rfl : k = l.length := by omega
      have HE := Lib.hid (HEN.out wr Gk sk hlo)
      clear hlo
      go_wp2_with (go_at_call 46; refine HE.out.mono ?_; rintro e w3 ⟨rfl, hpost⟩)
      go_ret
      exact hpost
theorem learn_any {w : World} {bk b g bm cap lim : Nat} {L : List Nd} {mk : Nat} {hv : Value} {hs : List Int} {K : Int → Bool} (h : Kno w bk b g bm cap lim L mk hv hs K) (hlen : hs.length ≤ 1000000) (r : Int) (hr : hasB L.length r = true) :
    Calls Tryd.prog 22 #[.pointer (some ⟨bk, 0, none⟩), .int .i64 r] w (LPost w bk b g bm cap lim L mk hv hs K r) := by
  cases hK : K r with
  | true => exact learn_again h hlen r hr hK
  | false => exact learn_fresh h.ar.wf h hlen r hr hK
end Go.Proofs.YtemigefkkjgehaaDoor
