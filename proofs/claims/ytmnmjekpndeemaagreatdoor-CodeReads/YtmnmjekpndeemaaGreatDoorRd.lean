/- The walk of the closure that visits a ref. -/
import Derived.Test.YtmnmjekpndeemaaGreatDoorRc
import Derived.Deep.AppendLies
import Derived.Lib.Hide
namespace Go.Proofs.YtmnmjekpndeemaaGreatDoor
open Go.RowKit Go.Maps

theorem Tryz.info3 : (Tryz.prog.info? 3).map (fun i => (i.zero, i.size, i.bytes)) = some (some (.int .i64 0), 1, 8) := by kernel_rfl

theorem fold_take_succ {g : List Int → Int → List Int} {ps : List Int} {acc : List Int} {k : Nat} (h : k < ps.length) : (ps.take (k + 1)).foldl g acc = g ((ps.take k).foldl g acc) (ps.getD k 0) := by
  rw [List.take_succ_eq_append_getElem h, List.foldl_append]
  simp [List.getD, List.getElem?_eq_getElem h]

theorem nd_cast (L : List Nd) (i : Nat) : nd L (i : Int) = L.getD i zN := rfl
theorem kind_nat {k : Int} (h : 0 ≤ many k) : ∃ m : Nat, k = m ∧ m < 10 := by
  refine ⟨k.toNat, ?_⟩
  unfold many at h
  split at h
  · omega
  · split at h
    · omega
    · split at h
      · omega
      · split at h <;> omega
theorem own_slice {w : World} {B : Nat} {t : TypeId} {z n : Nat} {v : Value} {xs : List Value} (h : w.ownsRow B t z v n xs) : ∃ sp c, v = .slice sp n c := by
  rcases h.2 with ⟨rfl, h0⟩ | ⟨g, cap, cur, rfl, _⟩
  · exact ⟨none, 0, by rw [h0]⟩
  · exact ⟨_, _, rfl⟩

set_option maxRecDepth 100000 in
set_option maxHeartbeats 4000000 in
theorem visit_any {w0 : World} {b g bm cap lim : Nat} {L : List Nd} (hE : Env w0) (hA : Ar w0 b g bm cap lim L) (bi ba bv br mm : Nat) :
    ∀ (f : Nat) (r : Int) (acc : List Int) (v : Value) (w : World), r.toNat < f → i64ok r → Vi w0 w bi ba bv br mm b L acc v →
    Calls Tryz.prog 45 #[.int .i64 r, .pointer (some ⟨bi, 0, none⟩), .pointer (some ⟨ba, 0, none⟩), .pointer (some ⟨bv, 0, none⟩), .pointer (some ⟨br, 0, none⟩)] w (VPost w0 w bi ba bv br mm b L (vis L f acc r) v)
  | 0, _, _, _, _, h, _, _ => absurd h (by omega)
  | f + 1, r, acc, v, w, hf, hr, hV => by
    have hwf := hA.wf
    have cI := cell_of_one hV.ci
    have cA := cell_of_one hV.ca
    have hlk := hV.mp.look hr
    rw [place_get, place_isSome] at hlk
    have HV := Lib.hid hV
    by_cases hm : r ∈ acc
    · rw [decide_eq_true hm] at hlk
      have HP : Hid (VPost w0 w bi ba bv br mm b L (vis L (f + 1) acc r) v (.returned (.tuple #[])) w) := Lib.hid (by rw [vis_old hm]; exact ⟨rfl, v, hV, FrV.refl _ _ _ _⟩)
      clear hV hm hwf
      go_enter Tryz.func45, Tryz.ntmps45
      go_wp2_with fail
      (try simp only [Exit.inBlock, Exit.then]); refine bodyPost_ret (results_none rfl _ _ _) rfl ?_
      exact HP.out
    · rw [decide_eq_false hm] at hlk
      have hAw := hA.below hV.bel
      by_cases hh : hasB L.length r = true
      · obtain ⟨i, rfl⟩ : ∃ i : Nat, r = i := ⟨r.toNat, by have := hasB_iff.1 hh; omega⟩
        have hi : i < L.length := by have := hasB_iff.1 hh; omega
        have hn0 := nd_cast L i
        obtain ⟨d, hd⟩ : ∃ d, d = L.getD i zN := ⟨_, rfl⟩
        have hg := (right_iff.1 (hwf.good i hi)).1
        have hG := get_yes b g bm cap lim L i hi w hAw
        rw [← hd] at hg hG hn0
        have HVS : Hid (vis L (f + 1) acc (i : Int) = (prt d).foldl (vis L f) acc ++ [(i : Int)]) := Lib.hid (by rw [vis_new hm hh, hn0])
        have HPP : Hid (∀ p ∈ prt d, 0 ≤ p ∧ p < (i : Int)) := Lib.hid (fun p hp => prt_in hwf hh (by rw [hn0]; exact hp))
        have HPA : Hid (∀ m, Acc L (((prt d).take m).foldl (vis L f) acc) ∧ (i : Int) ∉ ((prt d).take m).foldl (vis L f) acc) := Lib.hid (fun m => vis_parts hwf hV.ok hm hh _ (fun p hp => by rw [hn0]; exact List.mem_of_mem_take hp))
        have HAL : Hid (Acc L ((prt d).foldl (vis L f) acc ++ [(i : Int)])) := Lib.hid (by rw [← HVS.out]; exact (vis_ok hwf _ _ _ hV.ok).ok)
        have hsm := hAw.small
        clear hd hn0
        obtain ⟨k, n, a, b', c⟩ := d
        obtain ⟨kk, hkk, hk10⟩ : ∃ kk : Nat, k = kk ∧ kk < 10 := kind_nat hg
        subst hkk
        unfold agg at hG
        simp only at hG
        have HG := Lib.hid hG; clear hG hg
        have HM := Lib.hid hm; clear hm
        have HH := Lib.hid hh; clear hh
        have HAW := Lib.hid hAw; clear hAw
        have HSM := Lib.hid hsm; clear hsm
        have hpl := prt_len ⟨kk, n, a, b', c⟩
        obtain ⟨ps, hps⟩ : ∃ ps, ps = prt ⟨kk, n, a, b', c⟩ := ⟨_, rfl⟩
        rw [← hps] at HVS HPP HPA HAL hpl
        have HPS := Lib.hid hps; clear hps
        have HEN : Hid (∀ w1 o, Below w.heap.size w w1 → Env (w1.alloc o)) := Lib.hid (fun w1 o hb => hE.below ((hV.bel.trans (hb.mono hV.bel.size)).alloc (by have := hV.bel.size; have := hb.size; omega) o))
        clear hV hwf
        go_enter Tryz.func45, Tryz.ntmps45
        go_wp2_with (first
          | (go_at_call 20; refine HG.out.mono ?_; rintro e w1 ⟨rfl, hb1⟩)
          | (go_at_call 26; refine (parts_any kk hk10 n a b' c _ (HEN.out _ _ hb1)).mono ?_; rintro e w2 ⟨s, rfl, hs, ht, hb2⟩; rw [← HPS.out]))
        have hb3 : Below w.heap.size w w2 := (hb1.alloc hb1.size _).trans (hb2.mono (by have := hb1.size; simp; omega))
        have hs1 := hb1.size
        have hs2 := hb2.size
        rw [World.size_alloc] at hs hs2
        have HT := Lib.hid ht; clear ht
        have HB3 := Lib.hid hb3; clear hb3 hb2 hb1
        go_loopg [11, 30] ps.length (fun q _ u30 wr => ∃ k : Nat, k + q = ps.length ∧ u30 = .int .i64 k ∧ ∃ v', Vi w0 wr bi ba bv br mm b L ((ps.take k).foldl (vis L f) acc) v' ∧ FrV w2 wr br mm v v')
        case atStart => exact ⟨0, by omega, rfl, v, HV.out.keep HB3.out, FrV.refl _ _ _ _⟩
        case round =>
          obtain ⟨k, hkq, rfl, v', hVr, hFr⟩ := hrel
          clear cI cA hlk
          have cI := cell_of_one hVr.ci
          have cV := cell_of_one hVr.cv
          have cR := cell_of_one hVr.cr
          unfold fval at cV
          by_cases hlt : k < ps.length
          · have hp := HPP.out (ps.getD k 0) (by rw [List.getD_eq_getElem?_getD, List.getElem?_eq_getElem hlt]; simp)
            have hcell : wr.cell? ⟨s, k, none⟩ = some (.int .i64 (ps.getD k 0)) := by
              rw [World.cell?_of_block (hFr.kept s (lt_of_heap HT.out) (fun e => by have := lt_of_heap HV.out.cr; omega) (fun e => by have := HV.out.mp.lt; omega) (fun e => by have := (HV.out.own.lt s e).2; omega)), HPS.out]
              exact tri_at HT.out (by rw [← HPS.out]; exact hlt)
            have HC : Hid (Calls Tryz.prog 45 #[.int .i64 (ps.getD k 0), .pointer (some ⟨bi, 0, none⟩), .pointer (some ⟨ba, 0, none⟩), .pointer (some ⟨bv, 0, none⟩), .pointer (some ⟨br, 0, none⟩)] wr (VPost w0 wr bi ba bv br mm b L ((ps.take (k + 1)).foldl (vis L f) acc) v')) :=
              Lib.hid (by rw [fold_take_succ hlt]; exact visit_any hE hA bi ba bv br mm f _ _ _ _ (by omega) (by unfold i64ok; have := HSM.out; omega) hVr)
            have HFR := Lib.hid hFr
            obtain ⟨p, hpe⟩ : ∃ p, p = ps.getD k 0 := ⟨_, rfl⟩
            rw [← hpe] at HC hcell
            clear hVr hFr hp hpe cR
            go_wp2_with (go_at_call 45; refine HC.out.mono ?_; rintro e w3 ⟨rfl, v3, hV3, hF3⟩)
            go_roundg (ps.length - (k + 1))
            case rel => exact ⟨k + 1, by omega, by simp, v3, hV3, HFR.out.trans hF3⟩
            case measure => omega
          · obtain rfl : k = ps.length := by omega
            have hpa := HPA.out ps.length
            rw [List.take_length] at hpa hVr
            obtain ⟨acc', hacc⟩ : ∃ l, l = ps.foldl (vis L f) acc := ⟨_, rfl⟩
            rw [← hacc] at hpa hVr HVS HAL
            have hlen := Nat.le_trans hpa.1.len HSM.out
            obtain ⟨sp, cp, rfl⟩ := own_slice hVr.own
            obtain ⟨w6, hup, hM6, hturn⟩ := hVr.mp.store (by unfold maxLen; omega) hr (v := (acc'.length : Int)) (by unfold i64ok; omega)
            have hown6 : w6.ownsRow w0.heap.size 3 1 (.slice sp acc'.length cp) acc'.length (acc'.map (Value.int .i64)) := by
              obtain ⟨es, c1, hobj⟩ := hVr.mp.obj
              refine hVr.own.kept hturn.grown (.inr fun e => ?_)
              obtain ⟨c2, fz, hc⟩ := Lib.ownsRow_kind hVr.own mm e
              rw [hobj] at hc; cases hc
            have hbr6 : w6.heap[br]? = some (.cells #[.slice sp acc'.length cp] 56 (0, 0)) := by
              obtain ⟨es, c1, hobj⟩ := hVr.mp.obj
              refine (hturn.grown.block br (lt_of_heap hVr.cr) (fun e => ?_)).trans hVr.cr
              obtain rfl := Option.some.inj e
              rw [hVr.cr] at hobj; cases hobj
            have cR6 := cell_of_one hbr6
            have hgs := hturn.grown.size
            have hbs : w0.heap.size ≤ w6.heap.size := Nat.le_trans hVr.bel.size hgs
            obtain ⟨i0, hi0, hz0, hz1, hz2⟩ := info_parts Tryz.info3
            have HVR := Lib.hid hVr
            have HFR := Lib.hid hFr
            have HT6 := Lib.hid hturn
            have HM6 := Lib.hid hM6
            have HN := Lib.hid hpa.2
            have HO6 := Lib.hid hown6
            have HB6 := Lib.hid hbr6
            clear hVr hFr hturn hM6 hpa hown6 hbr6 hacc
            go_wp2_with (at_builtin; refine wpList_append_lies _ rfl _ _ 56 rfl w0.heap.size 3 i0 (.int .i64 0) 1 8 Tryz.underlying56 hi0 hz0 hz1 hz2 rfl (by decide) _ _ _ rfl (HO6.out.alloc _) ⟨w6.heap.size, 0, none⟩ 1 1 [.int .i64 (i : Int)] rfl rfl ?c1 ?c2 (by decide) ?c3 ?c4 ?c5 _ rfl ?_)
            case c1 =>
              intro j u hj
              match j, hj with
              | 0, hj => simp at hj; subst hj; simp [Addr.add]
            case c2 => intro u hu; simp at hu; subst hu; rfl
            case c3 => unfold maxLen; omega
            case c4 => omega
            case c5 => simp; omega
            intro g2 cap2 w7 hown7 hgr7 hat7 hlt7
            have hbX : (w6.alloc (.cells #[.int .i64 (i : Int)] 3)).heap[br]? = some (.cells #[.slice sp acc'.length cp] 56 (0, 0)) := by
              rw [Below.heap_alloc _ _ _ (lt_of_heap HB6.out)]; exact HB6.out
            have hbr7 : w7.heap[br]? = some (.cells #[.slice sp acc'.length cp] 56 (0, 0)) := by
              refine (hgr7.block br (lt_of_heap hbX) (fun e => ?_)).trans hbX
              obtain ⟨c2, fz, hc⟩ := Lib.ownsRow_kind (HO6.out.alloc (.cells #[.int .i64 (i : Int)] 3)) br e.symm
              rw [hbX] at hc
              simp at hc
            have cR7 := cell_of_one hbr7
            have fR7 := free_of_one hbr7
            obtain ⟨hVP, hFP⟩ := HVR.out.push HN.out HAL.out HM6.out HT6.out hown7 hgr7 (fun k hk => by
              have hk : some g2 = some k := hk
              obtain rfl := Option.some.inj hk
              rcases hat7 with e | e
              · exact .inl e
              · exact .inr (by rw [e]; simp))
            have HP : Hid (VPost w0 w bi ba bv br mm b L (vis L (f + 1) acc (i : Int)) v (.returned (.tuple #[])) (w7.setCell ⟨br, 0, none⟩ (.slice (some ⟨g2, 0, none⟩) (acc'.length + 1) cap2))) :=
              Lib.hid ⟨rfl, _, by rw [HVS.out]; exact hVP, (FrV.below HB3.out).trans (HFR.out.trans hFP)⟩
            clear hVP hFP hown7 hgr7 hat7 hbX hbr7
            go_wp2_with fail
            go_end0
            exact HP.out
      · have hh : hasB L.length r = false := by simpa using hh
        have HG := Lib.hid (get_no b g bm cap lim L r hh w hAw)
        have HP : Hid (∀ w', Below w.heap.size w w' → VPost w0 w bi ba bv br mm b L (vis L (f + 1) acc r) v (.returned (.tuple #[])) w') := Lib.hid (fun w' hb => by rw [vis_no hh]; exact ⟨rfl, v, hV.keep hb, FrV.below hb⟩)
        clear hV hm hwf hh hAw
        go_enter Tryz.func45, Tryz.ntmps45
        go_wp2_with (go_at_call 20; refine HG.out.mono ?_; rintro e w1 ⟨rfl, hb1⟩; unfold agg zN)
        (try simp only [Exit.inBlock, Exit.then]); refine bodyPost_ret (results_none rfl _ _ _) rfl ?_
        exact HP.out _ (hb1.alloc hb1.size _)
end Go.Proofs.YtmnmjekpndeemaaGreatDoor
