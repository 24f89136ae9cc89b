/- Layer 3: walks of a search: a ref is asked for. -/
import Derived.Test.YtlckajnbmkkpeaaDoorXf
namespace Go.Proofs.YtlckajnbmkkpeaaDoor
open Go.RowKit Go.Maps

theorem has_i64 {c : Cx} {w : World} {G : Gh} {s : Sx} (h : Sst c w G s) {r : Int} (hr : hasB c.L.length r = true) : i64ok r := i64ok_of (hasB_iff.1 hr) h.ar.small
theorem cnt_small {c : Cx} {w : World} {G : Gh} {s : Sx} (h : Sst c w G s) (K : Int → Bool) : cnt c.L.length K < maxLen := by
  have := cnt_le c.L.length K
  have := h.ar.small
  unfold maxLen; omega
set_option maxRecDepth 100000 in
set_option maxHeartbeats 4000000 in
theorem ask_old {c : Cx} {s : Sx} {r : Int} {w : World} {G : Gh} {a : Nat} (h : Sst c w G s) (hr : hasB c.L.length r = true) (ha : G.ab r = some a) :
    Calls Tryd.prog 42 #[.pointer (some ⟨c.bs, 0, none⟩), .int .i64 r] w fun e w' => e = .returned (.pointer (some ⟨a, 0, none⟩)) ∧ w' = w := by
  have c1 := h.s1
  have hlk := h.asd.look (has_i64 h hr)
  rw [ha] at hlk
  unfold pv at hlk
  simp only [Option.map_some] at hlk
  clear h
  go_enter Tryd.func42, Tryd.ntmps42
  go_wp2_with fail
  go_ret
  exact ⟨rfl, rfl⟩
theorem Sst.ans0 {c : Cx} {w : World} {G : Gh} {s : Sx} (h : Sst c w G s) {r : Int} {a : Nat} (ha : G.ab r = some a) : w.cell? ⟨a, 0, none⟩ = some (.bool (s.der r)) := by
  obtain ⟨d, ws, hA, hbx, _⟩ := h.ans ha
  rw [cell_of_row w a 0 _ _ _ hbx]
  unfold Sx.der; rw [hA]; rfl
theorem get_has {c : Cx} (_hL : WF c.L) {r : Int} (hr : hasB c.L.length r = true) {w : World} (hA : Ar w c.b c.g c.bm c.cap c.lim c.L) :
    Calls Tryd.prog 47 #[.pointer (some ⟨c.b, 0, none⟩), .int .i64 r] w fun e w' => e = .returned (.tuple #[.agg #[.int .i64 (nd c.L r).k, .int .u64 (nd c.L r).n, .int .i64 (nd c.L r).a, .int .i64 (nd c.L r).b, .int .i64 (nd c.L r).c], .bool true]) ∧ Below w.heap.size w w' := by
  have h := hasB_iff.1 hr
  obtain ⟨i, rfl⟩ : ∃ i : Nat, r = i := ⟨r.toNat, by omega⟩
  exact get_yes c.b c.g c.bm c.cap c.lim c.L i (by omega) w hA
theorem ask_store {c : Cx} {s : Sx} {r : Int} {w : World} {G : Gh} (h : Sst c w G s) (hr : hasB c.L.length r = true) (hA : s.A r = none) {w1 : World} (hb : Below w.heap.size w w1) (d : Bool) :
    ∃ w3, (Instr.mapUpdate 112 (.map (some c.ma)) (.int .i64 r) (.pointer (some ⟨w1.heap.size, 0, none⟩))).run Tryd.prog (w1.alloc (.cells #[.bool d, .slice none 0 0] 86)) = .ok () w3 ∧
      ∃ G', G'.ab r = some w1.heap.size ∧ Sst c w3 G' (s.put r (d, [])) ∧ Fr s w w3 G G' := by
  have hb2 := hb.alloc hb.size (.cells #[.bool d, .slice none 0 0] 86)
  obtain ⟨w3, h1, h2, h3⟩ := (h.keep hb2).asd.store (cnt_small h _) (has_i64 h hr) w1.heap.size
  exact ⟨w3, h1, h.ask hr hA hb2 hb.size (heap_alloc_new _ _) h2 h3⟩
set_option maxRecDepth 100000 in
set_option maxHeartbeats 4000000 in
theorem ask_known {c : Cx} (hL : WF c.L) {s : Sx} {r : Int} {w : World} {G : Gh} (h : Sst c w G s) (hr : hasB c.L.length r = true) (hA : s.A r = none) (hK : s.K r = true) :
    Calls Tryd.prog 42 #[.pointer (some ⟨c.bs, 0, none⟩), .int .i64 r] w fun e w' => ∃ a G', e = .returned (.pointer (some ⟨a, 0, none⟩)) ∧ G'.ab r = some a ∧ Sst c w' G' (s.put r (true, [])) ∧ Fr s w w' G G' := by
  have c0 := h.s0
  have c1 := h.s1
  have hi := has_i64 h hr
  have hlk := h.asd.look hi
  have ha : G.ab r = none := by
    have := h.dom r
    rw [hA] at this
    cases e : G.ab r with
    | none => rfl
    | some x => rw [e] at this; cases this
  rw [ha] at hlk
  unfold pv at hlk
  simp only [Option.map_none] at hlk
  have HK := Lib.hid (knows_any r hi w h.kw)
  rw [hK] at HK
  have HS := Lib.hid h
  have hlt := lt_of_heap h.sb.1
  clear h
  go_enter Tryd.func42, Tryd.ntmps42
  go_wp2_with (first
    | (go_at_call 16; refine HK.out.mono ?_; rintro e w1 ⟨rfl, hb1⟩; clear c0 c1 hlk; have c0 := (HS.out.keep hb1).s0; have c1 := (HS.out.keep hb1).s1; have hlt1 := lt_of_heap (HS.out.keep hb1).sb.1
       obtain ⟨w3, hup, G3, hab, hS3, hF3⟩ := ask_store HS.out hr hA hb1 true
       have HS3 := Lib.hid hS3; have HF3 := Lib.hid hF3; have k0 := hS3.s0; have k1 := hS3.kw.c0
       have x0 := hS3.ans0 hab
       rw [put_der] at x0
       have hlt3 := lt_of_heap hS3.sb.1
       have HG := Lib.hid (get_has hL hr hS3.ar)
       clear hS3 hF3)
    | (go_at_call 47; refine HG.out.mono ?_; rintro e w4 ⟨rfl, hb4⟩; have x4 := (HS3.out.keep hb4).ans0 hab; rw [put_der] at x4; have hlt4 := lt_of_heap (HS3.out.keep hb4).sb.1; have hlx4 := World.block_lt_of_cell? w4 ⟨w1.heap.size, 0, none⟩ x4; simp only at hlx4))
  go_ret
  exact ⟨w1.heap.size, G3, rfl, hab, HS3.out.keep (hb4.alloc hb4.size _), HF3.out.trans (Le.put_new (b := true) hA) (Fr.below (hb4.alloc hb4.size _))⟩
set_option maxRecDepth 100000 in
set_option maxHeartbeats 4000000 in
theorem ask_new {c : Cx} (hL : WF c.L) {n : Nat} (hW : Wk c n) {s s' : Sx} {r : Int} {w : World} {G : Gh} (h : Sst c w G s) (hr : hasB c.L.length r = true) (hA : s.A r = none) (hK : s.K r = false) (hR : Run c.L n (.compose r) (s.put r (false, [])) s') :
    Calls Tryd.prog 42 #[.pointer (some ⟨c.bs, 0, none⟩), .int .i64 r] w fun e w' => ∃ a G', e = .returned (.pointer (some ⟨a, 0, none⟩)) ∧ G'.ab r = some a ∧ Sst c w' G' s' ∧ Fr s w w' G G' := by
  have c0 := h.s0
  have c1 := h.s1
  have hi := has_i64 h hr
  have hlk := h.asd.look hi
  have ha : G.ab r = none := by
    have := h.dom r
    rw [hA] at this
    cases e : G.ab r with
    | none => rfl
    | some x => rw [e] at this; cases this
  rw [ha] at hlk
  unfold pv at hlk
  simp only [Option.map_none] at hlk
  have HK := Lib.hid (knows_any r hi w h.kw)
  rw [hK] at HK
  have hlt := lt_of_heap h.sb.1
  have hmf : ∀ (fn : Fn) (first cap : Array Value) (w : World), (Instr.makeFunc fn first cap).run Tryd.prog w = .ok (.func fn first cap) w := fun _ _ _ _ => rfl
  have HCo : Hid (∀ w5 G5 a, Sst c w5 G5 (s.put r (false, [])) → G5.ab r = some a → Calls Tryd.prog 58 #[.pointer (some ⟨c.bs, 0, none⟩), .agg #[.int .i64 (nd c.L r).k, .int .u64 (nd c.L r).n, .int .i64 (nd c.L r).a, .int .i64 (nd c.L r).b, .int .i64 (nd c.L r).c], .func (.func 59) #[.pointer (some ⟨a, 0, none⟩)] #[]] w5 (SPost c (s.put r (false, [])) s' w5 G5)) :=
    Lib.hid (fun w5 G5 a h5 h6 => hW.compose _ s' r a w5 G5 hR h5 (by have := (fine_ask h.ok hr hA false).2.2; have := h.ph; omega) hr h6)
  have HS := Lib.hid h
  clear h hW hR
  go_enter Tryd.func42, Tryd.ntmps42
  go_wp2_with (first
    | (go_at_call 16; refine HK.out.mono ?_; rintro e w1 ⟨rfl, hb1⟩; clear c0 c1 hlk; have c0 := (HS.out.keep hb1).s0; have c1 := (HS.out.keep hb1).s1; have hlt1 := lt_of_heap (HS.out.keep hb1).sb.1
       obtain ⟨w3, hup, G3, hab, hS3, hF3⟩ := ask_store HS.out hr hA hb1 false
       have HS3 := Lib.hid hS3; have HF3 := Lib.hid hF3; have k0 := hS3.s0; have k1 := hS3.kw.c0
       have x0 := hS3.ans0 hab
       rw [put_der] at x0
       have hlt3 := lt_of_heap hS3.sb.1
       have HG := Lib.hid (get_has hL hr hS3.ar)
       clear hS3 hF3)
    | (go_at_call 47; refine HG.out.mono ?_; rintro e w4 ⟨rfl, hb4⟩; have x4 := (HS3.out.keep hb4).ans0 hab; rw [put_der] at x4; have hlt4 := lt_of_heap (HS3.out.keep hb4).sb.1; have hlx4 := World.block_lt_of_cell? w4 ⟨w1.heap.size, 0, none⟩ x4; simp only at hlx4)
    | (go_at_call 58; refine (HCo.out _ G3 _ (HS3.out.keep (hb4.alloc hb4.size _)) hab).mono ?_; rintro e w6 ⟨rfl, G6, hS6, hF6⟩))
  go_ret
  exact ⟨w1.heap.size, G6, rfl, hF6.ab _ _ hab, hS6, (HF3.out.trans (Le.put_new (b := false) hA) (Fr.below (hb4.alloc hb4.size _))).trans (Le.put_new (b := false) hA) hF6⟩
theorem ask_step {c : Cx} (hL : WF c.L) {n : Nat} (hW : Wk c n) {s s' : Sx} {r : Int} {w : World} {G : Gh} (hR : Run c.L (n + 1) (.ask r) s s') (h : Sst c w G s) (hr : hasB c.L.length r = true) :
    Calls Tryd.prog 42 #[.pointer (some ⟨c.bs, 0, none⟩), .int .i64 r] w fun e w' => ∃ a G', e = .returned (.pointer (some ⟨a, 0, none⟩)) ∧ G'.ab r = some a ∧ Sst c w' G' s' ∧ Fr s w w' G G' := by
  unfold Run at hR
  cases hA : s.A r with
  | some x =>
    rw [hA] at hR
    have hR : s' = s := hR
    subst hR
    have hd := h.dom r
    rw [hA] at hd
    cases ha : G.ab r with
    | none => rw [ha] at hd; cases hd
    | some a =>
      refine (ask_old h hr ha).mono ?_
      rintro e w' ⟨rfl, rfl⟩
      exact ⟨a, G, rfl, ha, h, Fr.refl _ _ _⟩
  | none =>
    rw [hA] at hR
    simp only at hR
    cases hK : s.K r with
    | true =>
      rw [if_pos hK] at hR
      subst hR
      exact ask_known hL h hr hA hK
    | false =>
      rw [if_neg (by rw [hK]; simp), if_pos hr] at hR
      exact ask_new hL hW h hr hA hK hR
end Go.Proofs.YtlckajnbmkkpeaaDoor
