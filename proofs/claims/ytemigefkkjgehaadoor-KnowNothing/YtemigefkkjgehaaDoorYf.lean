/- Layer 3: what the document fixes of a seal (awake). -/
import Derived.Test.YtemigefkkjgehaaDoorYe
namespace Go.Proofs.YtemigefkkjgehaaDoor
open Go.RowKit Go.Maps

def wX : Nd := ⟨1, 1, 0, 0, 0⟩
def wP : Nd := ⟨1, 2, 0, 0, 0⟩
def wS : Nd := ⟨7, 3, 1, 0, 2⟩
def wL : List Nd := [zN, wX, wP, wS]
theorem w_mk1 : mkL 20 [zN] wX = [zN, wX] ∧ mkR 20 [zN] wX = 1 ∧ mkE 20 [zN] wX = 0 := mk_new (by decide) (by decide) (by decide)
theorem w_mk2 : mkL 20 [zN, wX] wP = [zN, wX, wP] ∧ mkR 20 [zN, wX] wP = 2 ∧ mkE 20 [zN, wX] wP = 0 := mk_new (by decide) (by decide) (by decide)
theorem w_mk3 : mkL 20 [zN, wX, wP] wS = wL ∧ mkR 20 [zN, wX, wP] wS = 3 ∧ mkE 20 [zN, wX, wP] wS = 0 := mk_new (by decide) (by decide) (by decide)
/-- A name that is not the attacker's, and not known, can't be made. -/
theorem can_name {L : List Nd} {K : Int → Prop} {r : Int} (hk : (nd L r).k = 1) (hn : (nd L r).n < 4294967296) (hc : Can L K r) : K r := by
  cases hc with
  | known _ h => exact h
  | free _ h => omega
  | own _ _ h => omega
  | dh _ h => omega
  | dhA _ h => omega
  | dhB _ h => omega
  | parts _ _ h => exact absurd hk h
theorem w_shut : Shut wL (fun x => x = 3) := by
  intro r _ hr
  subst hr
  refine ⟨fun h => absurd h (by decide), fun _ hc => ?_⟩
  exact absurd (can_name (L := wL) (r := 1) (by decide) (by decide) hc) (by decide)
theorem w_sealed {K : Int → Bool} (h : ∀ y, K y = true ↔ cl wL (fun x => false = true ∨ x = 3) y) : ¬ Can wL (fun x => K x = true) 2 := fun hc => by
  have h2 := can_name (L := wL) (r := 2) (by decide) (by decide) hc
  have := cl_least w_shut (fun x hx => by rcases hx with e | e; cases e; exact e) ((h 2).1 h2)
  exact absurd this (by decide)
theorem w_open {K K2 : Int → Bool} (h : ∀ y, K y = true ↔ cl wL (fun x => false = true ∨ x = 3) y) (h2 : ∀ y, K2 y = true ↔ cl wL (fun x => K x = true ∨ x = 1) y) : K2 2 = true ∧ Can wL (fun x => K2 x = true) 2 := by
  have e3 : K2 3 = true := (h2 3).2 (cl_in (.inl ((h 3).2 (cl_in (.inr rfl)))))
  have e1 : K2 1 = true := (h2 1).2 (cl_in (.inr rfl))
  have hs : Shut wL (fun y => K2 y = true) := by
    have e : (fun y => K2 y = true) = cl wL (fun x => K x = true ∨ x = 1) := funext fun y => propext (h2 y)
    rw [e]; exact cl_shut _ _
  have e2 : K2 2 = true := (hs 3 (by decide) e3).2 (by decide) (.known (by decide) e1)
  exact ⟨e2, .known (by decide) e2⟩

set_option maxRecDepth 100000 in
set_option maxHeartbeats 4000000 in
theorem awake_any (w : World) (hE : Shp w) : Calls Tryd.prog 13 #[] w fun e w' => e = .returned (.bool true) ∧ Below w.heap.size w w' := by
  have HN := Lib.hid (new_any 20 w)
  have HM1 : Hid (∀ w1 b g bm cap, St w w1 b g bm cap 20 [zN] → Calls Tryd.prog 32 #[.pointer (some ⟨b, 0, none⟩), .agg #[.int .i64 1, .int .u64 1, .int .i64 0, .int .i64 0, .int .i64 0]] w1 fun e w' => ∃ g' cap', e = .returned (.tuple #[.int .i64 1, .int .i64 0]) ∧ St w w' b g' bm cap' 20 [zN, wX]) := Lib.hid (fun w1 b g bm cap h => by
    refine (mk_any b g bm cap 20 [zN] 1 1 0 0 0 w1 h.ar (h.shp hE) (by simp [Nd.ok, i64ok, u64ok])).mono ?_
    rintro e w' ⟨g', cap', rfl, hA, hg, hk⟩
    obtain ⟨m1, m2, m3⟩ := w_mk1
    unfold wX at m1 m2 m3
    rw [m1] at hA
    rw [m2, m3]
    exact ⟨g', cap', rfl, h.step hA hg hk⟩)
  have HM2 : Hid (∀ w1 b g bm cap, St w w1 b g bm cap 20 [zN, wX] → Calls Tryd.prog 32 #[.pointer (some ⟨b, 0, none⟩), .agg #[.int .i64 1, .int .u64 2, .int .i64 0, .int .i64 0, .int .i64 0]] w1 fun e w' => ∃ g' cap', e = .returned (.tuple #[.int .i64 2, .int .i64 0]) ∧ St w w' b g' bm cap' 20 [zN, wX, wP]) := Lib.hid (fun w1 b g bm cap h => by
    refine (mk_any b g bm cap 20 [zN, wX] 1 2 0 0 0 w1 h.ar (h.shp hE) (by simp [Nd.ok, i64ok, u64ok])).mono ?_
    rintro e w' ⟨g', cap', rfl, hA, hg, hk⟩
    obtain ⟨m1, m2, m3⟩ := w_mk2
    change mkL 20 [zN, wX] ⟨1, 2, 0, 0, 0⟩ = _ at m1
    change mkR 20 [zN, wX] ⟨1, 2, 0, 0, 0⟩ = _ at m2
    change mkE 20 [zN, wX] ⟨1, 2, 0, 0, 0⟩ = _ at m3
    rw [m1] at hA
    rw [m2, m3]
    exact ⟨g', cap', rfl, h.step hA hg hk⟩)
  have HM3 : Hid (∀ w1 b g bm cap, St w w1 b g bm cap 20 [zN, wX, wP] → Calls Tryd.prog 32 #[.pointer (some ⟨b, 0, none⟩), .agg #[.int .i64 7, .int .u64 3, .int .i64 1, .int .i64 0, .int .i64 2]] w1 fun e w' => ∃ g' cap', e = .returned (.tuple #[.int .i64 3, .int .i64 0]) ∧ St w w' b g' bm cap' 20 wL) := Lib.hid (fun w1 b g bm cap h => by
    refine (mk_any b g bm cap 20 [zN, wX, wP] 7 3 1 0 2 w1 h.ar (h.shp hE) (by simp [Nd.ok, i64ok, u64ok])).mono ?_
    rintro e w' ⟨g', cap', rfl, hA, hg, hk⟩
    obtain ⟨m1, m2, m3⟩ := w_mk3
    change mkL 20 [zN, wX, wP] ⟨7, 3, 1, 0, 2⟩ = _ at m1
    change mkR 20 [zN, wX, wP] ⟨7, 3, 1, 0, 2⟩ = _ at m2
    change mkE 20 [zN, wX, wP] ⟨7, 3, 1, 0, 2⟩ = _ at m3
    rw [m1] at hA
    rw [m2, m3]
    exact ⟨g', cap', rfl, h.step hA hg hk⟩)
  clear hE
  go_enter Tryd.func13, Tryd.ntmps13
  go_wp2_with (first
    | (go_at_call 29; refine HN.out.mono ?_; rintro e w1 ⟨b, g, bm, rfl, hA1, h1, h2, h3, hb1⟩; have _hn1 := h1)
    | (go_at_call 32; have _h := _hn1; refine (HM1.out w1 b g bm 1 ⟨hA1, hb1, h1, h2, h3⟩).mono ?_; rintro e w2 ⟨g2, cap2, rfl, hS2⟩; clear _hn1; have _hn2 := hS2.hb)
    | (go_at_call 32; have _h := _hn2; refine (HM2.out w2 b g2 bm cap2 hS2).mono ?_; rintro e w3 ⟨g3, cap3, rfl, hS3⟩; clear _hn2; have _hn3 := hS3.hb)
    | (go_at_call 32; have _h := _hn3; refine (HM3.out w3 b g3 bm cap3 hS3).mono ?_; rintro e w4 ⟨g4, cap4, rfl, hS4⟩; clear _hn3)
    | (go_at_call 30; refine (knew_any hS4).mono ?_; rintro e w5 ⟨rfl, hK5, hb5⟩; have _k1 := hb5.size)
    | (go_at_call 22; have _h := _k1; refine (learn_any hK5.kn (by simp) 3 (by decide)).mono ?_; rintro e w6 ⟨hv6, K6, rfl, hN6, hC6, hL6⟩; have HK6 := Lib.hid (hK5.learn hN6 hL6); have HC6 := Lib.hid hC6; clear _k1; have _k2 := hL6.size; clear hN6 hL6 hC6 hK5 hb5)
    | (go_at_call 21; have _h := _k2; refine (can_any HK6.out.kn.ar.wf HK6.out.kn 2 (by decide)).mono ?_; rintro e w7 ⟨d7, rfl, hd7, hN7, hP7⟩; have hd7' : d7 = false := (by cases d7; rfl; exact absurd (hd7.1 rfl) (w_sealed HC6.out)); subst hd7'; have HK7 := Lib.hid (HK6.out.can hN7 hP7); clear _k2; have _k3 := hP7.size; clear hd7 hN7 hP7)
    | (go_at_call 22; have _h := _k3; refine (learn_any HK7.out.kn (by simp) 1 (by decide)).mono ?_; rintro e w8 ⟨hv8, K8, rfl, hN8, hC8, hL8⟩; have HK8 := Lib.hid (HK7.out.learn hN8 hL8); have HOP := Lib.hid (w_open HC6.out hC8); clear _k3; have _k4 := hL8.size; clear hN8 hC8 hL8)
    | (go_at_call 16; refine (knows_any 2 (by simp [i64ok]) w8 HK8.out.kn.kw).mono ?_; rintro e w9 ⟨rfl, hb9⟩; rw [HOP.out.1]; have HK9 := Lib.hid (HK8.out.keep hb9); clear hb9)
    | (go_at_call 21; have _h := _k4; refine (can_any HK9.out.kn.ar.wf HK9.out.kn 2 (by decide)).mono ?_; rintro e w10 ⟨d10, rfl, hd10, hN10, hP10⟩; have hd10' : d10 = true := hd10.2 HOP.out.2; subst hd10'; have HK10 := Lib.hid (HK9.out.can hN10 hP10); clear hd10 hN10 hP10)
    | (go_at_call 17; refine (heard_some HK10.out.kn (by simp) (by simp)).mono ?_; rintro e w11 ⟨g11, c11, rfl, ho11, hb11⟩; have HK11 := Lib.hid (HK10.out.keep hb11); clear ho11 hb11))
  go_ret
  exact ⟨rfl, HK11.out.st.bel⟩
end Go.Proofs.YtemigefkkjgehaaDoor
