/- Layer 4: what the document fixes of the attacker's own key (awake). -/
import Derived.Test.YtlckajnbmkkpeaaDoorEn
namespace Go.Proofs.YtlckajnbmkkpeaaDoor
open Go.RowKit Go.Maps

def vX : Nd := ⟨1, 1, 0, 0, 0⟩
def vP : Nd := ⟨2, 0, 1, 0, 0⟩
def vL : List Nd := [zN, vX, vP]
def vM : List Nd := [⟨1, 4294967296, 0, 0, 0⟩, ⟨3, 0, 1, 3, 0⟩]
def vS : List Sp := [⟨1, 0, 0, 0, 0⟩, ⟨0, 0, 0, 0, 0⟩, ⟨3, 0, 0, 1, 0⟩]
theorem v_run : runY 20 [2] vS vL [] 0 = ⟨vL ++ vM, [3, 2, 4], 0, 0⟩ := by kernel_rfl
theorem v_mk1 : mkL 20 [zN] vX = [zN, vX] ∧ mkR 20 [zN] vX = 1 ∧ mkE 20 [zN] vX = 0 := mk_new (by decide) (by decide) (by decide)
theorem v_mk2 : mkL 20 [zN, vX] vP = vL ∧ mkR 20 [zN, vX] vP = 2 ∧ mkE 20 [zN, vX] vP = 0 := mk_new (by decide) (by decide) (by decide)
/-- The attacker's own key shared with a public one that was heard. -/
theorem v_can {K : Int → Bool} (h : ∀ y, K y = true ↔ cl vL (fun x => false = true ∨ x = 2) y) : Can (vL ++ vM) (fun x => K x = true) 4 := by
  have h2 : K 2 = true := (h 2).2 (cl_in (.inr rfl))
  exact Can.dhB (p := 2) (by decide) (by decide) (Can.own (by decide) (by decide) (by decide)) (by decide) h2 (by decide)
theorem v_steps (w6 : World) : StepsV (w6.alloc (.cells #[.int .i64 1, .int .u64 0, .int .i64 0, .int .i64 0, .int .i64 0, .int .i64 0, .int .u64 0, .int .i64 0, .int .i64 0, .int .i64 0, .int .i64 3, .int .u64 0, .int .i64 0, .int .i64 1, .int .i64 0] 60)) (some ⟨w6.heap.size, 0, none⟩) vS := fun _ => by
  have h := heap_alloc_new w6 (.cells #[.int .i64 1, .int .u64 0, .int .i64 0, .int .i64 0, .int .i64 0, .int .i64 0, .int .u64 0, .int .i64 0, .int .i64 0, .int .i64 0, .int .i64 3, .int .u64 0, .int .i64 0, .int .i64 1, .int .i64 0] 60)
  refine ⟨_, _, rfl, by simp, fun i hi => ?_⟩
  match i, hi with
  | 0, _ => exact ⟨(cell_of_row _ _ 0 _ _ _ h).trans rfl, (cell_of_row _ _ 1 _ _ _ h).trans rfl, (cell_of_row _ _ 2 _ _ _ h).trans rfl, (cell_of_row _ _ 3 _ _ _ h).trans rfl, (cell_of_row _ _ 4 _ _ _ h).trans rfl⟩
  | 1, _ => exact ⟨(cell_of_row _ _ 5 _ _ _ h).trans rfl, (cell_of_row _ _ 6 _ _ _ h).trans rfl, (cell_of_row _ _ 7 _ _ _ h).trans rfl, (cell_of_row _ _ 8 _ _ _ h).trans rfl, (cell_of_row _ _ 9 _ _ _ h).trans rfl⟩
  | 2, _ => exact ⟨(cell_of_row _ _ 10 _ _ _ h).trans rfl, (cell_of_row _ _ 11 _ _ _ h).trans rfl, (cell_of_row _ _ 12 _ _ _ h).trans rfl, (cell_of_row _ _ 13 _ _ _ h).trans rfl, (cell_of_row _ _ 14 _ _ _ h).trans rfl⟩
/-- Run of new steps, with a Know made since w. -/
theorem run_kx {w0 w : World} {bk b g bm cap lim : Nat} {L : List Nd} {mk : Nat} {hv : Value} {hs : List Int} {K : Int → Bool} (h : Kx w0 w bk b g bm cap lim L mk hv hs K) (hsh : Shp w0) (hS : Rsh w0) (hm : hs.length ≤ 1000001) (hK : ∀ x ∈ hs, K x = true) (sl : Option Addr) (cl : Nat) (l : List Sp) (hl : StepsV w sl l) (hln : 0 < l.length → ∀ p, sl = some p → p.block ≠ b ∧ p.block ≠ g ∧ p.block ≠ bm) (hll : l.length ≤ 1000) :
    Calls Tryd.prog 25 #[.pointer (some ⟨b, 0, none⟩), .pointer (some ⟨bk, 0, none⟩), .slice sl l.length cl] w fun e w' => ∃ sy cy g' cap', e = .returned (.tuple #[.slice sy (runY lim hs l L [] 0).Y.length cy, .int .i64 (runY lim hs l L [] 0).i, .int .i64 (runY lim hs l L [] 0).e]) ∧ (∀ M, (runY lim hs l L [] 0).L = L ++ M → Kx w0 w' bk b g' bm cap' lim (L ++ M) mk hv hs K) ∧ IntsV w' sy (runY lim hs l L [] 0).Y ∧ (∀ p, sy = some p → w.heap.size ≤ p.block ∧ p.block ≠ g') ∧ (g' = g ∨ w.heap.size ≤ g') ∧ Kept w w' b g bm :=
  (run_any sl cl l h.st hsh hS (heard_any h.kn hm) (fun x hx => h.kn.kh x (hK x hx)) hl hln hll).mono fun e w' ⟨sy, cy, g', cap', he, hst, hi, hp, hg, hk⟩ => ⟨sy, cy, g', cap', he, fun M hM => h.grow (hM ▸ hst) hk, hi, hp, hg, hk⟩
theorem v_call {w w6 : World} {bk b g bm cap : Nat} {mk : Nat} {hv : Value} {K : Int → Bool} (h : Kx w w6 bk b g bm cap 20 vL mk hv [2] K) (hsh : Shp w) (hS : Rsh w) (hK : K 2 = true) :
    Calls Tryd.prog 25 #[.pointer (some ⟨b, 0, none⟩), .pointer (some ⟨bk, 0, none⟩), .slice (some ⟨w6.heap.size, 0, none⟩) 3 3] (w6.alloc (.cells #[.int .i64 1, .int .u64 0, .int .i64 0, .int .i64 0, .int .i64 0, .int .i64 0, .int .u64 0, .int .i64 0, .int .i64 0, .int .i64 0, .int .i64 3, .int .u64 0, .int .i64 0, .int .i64 1, .int .i64 0] 60)) fun e w' => ∃ gl ol cy g' cap', e = .returned (.tuple #[.slice (some ⟨gl, ol, none⟩) 3 cy, .int .i64 0, .int .i64 0]) ∧ Kx w w' bk b g' bm cap' 20 (vL ++ vM) mk hv [2] K ∧ w'.cell? ⟨gl, ol + 1, none⟩ = some (.int .i64 2) ∧ w'.cell? ⟨gl, ol + 2, none⟩ = some (.int .i64 4) := by
  have hb : Below w6.heap.size w6 (w6.alloc (.cells #[.int .i64 1, .int .u64 0, .int .i64 0, .int .i64 0, .int .i64 0, .int .i64 0, .int .u64 0, .int .i64 0, .int .i64 0, .int .i64 0, .int .i64 3, .int .u64 0, .int .i64 0, .int .i64 1, .int .i64 0] 60)) := (Below.refl _ _).alloc (Nat.le_refl _) _
  have h1 := h.kn.ar.blt
  have h2 := h.kn.ar.glt
  have h3 := h.kn.ar.mlt
  have hc := run_kx (h.keep hb) hsh hS (by simp) (fun x hx => by rw [List.mem_singleton.1 hx]; exact hK) (some ⟨w6.heap.size, 0, none⟩) 3 vS (v_steps w6) (fun _ p hp => by
    obtain rfl := Option.some.inj hp
    refine ⟨?_, ?_, ?_⟩ <;> simp only <;> omega) (by decide)
  rw [v_run] at hc
  refine hc.mono ?_
  rintro e w' ⟨sy, cy, g', cap', rfl, hKx, hi, _, _, _⟩
  obtain ⟨gl, ol, rfl, _, hia⟩ := hi (by decide)
  exact ⟨gl, ol, cy, g', cap', rfl, hKx vM rfl, hia 1 (by decide), hia 2 (by decide)⟩
set_option maxRecDepth 100000 in
set_option maxHeartbeats 4000000 in
theorem awake4_any (w : World) (hE : Shp w) (hS : Rsh w) : Calls Tryd.prog 23 #[] w fun e w' => e = .returned (.bool true) ∧ Below w.heap.size w w' := by
  have HN := Lib.hid (new_any 20 w)
  have HM1 : Hid (∀ w1 b g bm cap, St w w1 b g bm cap 20 [zN] → Calls Tryd.prog 32 #[.pointer (some ⟨b, 0, none⟩), .agg #[.int .i64 1, .int .u64 1, .int .i64 0, .int .i64 0, .int .i64 0]] w1 fun e w' => ∃ g' cap', e = .returned (.tuple #[.int .i64 1, .int .i64 0]) ∧ St w w' b g' bm cap' 20 [zN, vX]) := Lib.hid (fun w1 b g bm cap h => by
    refine (mk_any b g bm cap 20 [zN] 1 1 0 0 0 w1 h.ar (h.shp hE) (by simp [Nd.ok, i64ok, u64ok])).mono ?_
    rintro e w' ⟨g', cap', rfl, hA, hg, hk⟩
    obtain ⟨m1, m2, m3⟩ := v_mk1
    unfold vX at m1 m2 m3
    rw [m1] at hA
    rw [m2, m3]
    exact ⟨g', cap', rfl, h.step hA hg hk⟩)
  have HM2 : Hid (∀ w1 b g bm cap, St w w1 b g bm cap 20 [zN, vX] → Calls Tryd.prog 32 #[.pointer (some ⟨b, 0, none⟩), .agg #[.int .i64 2, .int .u64 0, .int .i64 1, .int .i64 0, .int .i64 0]] w1 fun e w' => ∃ g' cap', e = .returned (.tuple #[.int .i64 2, .int .i64 0]) ∧ St w w' b g' bm cap' 20 vL) := Lib.hid (fun w1 b g bm cap h => by
    refine (mk_any b g bm cap 20 [zN, vX] 2 0 1 0 0 w1 h.ar (h.shp hE) (by simp [Nd.ok, i64ok, u64ok])).mono ?_
    rintro e w' ⟨g', cap', rfl, hA, hg, hk⟩
    obtain ⟨m1, m2, m3⟩ := v_mk2
    change mkL 20 [zN, vX] ⟨2, 0, 1, 0, 0⟩ = _ at m1
    change mkR 20 [zN, vX] ⟨2, 0, 1, 0, 0⟩ = _ at m2
    change mkE 20 [zN, vX] ⟨2, 0, 1, 0, 0⟩ = _ at m3
    rw [m1] at hA
    rw [m2, m3]
    exact ⟨g', cap', rfl, h.step hA hg hk⟩)
  have HSH := Lib.hid hE
  have HRS := Lib.hid hS
  clear hE hS
  go_enter Tryd.func23, Tryd.ntmps23
  go_wp2_with (first
    | (go_at_call 29; refine HN.out.mono ?_; rintro e w1 ⟨b, g, bm, rfl, hA1, h1, h2, h3, hb1⟩; have _hn1 := h1)
    | (go_at_call 32; have _h := _hn1; refine (HM1.out w1 b g bm 1 ⟨hA1, hb1, h1, h2, h3⟩).mono ?_; rintro e w2 ⟨g2, cap2, rfl, hS2⟩; clear _hn1; have _hn2 := hS2.hb)
    | (go_at_call 32; have _h := _hn2; refine (HM2.out w2 b g2 bm cap2 hS2).mono ?_; rintro e w3 ⟨g3, cap3, rfl, hS3⟩; clear _hn2)
    | (go_at_call 30; refine (knew_any hS3).mono ?_; rintro e w5 ⟨rfl, hK5, hb5⟩)
    | (go_at_call 22; refine (learn_any hK5.kn (by simp) 2 (by decide)).mono ?_; rintro e w6 ⟨hv6, K6, rfl, hN6, hC6, hL6⟩; have HK6 := Lib.hid (hK5.learn hN6 hL6); have HC6 := Lib.hid hC6; clear hN6 hL6 hC6 hK5 hb5)
    | (go_at_call 25; refine (v_call HK6.out HSH.out HRS.out ((HC6.out 2).2 (cl_in (.inr rfl)))).mono ?_; rintro e w7 ⟨gl, ol, cy, g7, cap7, rfl, hK7, y1, y2⟩; have HK7 := Lib.hid hK7; clear hK7)
    | (go_at_call 47; refine (get_hasL (L := vL ++ vM) (r := 4) (by decide) HK7.out.kn.ar).mono ?_; rintro e w8 ⟨rfl, hb8⟩; have HK8 := Lib.hid (fun o => (HK7.out.keep hb8).keep ((Below.refl _ _).alloc (Nat.le_refl _) o)); have z1 := (hb8.cell (p := ⟨gl, ol + 1, none⟩) (World.block_lt_of_cell? _ _ y1)).trans y1; have z2 := (hb8.cell (p := ⟨gl, ol + 2, none⟩) (World.block_lt_of_cell? _ _ y2)).trans y2; have lz : gl < w8.heap.size := World.block_lt_of_cell? _ _ z1; clear hb8 y1 y2)
    | (go_at_call 21; refine (can_any HK7.out.kn.ar.wf (HK8.out _).kn 4 (by decide)).mono ?_; rintro e w9 ⟨d9, rfl, hd9, hN9, hP9⟩; have hd9' : d9 = true := hd9.2 (v_can HC6.out); subst hd9'; have HK9 := Lib.hid ((HK8.out _).can hN9 hP9); clear hd9 hN9 hP9))
  go_ret
  exact ⟨rfl, HK9.out.st.bel⟩
end Go.Proofs.YtlckajnbmkkpeaaDoor
