/- Walks: the order of refs, as the program reckons it. -/
import Derived.Test.YtemjhhjalnlmlaaDoorWb
import Derived.Deep.RegionHeld3
import Derived.StillTailTactics
import Derived.Deep.LoopGhost
namespace Go.Proofs.YtemjhhjalnlmlaaDoor
open Go.RowKit

theorem has2_any (b : Nat) (s : Option Addr) (n cap : Nat) (g c : Nat) (x y : Int) (w : World) (c0 : w.cell? ⟨b, 0, none⟩ = some (.slice s n cap))
    (h0 : w.cell? ⟨g, 0, none⟩ = some (.int .i64 x)) (h1 : w.cell? ⟨g, 1, none⟩ = some (.int .i64 y)) :
    Calls Tryd.prog 20 #[.pointer (some ⟨b, 0, none⟩), .slice (some ⟨g, 0, none⟩) 2 c] w fun e w' => e = .returned (.bool (hasB n x && hasB n y)) ∧ w = w' := by
  have h := hasAll_any b s n cap g c [x, y] w c0 (by simp) (fun i hi => by
    match i, hi with
    | 0, _ => exact h0
    | 1, _ => exact h1)
  have e : allB n [x, y] = (hasB n x && hasB n y) := by simp [allB]
  rw [e] at h
  exact h
theorem has3_any (b : Nat) (s : Option Addr) (n cap : Nat) (g c : Nat) (x y z : Int) (w : World) (c0 : w.cell? ⟨b, 0, none⟩ = some (.slice s n cap))
    (h0 : w.cell? ⟨g, 0, none⟩ = some (.int .i64 x)) (h1 : w.cell? ⟨g, 1, none⟩ = some (.int .i64 y)) (h2 : w.cell? ⟨g, 2, none⟩ = some (.int .i64 z)) :
    Calls Tryd.prog 20 #[.pointer (some ⟨b, 0, none⟩), .slice (some ⟨g, 0, none⟩) 3 c] w fun e w' => e = .returned (.bool (hasB n x && (hasB n y && hasB n z))) ∧ w = w' := by
  have h := hasAll_any b s n cap g c [x, y, z] w c0 (by simp) (fun i hi => by
    match i, hi with
    | 0, _ => exact h0
    | 1, _ => exact h1
    | 2, _ => exact h2)
  have e : allB n [x, y, z] = (hasB n x && (hasB n y && hasB n z)) := by simp [allB]
  rw [e] at h
  exact h
theorem or2_any (g c : Nat) (x y : Int) (w : World) (h0 : w.cell? ⟨g, 0, none⟩ = some (.int .i64 x)) (h1 : w.cell? ⟨g, 1, none⟩ = some (.int .i64 y)) :
    Calls Tryd.prog 31 #[.slice (some ⟨g, 0, none⟩) 2 c] w fun e w' => e = .returned (.int .i64 (orZ [x, y])) ∧ w = w' :=
  or_any g c [x, y] w (by simp) (fun i hi => by
    match i, hi with
    | 0, _ => exact h0
    | 1, _ => exact h1)

/-- A row of nodes, five cells each. -/
def ndAt (w : World) (g i : Nat) (d : Nd) : Prop :=
  w.cell? ⟨g, i * 5, none⟩ = some (.int .i64 d.k) ∧ w.cell? ⟨g, i * 5 + 1, none⟩ = some (.int .u64 d.n) ∧ w.cell? ⟨g, i * 5 + 2, none⟩ = some (.int .i64 d.a) ∧ w.cell? ⟨g, i * 5 + 3, none⟩ = some (.int .i64 d.b) ∧ w.cell? ⟨g, i * 5 + 4, none⟩ = some (.int .i64 d.c)
def rowAt (w : World) (g : Nat) (L : List Nd) : Prop := ∀ i, i < L.length → ndAt w g i (L.getD i zN)

theorem ndAt.keep {w w' : World} {g i : Nat} {d : Nd} (h : ndAt w g i d) (hk : w'.heap[g]? = w.heap[g]?) : ndAt w' g i d := by
  unfold ndAt at *
  have e : ∀ o, w'.cell? ⟨g, o, none⟩ = w.cell? ⟨g, o, none⟩ := fun o => World.cell?_of_block hk
  simp only [e]; exact h

/-- A node in a box of its own. -/
def boxAt (w : World) (p : Nat) (k n a b c : Int) : Prop :=
  w.cell? ⟨p, 0, none⟩ = some (.int .i64 k) ∧ w.cell? ⟨p, 1, none⟩ = some (.int .u64 n) ∧ w.cell? ⟨p, 2, none⟩ = some (.int .i64 a) ∧ w.cell? ⟨p, 3, none⟩ = some (.int .i64 b) ∧ w.cell? ⟨p, 4, none⟩ = some (.int .i64 c)

set_option maxHeartbeats 1000000 in
theorem compare_any (b g cap : Nat) (L : List Nd) (x y : Int) (w : World) (c0 : w.cell? ⟨b, 0, none⟩ = some (.slice (some ⟨g, 0, none⟩) L.length cap)) (hr : rowAt w g L) (hw : WFp L) (hm : L.length ≤ 65536) (hb : b < w.heap.size) (hg : g < w.heap.size) :
    Calls Tryd.prog 18 #[.pointer (some ⟨b, 0, none⟩), .int .i64 x, .int .i64 y] w fun e w' => e = .returned (.int .i64 (cmp L x y)) ∧ Below w.heap.size w w' := by
  have HR := Lib.hid hr; clear hr
  have HW := Lib.hid hw; clear hw
  go_enter Tryd.func18, Tryd.ntmps18
  go_wp2_with fail
  go_loopg [1, 2, 7, 8, 9] (x.toNat + y.toNat) (fun k u1 u2 _ _ _ wr => ∃ x' y' : Int, u1 = .int .i64 x' ∧ u2 = .int .i64 y' ∧ cmp L x' y' = cmp L x y ∧ x'.toNat + y'.toNat ≤ k ∧ Below w.heap.size w wr)
  case atStart => exact ⟨x, y, rfl, rfl, rfl, Nat.le_refl _, Below.refl _ _⟩
  case round =>
    obtain ⟨x', y', rfl, rfl, hc, hk, hbel⟩ := hrel
    have HC := Lib.hid hc; clear hc
    have c0' : wr.cell? ⟨b, 0, none⟩ = some (.slice (some ⟨g, 0, none⟩) L.length cap) := by rw [hbel.cell (p := ⟨b, 0, none⟩) hb]; exact c0
    have hbr : b < wr.heap.size := Nat.lt_of_lt_of_le hb hbel.size
    have hgr : g < wr.heap.size := Nat.lt_of_lt_of_le hg hbel.size
    by_cases hxy : x' = y'
    · subst hxy
      have HF : Hid (cmp L x y = 0) := Lib.hid (by rw [← HC.out, cmp_self])
      go_wp2_with fail
      go_ret
      exact ⟨by rw [HF.out]; rfl, hbel⟩
    · have h1 : (x' != y') = true := by simpa using hxy
      cases hbo : both L x' y'
      · have HF : Hid (cmp L x y = cmpMiss L.length x' y') := Lib.hid (by rw [← HC.out, cmp_miss hxy hbo])
        have HB := Lib.hid hbo; clear hbo
        clear hxy
        go_wp2_with fail
        refine (has2_any b (some ⟨g, 0, none⟩) L.length cap _ _ x' y' _ ?_ ?_ ?_).mono ?_
        · go_simp
        · go_simp
        · go_simp
        rintro e w' ⟨rfl, rfl⟩
        rw [show (hasB L.length x' && hasB L.length y') = false from HB.out]
        go_wp2_with fail
        refine (miss_any b (some ⟨g, 0, none⟩) L.length cap _ _ _ ?_).mono ?_
        · go_simp
        rintro e w' ⟨rfl, rfl⟩
        go_wp2_with fail
        go_ret
        exact ⟨by rw [HF.out]; rfl, hbel.alloc hbel.size _⟩
      · have hbb := both_iff.1 hbo
        obtain ⟨i, rfl⟩ := Int.eq_ofNat_of_zero_le hbb.1.1
        obtain ⟨j, rfl⟩ := Int.eq_ofNat_of_zero_le hbb.2.1
        have hi : i < L.length := by omega
        have hj : j < L.length := by omega
        have ri := (HR.out i hi).keep (w' := wr) (hbel.block g hg)
        have rj := (HR.out j hj).keep (w' := wr) (hbel.block g hg)
        have HB := Lib.hid hbo; clear hbo hbb
        have HXY := Lib.hid hxy; clear hxy
        obtain ⟨m, hmm⟩ : ∃ m, m = L.getD i zN := ⟨_, rfl⟩
        obtain ⟨n, hnn⟩ : ∃ n, n = L.getD j zN := ⟨_, rfl⟩
        rw [← hmm] at ri
        rw [← hnn] at rj
        have HM := Lib.hid hmm; clear hmm
        have HN := Lib.hid hnn; clear hnn
        obtain ⟨k1, n1, a1, b1, e1⟩ := m
        obtain ⟨k2, n2, a2, b2, e2⟩ := n
        obtain ⟨ri0, ri1, ri2, ri3, ri4⟩ := ri
        obtain ⟨rj0, rj1, rj2, rj3, rj4⟩ := rj
        simp only at ri0 ri1 ri2 ri3 ri4 rj0 rj1 rj2 rj3 rj4
        go_wp2_with fail
        refine (has2_any b (some ⟨g, 0, none⟩) L.length cap _ _ (i : Int) (j : Int) _ ?_ ?_ ?_).mono ?_
        · go_simp
        · go_simp
        · go_simp
        rintro e w' ⟨rfl, rfl⟩
        rw [show (hasB L.length (i : Int) && hasB L.length (j : Int)) = true from HB.out]
        go_wp2_with fail
        have q1 : b < wr.heap.size + 1 := by omega
        have q2 : b < wr.heap.size + 1 + 1 := by omega
        have q3 : g < wr.heap.size + 1 := by omega
        have q4 : g < wr.heap.size + 1 + 1 := by omega
        go_cut [7, 8] (fun s7 s8 wx => ∃ p q : Nat, p < wx.heap.size ∧ q < wx.heap.size ∧ s7 = .pointer (some ⟨p, 0, none⟩) ∧ s8 = .pointer (some ⟨q, 0, none⟩) ∧ boxAt wx p k1 n1 a1 b1 e1 ∧ boxAt wx q k2 n2 a2 b2 e2 ∧ Below w.heap.size w wx)
        case first =>
          go_region
          · go_wp2_with fail
            go_meet
            case rel => exact ⟨wr.heap.size + 1, wr.heap.size + 1 + 1, by simp, by simp, rfl, rfl, by unfold boxAt; refine ⟨?_, ?_, ?_, ?_, ?_⟩ <;> go_simp, by unfold boxAt; refine ⟨?_, ?_, ?_, ?_, ?_⟩ <;> go_simp, (((hbel.alloc hbel.size _).alloc (Nat.le_trans hbel.size (by simp)) _).alloc (Nat.le_trans hbel.size (by simp; omega)) _).drew⟩
          · go_wp2_with fail
            go_meet
            case rel => exact ⟨wr.heap.size + 1 + 1, wr.heap.size + 1, by simp, by simp, rfl, rfl, by unfold boxAt; refine ⟨?_, ?_, ?_, ?_, ?_⟩ <;> go_simp, by unfold boxAt; refine ⟨?_, ?_, ?_, ?_, ?_⟩ <;> go_simp, (((hbel.alloc hbel.size _).alloc (Nat.le_trans hbel.size (by simp)) _).alloc (Nat.le_trans hbel.size (by simp; omega)) _).drew⟩
        case rest =>
          obtain ⟨p, q, hp, hq, rfl, rfl, hbp, hbq, hbx⟩ := hcut
          obtain ⟨p0, p1, p2, p3, p4⟩ := hbp
          obtain ⟨o0, o1, o2, o3, o4⟩ := hbq
          clear q1 q2 q3 q4 ri0 ri1 ri2 ri3 ri4 rj0 rj1 rj2 rj3 rj4
          go_upto_region 5 with fail
          go_cut [9] (fun s9 wx => s9 = .int .i64 (orZ [cmpZ k1 k2, cmpZ n1 n2]) ∧ boxAt wx p k1 n1 a1 b1 e1 ∧ boxAt wx q k2 n2 a2 b2 e2 ∧ Below w.heap.size w wx)
          case first =>
            go_region_held3 (fun w' => w'.cell? ⟨p, 0, none⟩ = some (.int .i64 k1) ∧ w'.cell? ⟨q, 0, none⟩ = some (.int .i64 k2) ∧ w'.cell? ⟨p, 1, none⟩ = some (.int .u64 n1) ∧ w'.cell? ⟨q, 1, none⟩ = some (.int .u64 n2)) (go_keep)
              (first
                | (go_at_call 32; refine (cmp_int _ _ _).mono ?_; rintro e w' ⟨rfl, rfl⟩)
                | (go_at_call 33; refine (cmp_u64 _ _ _).mono ?_; rintro e w' ⟨rfl, rfl⟩)
                | (go_at_call 31; refine (or2_any _ _ (cmpZ k1 k2) (cmpZ n1 n2) _ ?_ ?_).mono ?_; (go_simp); (go_simp); rintro e w' ⟨rfl, rfl⟩))
            go_wp2_with fail
            go_meet
            case rel => exact ⟨rfl, by unfold boxAt; refine ⟨?_, ?_, ?_, ?_, ?_⟩ <;> go_simp, by unfold boxAt; refine ⟨?_, ?_, ?_, ?_, ?_⟩ <;> go_simp, (hbx.alloc hbx.size _).drew⟩
          case rest =>
            clear p0 p1 p2 p3 p4 o0 o1 o2 o3 o4 hp hq hbx
            obtain ⟨rfl, hbp, hbq, hbx⟩ := hcut
            obtain ⟨p0, p1, p2, p3, p4⟩ := hbp
            obtain ⟨o0, o1, o2, o3, o4⟩ := hbq
            have hni : nd L (i : Int) = ⟨k1, n1, a1, b1, e1⟩ := by unfold nd; rw [Int.toNat_natCast]; exact HM.out.symm
            have hnj : nd L (j : Int) = ⟨k2, n2, a2, b2, e2⟩ := by unfold nd; rw [Int.toNat_natCast]; exact HN.out.symm
            obtain ⟨t, htt⟩ : ∃ t, t = orZ [cmpZ k1 k2, cmpZ n1 n2] := ⟨_, rfl⟩
            have hto : top (nd L (i : Int)) (nd L (j : Int)) = t := by rw [hni, hnj, htt]; rfl
            rw [← htt]
            clear htt
            by_cases h0 : t = 0
            · subst h0
              have hdeep := cmp_deep HW.out HXY.out HB.out hto
              have hlt := HW.out.fd_lt HXY.out HB.out hto
              rw [hni, hnj] at hdeep hlt
              have HD := Lib.hid hdeep
              clear hdeep hto hni hnj
              unfold fd1 fd2 at hlt
              simp only at hlt
              have HL := Lib.hid hlt; clear hlt
              go_wp2_with fail
              refine (first_any k1 n1 a1 b1 e1 k2 n2 a2 b2 e2 _).mono ?_
              rintro e w' ⟨rfl, hb2⟩
              obtain ⟨f1, hf1⟩ : ∃ f, f = (if a1 = a2 then (if b1 = b2 then e1 else b1) else a1) := ⟨_, rfl⟩
              obtain ⟨f2, hf2⟩ : ∃ f, f = (if a1 = a2 then (if b1 = b2 then e2 else b2) else a2) := ⟨_, rfl⟩
              rw [← hf1, ← hf2]
              have HF1 := Lib.hid hf1
              have HF2 := Lib.hid hf2
              clear hf1 hf2
              go_wp2_with fail
              go_roundg (f1.toNat + f2.toNat)
              case measure => have := HL.out; rw [← HF1.out, ← HF2.out] at this; omega
              case rel =>
                refine ⟨f1, f2, rfl, rfl, ?_, Nat.le_refl _, hbx.trans (hb2.mono hbx.size)⟩
                rw [← HC.out, HD.out, HF1.out, HF2.out]; rfl
            · have h2 : (t != 0) = true := by simpa using h0
              have HF : Hid (cmp L x y = t) := Lib.hid (by rw [← HC.out, cmp_top HXY.out HB.out (by rw [hto]; exact h0), hto])
              clear hto hni hnj h0
              go_wp2_with fail
              go_ret
              exact ⟨by rw [HF.out]; rfl, hbx⟩
end Go.Proofs.YtemjhhjalnlmlaaDoor
