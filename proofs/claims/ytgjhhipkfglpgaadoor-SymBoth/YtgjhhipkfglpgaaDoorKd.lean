/- Layer 11: the walk of MixHash. -/
import Derived.Test.YtgjhhipkfglpgaaDoorKc
namespace Go.Proofs.YtgjhhipkfglpgaaDoor
open Go.RowKit

theorem mh_cases {lim : Nat} {L : List Nd} {s : Sf} {x : Int} : (mhE lim L s x = 0 → mhS lim L s x = ⟨s.ck, mkR lim L (hashN s.h x), s.c⟩) ∧ (mhE lim L s x ≠ 0 → mhS lim L s x = sZ) := by
  unfold mhS; exact ⟨fun h => if_pos h, fun h => if_neg h⟩
theorem hashN_okI {h x : Int} (h1 : i64ok h) (h2 : i64ok x) : (hashN h x).ok := ⟨by simp [hashN, i64ok], by simp [hashN, u64ok], h1, h2, by simp [hashN, i64ok]⟩
set_option maxRecDepth 100000 in
set_option maxHeartbeats 2000000 in
theorem mixHash_any (b g bm cap lim : Nat) (L : List Nd) (s : Sf) (x : Int) (w : World) (hA : Ar w b g bm cap lim L) (hsh : Shp w) (hs : i64ok s.h) (hx : i64ok x) :
    Calls Tryd.prog 11 #[syV s, .pointer (some ⟨b, 0, none⟩), .int .i64 x] w (ArPost b g bm lim (mhL lim L s x) (.tuple #[syV (mhS lim L s x), .int .i64 (mhE lim L s x)]) w) := by
  obtain ⟨W0, hW0⟩ : ∃ W, W = (w.alloc (.cells #[.int .i64 s.ck, .int .i64 s.h, .int .i64 s.c.k, .bool s.c.h, .int .u64 s.c.n] 35)).alloc (.cells #[.int .i64 0, .int .i64 0, .int .i64 0, .bool false, .int .u64 0] 35) := ⟨_, rfl⟩
  have HB0 : Hid (Below w.heap.size w W0) := Lib.hid (by rw [hW0]; exact two_below _ _ _)
  have HC0 : Hid (Sb w W0 s) := Lib.hid (by rw [hW0]; exact Sb.new w s)
  have HA0 := Lib.hid (hA.below HB0.out)
  have HMK := Lib.hid (mk_any b g bm cap lim L 5 0 s.h x 0 W0 HA0.out (hsh.below HB0.out) (hashN_okI hs hx))
  have HC := Lib.hid (mh_cases (lim := lim) (L := L) (s := s) (x := x))
  have HRS : Hid (mkE lim L (hashN s.h x) ≠ 0 → mkR lim L (hashN s.h x) = 0) := Lib.hid mkR_err
  unfold mhE at HC ⊢
  unfold mhL
  unfold MkPost at HMK
  unfold hashN at HC HRS ⊢
  generalize mkL lim L ⟨5, 0, s.h, x, 0⟩ = M at *
  generalize mkR lim L ⟨5, 0, s.h, x, 0⟩ = r at *
  generalize mkE lim L ⟨5, 0, s.h, x, 0⟩ = er at *
  generalize hS' : mhS lim L s x = S' at *
  rw [hW0] at HMK
  clear hA hsh hs hx
  unfold syV
  go_enter Tryd.func11, Tryd.ntmps11
  go_wp2_with fail
  go_at_call 18
  refine HMK.out.mono ?_
  rintro e w3 ⟨g', cap', rfl, hA3, hg3, hk3⟩
  rw [← hW0] at hg3 hk3
  clear hW0 HMK
  have HC3 := Lib.hid (HC0.out.kept HA0.out hk3)
  have HK3 := Lib.hid (Kept.from HB0.out hk3)
  have HG3 := Lib.hid (grow_from HB0.out.size hg3)
  have HP3 := Lib.hid (HC3.out.apart hA3)
  have HA3 := Lib.hid hA3
  clear hA3 hg3 hk3 HC0 HA0 HB0
  obtain ⟨c0, c1, c2, c3, c4⟩ := sy_cells HC3.out.bx
  obtain ⟨z0, z1, z2, z3, z4⟩ := sy_cells HC3.out.rs
  have l1 := lt_of_heap HC3.out.rs
  have l0 : w.heap.size < w3.heap.size := by omega
  have zf : ∀ j, w3.frozen? ⟨w.heap.size + 1, j, none⟩ = false := fun j => frozen_of_row _ _ _ _ _ HC3.out.rs
  have cf : ∀ j, w3.frozen? ⟨w.heap.size, j, none⟩ = false := fun j => frozen_of_row _ _ _ _ _ HC3.out.bx
  by_cases her : er = 0
  · subst her
    have HS := Lib.hid (HC.out.1 rfl)
    clear HC HRS
    obtain ⟨ck, h, ⟨k, hh, n⟩⟩ := s
    simp only at c0 c1 c2 c3 c4
    go_wp2_with fail
    refine bodyPost_ret (v := .tuple #[.agg #[.int .i64 ck, .int .i64 r, .int .i64 k, .bool hh, .int .u64 n], .int .i64 0]) (by simp [results, Tryd.results11, go_sem, z0, z1, z2, z3, z4]) rfl ?_
    obtain ⟨⟨p1, p2, p3⟩, p4, p5, p6⟩ := HP3.out
    refine ⟨g', cap', by rw [HS.out], ?_, HG3.out, ?_⟩
    · exact (((((HA3.out.setAt p1 p2 p3 _).setAt p4 p5 p6 _).setAt p4 p5 p6 _).setAt p4 p5 p6 _).setAt p4 p5 p6 _).setAt p4 p5 p6 _
    · exact (((((HK3.out.setAt (Nat.le_refl _) _).setAt (Nat.le_succ _) _).setAt (Nat.le_succ _) _).setAt (Nat.le_succ _) _).setAt (Nat.le_succ _) _).setAt (Nat.le_succ _) _
  · have hne : (er != 0) = true := by simpa using her
    have HS := Lib.hid (HC.out.2 her)
    clear HC HRS her
    go_wp2_with fail
    refine bodyPost_ret (v := .tuple #[.agg #[.int .i64 0, .int .i64 0, .int .i64 0, .bool false, .int .u64 0], .int .i64 er]) (by simp [results, Tryd.results11, go_sem, z0, z1, z2, z3, z4]) rfl ?_
    obtain ⟨⟨p1, p2, p3⟩, p4, p5, p6⟩ := HP3.out
    refine ⟨g', cap', by rw [HS.out]; rfl, ?_, HG3.out, ?_⟩
    · exact ((((HA3.out.setAt p4 p5 p6 _).setAt p4 p5 p6 _).setAt p4 p5 p6 _).setAt p4 p5 p6 _).setAt p4 p5 p6 _
    · exact ((((HK3.out.setAt (Nat.le_succ _) _).setAt (Nat.le_succ _) _).setAt (Nat.le_succ _) _).setAt (Nat.le_succ _) _).setAt (Nat.le_succ _) _
end Go.Proofs.YtgjhhipkfglpgaaDoor
