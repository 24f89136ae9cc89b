/- Layer 6: the walk of Psk. -/
import Derived.Test.YtjnijppghgemeaaDoorBk
namespace Go.Proofs.YtjnijppghgemeaaDoor
open Go.RowKit Go.Shelf

set_option maxRecDepth 100000 in
set_option maxHeartbeats 4000000 in
theorem psk_bad (x : Sl) (p : Pt) (n : Int) (w : World) (hp : PatA w x p) (hr : right p = false) : Calls Tryd.prog 20 #[patV x p, .int .i64 n] w fun e w' => e = .returned (.tuple #[patV nilS zP, .int .i64 1]) ∧ Below w.heap.size w w' := by
  have HR := Lib.hid (fun wx (hb : Below w.heap.size w wx) => right_any x p wx (hp.keep hb))
  have HN := Lib.hid (pb_new w x p)
  rw [hr] at HR
  clear hp hr
  unfold patV at *
  go_enter Tryd.func20, Tryd.ntmps20
  go_wp2_with (go_at_call 34; refine (HR.out _ HN.out.bel).mono ?_; rintro e w1 ⟨rfl, hb1⟩; have HN1 := Lib.hid (HN.out.keep hb1); clear hb1; obtain ⟨r0, r1, r2, r3, y0, y1, y2, y3⟩ := box4c HN1.out.res)
  refine bodyPost_ret (v := .tuple #[.agg #[.string ⟨#[]⟩, .slice none 0 0, .slice none 0 0, .slice none 0 0], .int .i64 1]) (by rw [results_cell_tmp rfl]; go_simp) rfl ?_
  exact ⟨rfl, set4_below HN1.out.bel (by omega) _ _ _ _⟩

set_option maxRecDepth 100000 in
set_option maxHeartbeats 4000000 in
theorem psk_out (x : Sl) (p : Pt) (n : Int) (w : World) (hp : PatA w x p) (hr : right p = true) (hn : n < 0 ∨ (p.ms.length : Int) < n) : Calls Tryd.prog 20 #[patV x p, .int .i64 n] w fun e w' => e = .returned (.tuple #[patV nilS zP, .int .i64 13]) ∧ Below w.heap.size w w' := by
  have HR := Lib.hid (fun wx (hb : Below w.heap.size w wx) => right_any x p wx (hp.keep hb))
  have HN := Lib.hid (pb_new w x p)
  rw [hr] at HR
  clear hp hr
  unfold patV at *
  by_cases h0 : n < 0
  · clear hn
    go_enter Tryd.func20, Tryd.ntmps20
    go_wp2_with (go_at_call 34; refine (HR.out _ HN.out.bel).mono ?_; rintro e w1 ⟨rfl, hb1⟩; have HN1 := Lib.hid (HN.out.keep hb1); clear hb1; obtain ⟨r0, r1, r2, r3, y0, y1, y2, y3⟩ := box4c HN1.out.res; obtain ⟨a0, a1, a2, a3, -⟩ := box4c HN1.out.pb)
    refine bodyPost_ret (v := .tuple #[.agg #[.string ⟨#[]⟩, .slice none 0 0, .slice none 0 0, .slice none 0 0], .int .i64 13]) (by rw [results_cell_tmp rfl]; go_simp) rfl ?_
    exact ⟨rfl, set4_below HN1.out.bel (by omega) _ _ _ _⟩
  · have h1 : (p.ms.length : Int) < n := by omega
    clear hn
    go_enter Tryd.func20, Tryd.ntmps20
    go_wp2_with (go_at_call 34; refine (HR.out _ HN.out.bel).mono ?_; rintro e w1 ⟨rfl, hb1⟩; have HN1 := Lib.hid (HN.out.keep hb1); clear hb1; obtain ⟨r0, r1, r2, r3, y0, y1, y2, y3⟩ := box4c HN1.out.res; obtain ⟨a0, a1, a2, a3, -⟩ := box4c HN1.out.pb)
    refine bodyPost_ret (v := .tuple #[.agg #[.string ⟨#[]⟩, .slice none 0 0, .slice none 0 0, .slice none 0 0], .int .i64 13]) (by rw [results_cell_tmp rfl]; go_simp) rfl ?_
    exact ⟨rfl, set4_below HN1.out.bel (by omega) _ _ _ _⟩

end Go.Proofs.YtjnijppghgemeaaDoor
