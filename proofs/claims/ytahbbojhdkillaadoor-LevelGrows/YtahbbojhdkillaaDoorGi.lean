/- Layer 9: tracks, and their parts, are the same as themselves. -/
import Derived.Test.YtahbbojhdkillaaDoorGh
import Derived.DeepKeys
import Derived.ChangeKeysEq
namespace Go.Proofs.YtahbbojhdkillaaDoor
open Go.RowKit Go.Shelf

set_option maxRecDepth 100000 in
theorem self_eq {T : TypeId} {v : Value} {la : List Lit} (d : Nat) (hk : Tryd.prog.keyTypeAt 5 T = true) (hf : v.formed Tryd.prog T = true) (hl : Tryd.prog.keyLits 10 T v.cells.toList = some la) (w : World) : (Op.equalIn (d + 5) T v v).run Tryd.prog w = .ok true w := by
  obtain ⟨r, h, hr⟩ := run_equalIn_deep (P := Tryd.prog) d 5 T hk w 10 10 v v la la hf hf hl hl
  rw [h, hr.2 rfl]
def ar8V (m : Tr) : Value := .agg #[.bool (m.f 0), .bool (m.f 1), .bool (m.f 2), .bool (m.f 3), .bool (m.f 4), .bool (m.f 5), .bool (m.f 6), .bool (m.f 7)]
set_option maxRecDepth 100000 in
theorem ar8Eq (m : Tr) (d : Nat) (w : World) : (Op.equalIn (d + 5) 51 (ar8V m) (ar8V m)).run Tryd.prog w = .ok true w :=
  self_eq (la := _) d (by kernel_rfl) (by kernel_rfl) rfl w
set_option maxRecDepth 100000 in
theorem ar2Eq (a b : Int) (d : Nat) (w : World) : (Op.equalIn (d + 2) 52 (.agg #[.int .i64 a, .int .i64 b]) (.agg #[.int .i64 a, .int .i64 b])).run Tryd.prog w = .ok true w := by
  have hc : Tryd.prog.cellsOf 3 = 1 := by kernel_rfl
  have h0 : ∀ (x y : Int) w, (part 3 #[.int .i64 x, .int .i64 y] 0).run Tryd.prog w = .ok (.int .i64 x) w := fun _ _ _ => by kernel_rfl
  have h1 : ∀ (x y : Int) w, (part 3 #[.int .i64 x, .int .i64 y] 1).run Tryd.prog w = .ok (.int .i64 y) w := fun _ _ _ => by kernel_rfl
  have hE : ∀ (x y : Int) w, (Op.equalIn (d + 1) 3 (.int .i64 x) (.int .i64 y)).run Tryd.prog w = .ok (x == y) w := fun x y w => run_equalIn_int w d _ _ _ _ _ Tryd.underlying3
  obtain ⟨i, hi⟩ := Option.isSome_iff_exists.1 (show (Tryd.prog.info? 3).isSome = true by kernel_rfl)
  rw [run_equalIn_array w (d + 1) _ _ Tryd.underlying52 hi, hc]
  simp only [List.range, List.range.loop, Op.eqItems, Sem.run_bind, Nat.zero_mul, Nat.one_mul, h0, hE, Result.andThen_ok]
  simp [h1, hE]
set_option maxRecDepth 100000 in
theorem trStep (m : Tr) (n : Nat) (e8 : ∀ w, (Op.equalIn n 51 (ar8V m) (ar8V m)).run Tryd.prog w = .ok true w) (e2 : ∀ w, (Op.equalIn n 52 (.agg #[.int .i64 m.a, .int .i64 m.b]) (.agg #[.int .i64 m.a, .int .i64 m.b])).run Tryd.prog w = .ok true w) (w : World) : (Op.equalIn (n + 1) 54 (.agg (trA m)) (.agg (trA m))).run Tryd.prog w = .ok true w := by
  have x8 : Value.agg ((trA m).extract 0 8) = ar8V m := rfl
  have x2 : (trA m).extract 8 10 = #[.int .i64 m.a, .int .i64 m.b] := rfl
  have hs : Tryd.prog.stoodInHeld 54 = false := by kernel_rfl
  generalize trA m = A at *
  simp only [Op.equalIn, Sem.run_bind, run_underlying Tryd.underlying54, Result.andThen_ok]
  simp [hs, x8, x2, e8, e2, go_sem]
theorem trEq (m : Tr) (w : World) : (Op.equalIn 10000 54 (trV m) (trV m)).run Tryd.prog w = .ok true w :=
  trStep m 9999 (fun w => ar8Eq m 9994 w) (fun w => ar2Eq m.a m.b 9997 w) w
end Go.Proofs.YtahbbojhdkillaaDoor
