/- The walk of TermCompares, whole. -/
import Derived.Test.YtemjhhjalnlmlaaDoorLCmpP
import Derived.Test.YtemjhhjalnlmlaaDoorLCmpZ
import Derived.Test.YtemjhhjalnlmlaaDoorLCmpM
namespace Go.Proofs.YtemjhhjalnlmlaaDoor
open Go.RowKit Go.Maps

theorem compares_good (s : Option Addr) (c : Nat) (ns : List Nd) (hn : ns.length ≤ 40) (x : Int) (hx : i64ok x) (y : Int) (hy : i64ok y) (z : Int) (hz : i64ok z) (w : World) (hs : Shp w) (hB : BuiltAt w (.slice s ns.length c) ns) (hW : WFp (bld 100 ns)) :
    Calls Tryd.prog 4 #[.slice s ns.length c, .int .i64 x, .int .i64 y, .int .i64 z] w fun e w' => e = .returned (.bool true) ∧ Below w.heap.size w w' := by
  have hr := cmp_range hW x y
  have h3 : cmp (bld 100 ns) x y = 1 ∨ cmp (bld 100 ns) x y = 0 ∨ cmp (bld 100 ns) x y = -1 := by omega
  rcases h3 with h | h | h
  · exact compares_p s c ns hn x y z w hs hB h
  · exact compares_z s c ns hn x y z w hs hB h
  · exact compares_m s c ns hn x y z w hs hB h
end Go.Proofs.YtemjhhjalnlmlaaDoor
