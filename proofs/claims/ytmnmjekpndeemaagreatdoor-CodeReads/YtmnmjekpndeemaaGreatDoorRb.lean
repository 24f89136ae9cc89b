/- What the walks of layer 2 read of the package variables; a node's parts (parts). -/
import Derived.Test.YtmnmjekpndeemaaGreatDoorRa
import Derived.Test.YtmnmjekpndeemaaGreatDoorQi
import Derived.Test.YtmnmjekpndeemaaGreatDoorQh
import Derived.Lib.AppendIntMem
namespace Go.Proofs.YtmnmjekpndeemaaGreatDoor
open Go.RowKit Go.Maps

/-- The package variables, as the walks read them. -/
structure Env (w : World) : Prop where
  shp : Shp w
  cnt : ∀ i : Nat, i < 10 → w.cell? ⟨0, i, none⟩ = some (.int .i64 (many i))
  pow : Lib.TabIs Tryz.prog w "internal/strconv.uint64pow10" .u64 Lib.pow10Tab
  len : ∃ m, w.cell? ⟨3, 0, none⟩ = some (.int .i64 m)
  syn : ∃ v, w.cell? ⟨4, 0, none⟩ = some v ∧ (v = .nilIface ∨ ∃ te pe, v = .iface te pe)
  rng : ∃ v, w.cell? ⟨5, 0, none⟩ = some v ∧ (v = .nilIface ∨ ∃ te pe, v = .iface te pe)
theorem Env.cpos {w : World} (h : Env w) : 0 < w.heap.size := World.block_lt_of_cell? w ⟨0, 0, none⟩ (h.cnt 0 (by omega))
theorem Env.below {w w' : World} (h : Env w) (hb : Below w.heap.size w w') : Env w' := by
  have hc : ∀ (a : Addr) (v : Value), w.cell? a = some v → w'.cell? a = some v := fun a v hv => by
    rw [World.cell?_of_block (hb.block a.block (World.block_lt_of_cell? w a hv))]; exact hv
  obtain ⟨m, hm⟩ := h.len
  obtain ⟨v, hv, hv'⟩ := h.syn
  obtain ⟨u, hu, hu'⟩ := h.rng
  exact ⟨h.shp.below hb, fun i hi => hc _ _ (h.cnt i hi), Lib.tabBelow_of_tabIs h.pow w' hb, ⟨m, hc _ _ hm⟩, ⟨v, hc _ _ hv, hv'⟩, ⟨u, hc _ _ hu, hu'⟩⟩

/-- Three ints in a row of their own. -/
def tri (w : World) (s : Nat) (a b c : Int) : Prop := w.heap[s]? = some (.cells #[.int .i64 a, .int .i64 b, .int .i64 c] 3 (0, 0))

set_option maxRecDepth 100000 in
set_option maxHeartbeats 1000000 in
theorem parts_any (k : Nat) (hk : k < 10) (n a b c : Int) (w : World) (hE : Env w) :
    Calls Tryz.prog 26 #[.agg #[.int .i64 k, .int .u64 n, .int .i64 a, .int .i64 b, .int .i64 c]] w fun e w' =>
      ∃ s, e = .returned (.slice (some ⟨s, 0, none⟩) (prt ⟨k, n, a, b, c⟩).length 3) ∧ w.heap.size ≤ s ∧ tri w' s a b c ∧ Below w.heap.size w w' := by
  have hc := hE.cnt k hk
  have hp := hE.cpos
  have hm := many_range (k : Int)
  have hl : many (k : Int) = ((prt ⟨k, n, a, b, c⟩).length : Nat) := (prt_length (d := ⟨k, n, a, b, c⟩) (by show 0 ≤ many (k : Int); unfold many; split <;> (try split) <;> (try split) <;> (try split) <;> omega)).symm
  have hl3 := prt_len ⟨k, n, a, b, c⟩
  rw [hl] at hc
  generalize (prt ⟨k, n, a, b, c⟩).length = m at *
  clear hE hm hl
  have h0 : 0 < w.heap.size := by omega
  go_enter Tryz.func26, Tryz.ntmps26
  go_wp2_with fail
  go_region
  go_wp2_with fail
  go_ret
  have hn := heap_alloc_new (w.alloc (.cells #[.int .i64 k, .int .u64 n, .int .i64 a, .int .i64 b, .int .i64 c] 44)) (.cells #[.int .i64 a, .int .i64 b, .int .i64 c] 3)
  rw [World.size_alloc] at hn
  exact ⟨w.heap.size + 1, rfl, by omega, hn, (((Below.refl _ _).alloc (Nat.le_refl _) _).alloc (by simp) _).drew⟩

/-- What lies in a row of three is what a node's parts are. -/
theorem tri_at {w : World} {s : Nat} {k n a b c : Int} (h : tri w s a b c) {i : Nat} (hi : i < (prt ⟨k, n, a, b, c⟩).length) : w.cell? ⟨s, i, none⟩ = some (.int .i64 ((prt ⟨k, n, a, b, c⟩).getD i 0)) := by
  have hl := prt_len ⟨k, n, a, b, c⟩
  have e : w.cell? ⟨s, i, none⟩ = (#[Value.int .i64 a, Value.int .i64 b, Value.int .i64 c])[i]? := cell_of_row w s i _ _ _ h
  rw [e]
  unfold prt at hi ⊢
  simp only [List.length_take, List.length_cons, List.length_nil] at hi
  have h3 : i < 3 := by omega
  have hm : i < (many k).toNat := by omega
  rw [List.getD_eq_getElem?_getD, List.getElem?_take, if_pos hm]
  match i, h3 with
  | 0, _ => rfl
  | 1, _ => rfl
  | 2, _ => rfl

theorem grown_of_below {X0 X : World} (hB : Below X0.heap.size X0 X) : X0.grownBy X none := ⟨hB.os, hB.tape, hB.output, hB.size, fun k hk _ => hB.block k hk⟩
theorem row_below {X0 X : World} {B : Nat} {t : TypeId} {z n : Nat} {v : Value} {xs : List Value} (h : X0.ownsRow B t z v n xs) (hB : Below X0.heap.size X0 X) : X.ownsRow B t z v n xs := by
  by_cases e : v.ownBlock = none
  · exact h.kept (grown_of_below hB) (.inl e)
  · exact h.kept (grown_of_below hB) (.inr e)

/-! ### A map of ints. -/
theorem lawZ : Keyed Tryz.prog 3 := int_keyed Tryz.underlying3
theorem keyZ {x : Int} (h : i64ok x) : keyOf Tryz.prog 3 (.int .i64 x) = some (.int .i64 x) := by
  have := wf_i64 h
  simp [keyOf, mapKey, Tryz.underlying3, this]
/-- The map's datum is a function. -/
def RegZ (D : DataW Unit) (f : Int → Option Int) : Prop :=
  IsMap D ∧ ∀ x : Int, i64ok x → Maps.has D (.int .i64 x) = (f x).isSome ∧ D.atKey (.int .i64 x) (.lit (.int .i64 0)) = .lit (.int .i64 ((f x).getD 0))
theorem RegZ.empty : RegZ (.map []) (fun _ => none) := ⟨isMap_empty, fun _ _ => ⟨rfl, rfl⟩⟩
theorem RegZ.put {D : DataW Unit} {f : Int → Option Int} (h : RegZ D f) {y v : Int} (hy : i64ok y) : RegZ (D.put (.int .i64 y) (.lit (.int .i64 v))) (fun x => if x = y then some v else f x) := by
  refine ⟨h.1.put _ _, fun x hx => ?_⟩
  by_cases hxy : x = y
  · subst hxy
    simp only [if_true]
    exact ⟨has_put_same h.1 (lawZ.key (keyZ hx)) _, atKey_put_same h.1 (lawZ.key (keyZ hx)) _ _⟩
  · have hne : (Lit.int .i64 x) ≠ Lit.int .i64 y := fun e => hxy (by injection e)
    simp only [if_neg hxy]
    rw [has_put_other hne, atKey_put_other hne]
    exact h.2 x hx
theorem RegZ.congr {D : DataW Unit} {f g : Int → Option Int} (h : RegZ D f) (e : ∀ x, f x = g x) : RegZ D g := by
  obtain rfl : f = g := funext e
  exact h

/-- A map of ints in memory. -/
def MapZ (w : World) (m n : Nat) (f : Int → Option Int) : Prop := ∃ D : DataW Unit, w.ownsMap Tryz.prog 3 (plainElem Tryz.prog 3) m n D ∧ RegZ D f
theorem MapZ.lt {w : World} {m n : Nat} {f : Int → Option Int} (h : MapZ w m n f) : m < w.heap.size := by obtain ⟨D, hD, _⟩ := h; exact hD.lt
theorem MapZ.obj {w : World} {m n : Nat} {f : Int → Option Int} (h : MapZ w m n f) : ∃ es c, w.heap[m]? = some (.map es c) := by obtain ⟨D, ⟨es, c, hb, _⟩, _⟩ := h; exact ⟨es, c, hb⟩
theorem MapZ.keep {w w' : World} {m n : Nat} {f : Int → Option Int} (h : MapZ w m n f) (hk : w'.heap[m]? = w.heap[m]?) : MapZ w' m n f := by
  obtain ⟨D, ⟨es, c, hb, rest⟩, hr⟩ := h
  exact ⟨D, ⟨es, c, hk.trans hb, rest⟩, hr⟩
theorem MapZ.look {w : World} {m n : Nat} {f : Int → Option Int} (h : MapZ w m n f) {x : Int} (hx : i64ok x) :
    (Instr.lookup 63 (.map (some m)) (.int .i64 x) true).run Tryz.prog w = .ok (.tuple #[.int .i64 ((f x).getD 0), .bool (f x).isSome]) w := by
  obtain ⟨D, hD, hR⟩ := h
  obtain ⟨v, ps, hrun, hv⟩ := hD.look_ok lawZ Tryz.underlying63 (zero3 w) (plainElem_int (a := 0) Tryz.underlying3 (by decide)) (keyZ hx)
  obtain ⟨h1, h2⟩ := hR.2 x hx
  rw [h2] at hv
  obtain ⟨y, rfl, hy, _⟩ := plainElem_int_inv Tryz.underlying3 hv
  rw [h1] at hrun
  have : y = (f x).getD 0 := by
    have := congrArg Prod.fst hy
    simp at this
    exact this.symm
  rw [this] at hrun
  exact hrun
theorem MapZ.look1 {w : World} {m n : Nat} {f : Int → Option Int} (h : MapZ w m n f) {x : Int} (hx : i64ok x) :
    (Instr.lookup 63 (.map (some m)) (.int .i64 x) false).run Tryz.prog w = .ok (.int .i64 ((f x).getD 0)) w := by
  obtain ⟨D, hD, hR⟩ := h
  obtain ⟨c, hrun, hat, _⟩ := hD.lookup_int lawZ Tryz.underlying63 Tryz.underlying3 (zero3 w) (keyZ hx)
  rw [(hR.2 x hx).2] at hat
  simp only [DataW.lit.injEq, Lit.int.injEq, true_and] at hat
  rw [hat]; exact hrun
theorem MapZ.store {w : World} {m n : Nat} {f : Int → Option Int} (h : MapZ w m n f) (hn : n < maxLen) {x v : Int} (hx : i64ok x) (hv : i64ok v) :
    ∃ w', (Instr.mapUpdate 63 (.map (some m)) (.int .i64 x) (.int .i64 v)).run Tryz.prog w = .ok () w' ∧ MapZ w' m (n + 1) (fun y => if y = x then some v else f y) ∧ w.mapTurned w' m := by
  obtain ⟨D, hD, hR⟩ := h
  obtain ⟨w', h1, h2, h3⟩ := hD.store lawZ Tryz.underlying63 hn (keyZ hx) (plainElem_int (a := v) Tryz.underlying3 (wf_i64 hv))
  exact ⟨w', h1, ⟨_, h2, hR.put hx⟩, h3⟩
theorem MapZ.made (w : World) : MapZ (w.alloc (.map #[] 0)) w.heap.size 0 (fun _ => none) := ⟨_, World.ownsMap_made w Tryz.prog 3 (plainElem Tryz.prog 3), RegZ.empty⟩
end Go.Proofs.YtmnmjekpndeemaaGreatDoor
