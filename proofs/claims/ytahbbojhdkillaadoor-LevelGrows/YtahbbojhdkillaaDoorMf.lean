/- Layer 5: the library's functions at this program; the walk of printLine. -/
import Derived.Test.YtahbbojhdkillaaDoorSh
import Derived.Test.YtahbbojhdkillaaDoorMe
import Derived.Lib.CutLaws
import Derived.OwnWalk
namespace Go.Proofs.YtahbbojhdkillaaDoor
open Go.RowKit Go.Shelf

theorem grown_of_below {w w' : World} {r : Option Nat} (h : Below w.heap.size w w') : w.grownBy w' r := ⟨h.os, h.tape, h.output, h.size, fun k hk _ => h.block k hk⟩
theorem own_slice {w : World} {B : Nat} {t : TypeId} {z n : Nat} {v : Value} {xs : List Value} (h : w.ownsRow B t z v n xs) : ∃ sp c, v = .slice sp n c := by
  rcases h.2 with ⟨rfl, h0⟩ | ⟨g, cap, cur, rfl, _⟩
  · exact ⟨none, 0, by rw [h0]⟩
  · exact ⟨_, _, rfl⟩
theorem row_below {X0 X : World} {B : Nat} {t : TypeId} {z n : Nat} {v : Value} {xs : List Value} (h : X0.ownsRow B t z v n xs) (hB : Below X0.heap.size X0 X) : X.ownsRow B t z v n xs := by
  by_cases e : v.ownBlock = none
  · exact h.kept (grown_of_below (r := none) hB) (.inl e)
  · exact h.kept (grown_of_below (r := none) hB) (.inr e)
theorem belowN {B q : Nat} {a w : World} (h : Below B a w) : Below B a (w.drewN q) := h.trans ⟨rfl, rfl, rfl, Nat.le_refl _, fun _ _ => rfl⟩

theorem Tryd.hi146 : (Tryd.prog.info? (Tryd.lays146_ren.t 9)).map (fun i => (i.zero, i.size, i.bytes)) = some (some (.string ByteArray.empty), 1, 16) := by kernel_rfl
theorem Tryd.extra156 : Builder.Extra Tryd.prog Tryd.lays156_ren where
  sizeBuilder := by kernel_rfl
  liesBuilder := by kernel_rfl
  t5 := Tryd.underlying5
  a5 := Tryd.isAgg5
  z5 := Tryd.sizeOf5
  v5 := Tryd.zeroValue5
  infoByte := by kernel_rfl
  cellsByte := by kernel_rfl
  sizeByte := by kernel_rfl
  neB5 := by decide

theorem cut_any (s sep : ByteArray) (w : World) (hs : s.size ≤ 16777216) (hE : En w) :
    Calls Tryd.prog 48 #[.string s, .string sep] w fun e w' => e = .returned (.tuple #[.string ⟨(Lib.cut s.data.toList sep.data.toList).1.toArray⟩, .string ⟨(Lib.cut s.data.toList sep.data.toList).2.1.toArray⟩, .bool (Lib.cut s.data.toList sep.data.toList).2.2]) ∧ Below w.heap.size w w' := by
  obtain ⟨m, hm⟩ := hE.ln
  refine (Any.strings_Cut Tryd.lays145 s sep m w (by omega) hm).mono ?_
  rintro e w' ⟨rfl, n, rfl⟩
  exact ⟨rfl, belowN (Below.refl _ _)⟩
theorem split_any (s sep : ByteArray) (w : World) (hs : s.size ≤ 16777216) (h1 : 1 ≤ sep.size) (hE : En w) :
    Calls Tryd.prog 74 #[.string s, .string sep] w fun e w' => ∃ P : List ByteArray, P.map (·.data.toList) = Lib.split s.data.toList sep.data.toList ∧ e = .returned (.slice (some ⟨w.heap.size, 0, none⟩) P.length P.length) ∧ w' = w.alloc (.cells (P.map Value.string).toArray 9) := by
  obtain ⟨m, hm⟩ := hE.ln
  refine (Any.strings_Split Tryd.lays146 Tryd.hi146 s sep m w (by omega) hm h1).mono ?_
  rintro e w' ⟨rfl, rfl⟩
  refine ⟨_, ?_, ?_, rfl⟩
  · rw [Lib.splitB_data]; rfl
  · rw [Lib.splitB_all sep h1 0 _ s rfl]
theorem trim_any (s p : ByteArray) (w : World) :
    Calls Tryd.prog 73 #[.string s, .string p] w fun e w' => e = .returned (.string ⟨(Lib.trimPrefix s.data.toList p.data.toList).toArray⟩) ∧ w' = w :=
  Any.strings_TrimPrefix Tryd.lays101 s p w
theorem cutPre_any (s p : ByteArray) (w : World) :
    Calls Tryd.prog 72 #[.string s, .string p] w fun e w' => e = .returned (.tuple #[.string ⟨(Lib.trimPrefix s.data.toList p.data.toList).toArray⟩, .bool (Lib.hasPrefix s.data.toList p.data.toList)]) ∧ w' = w :=
  Any.strings_CutPrefix Tryd.lays103 s p w
theorem join_any (g c : Nat) (xs : List ByteArray) (sep : ByteArray) (w : World) (hc : ∀ (j : Nat) x, xs[j]? = some x → w.cell? ⟨g, 0 + j, none⟩ = some (.string x)) (hg : g < w.heap.size) (hN : xs.length ≤ 65536) (hcap : xs.length ≤ c)
    (hlen : (Lib.join (xs.map (·.data.toList)) sep.data.toList).length ≤ 65536) :
    Calls Tryd.prog 63 #[.slice (some ⟨g, 0, none⟩) xs.length c, .string sep] w fun e w' => e = .returned (.string ⟨(Lib.join (xs.map (·.data.toList)) sep.data.toList).toArray⟩) ∧ Below w.heap.size w w' :=
  Any.strings_Join Tryd.lays156 Tryd.extra156 g 0 c xs sep w hc hg (by omega) hcap (by omega)

theorem Tryd.infoS : (Tryd.prog.info? 9).map (fun i => (i.zero, i.size, i.bytes)) = some (some (.string ByteArray.empty), 1, 16) := by kernel_rfl
def nmB (t : Int) : ByteArray := ⟨(nmT t).toArray⟩
/-- Names of tokens, joined: of a row that was built. -/
theorem join_names (l : List Int) (hl : l.length ≤ 12) (h1 : 1 ≤ l.length) (v : Value) (B : Nat) (w : World) (ho : w.ownsRow B 9 1 v l.length (l.map fun t => Value.string (nmB t))) :
    Calls Tryd.prog 63 #[v, .string ⟨#[44, 32]⟩] w fun e w' => e = .returned (.string ⟨(Lib.join (l.map nmT) [44, 32]).toArray⟩) ∧ Below w.heap.size w w' := by
  obtain ⟨_, ⟨_, h0⟩ | ⟨g, cap, cur, hv, _, hg, hcap, _, _, htk⟩⟩ := ho
  · omega
  subst hv
  have hm : (l.map nmB).map (·.data.toList) = l.map nmT := by
    rw [List.map_map]; rfl
  have := join_any g cap (l.map nmB) ⟨#[44, 32]⟩ w (fun j x hx => by
    have hj : j < l.length := by
      rcases Nat.lt_or_ge j l.length with h | h
      · exact h
      · rw [List.getElem?_eq_none (by simpa using h)] at hx; cases hx
    rw [Nat.zero_add, cell_of_row w g j cur _ _ hg]
    have h2 := congrArg (fun z : List Value => z[j]?) htk
    simp only [Nat.mul_one, List.getElem?_take, hj, if_true, List.getElem?_map] at h2
    rw [List.getElem?_map] at hx
    rw [← Array.getElem?_toList, h2]
    cases hy : l[j]? with
    | none => rw [hy] at hx; cases hx
    | some t => rw [hy] at hx; simp at hx; simp [hx]) (by
      rcases Nat.lt_or_ge g w.heap.size with h | h
      · exact h
      · rw [Array.getElem?_eq_none h] at hg; cases hg) (by simp; omega) (by simpa using hcap) (by
      have := join_len l
      rw [hm]; show (Lib.join (l.map nmT) [44, 32]).length ≤ _; omega)
  rw [hm, List.length_map] at this
  exact this

theorem names_snoc {l : List Int} {k : Nat} (h : k < l.length) {x : Int} (hx : x = l.getD k 0) : (l.take (k + 1)).map (fun t => Value.string (nmB t)) = (l.take k).map (fun t => Value.string (nmB t)) ++ [.string (nmB x)] := by
  rw [List.take_succ_eq_append_getElem h, List.map_append, hx, List.getD_eq_getElem?_getD, List.getElem?_eq_getElem h]; rfl
set_option maxRecDepth 100000 in
set_option maxHeartbeats 4000000 in
theorem printLine_any (f : Int) (hf : f = 0 ∨ f = 1) (l : List Int) (s : Option Addr) (c : Nat) (w : World) (hi : IntsV w s l) (h1 : 1 ≤ l.length) (h12 : l.length ≤ 12) (hE : En w) :
    Calls Tryd.prog 50 #[.int .i64 f, .slice s l.length c] w fun e w' => e = .returned (.string ⟨(lineT f l).toArray⟩) ∧ Below w.heap.size w w' := by
  obtain ⟨i0, hi0, hz0, hz1, hz2⟩ := info_parts Tryd.infoS
  have HI := Lib.hid hi; clear hi
  have HE := Lib.hid hE; clear hE
  go_enter Tryd.func50, Tryd.ntmps50
  go_wp2_with fail
  go_loopg [5, 7, 10] l.length (fun q u5 _ u10 wr => ∃ k : Nat, k + q = l.length ∧ u10 = .int .i64 k ∧ Aside (wr.ownsRow w.heap.size 9 1 u5 k ((l.take k).map fun t => Value.string (nmB t))) ∧ Aside (Below w.heap.size w wr))
  case atStart => exact ⟨0, by omega, rfl, World.ownsRow_nil _ _ _ _, Below.refl _ _⟩
  case round =>
    obtain ⟨k, hkq, rfl, hown, hbr⟩ := hrel
    by_cases hlt : k < l.length
    · obtain ⟨g, o, rfl, hia⟩ := (HI.out.keep hbr.out) (by omega)
      have hx := hia k hlt
      clear hia
      obtain ⟨x, hxx⟩ : ∃ x, x = l.getD k 0 := ⟨_, rfl⟩
      rw [← hxx] at hx
      have HX := Lib.hid hxx; clear hxx
      have hk2 : (k : Int) < l.length := by omega
      obtain ⟨sp, cp, rfl⟩ := own_slice hown.out
      go_wp2_with (first
        | (go_at_call 62; refine (name_any _ _ (HE.out.keep hbr.out)).mono ?_; rintro e w2 ⟨rfl, rfl⟩)
        | (at_builtin; refine wpList_append_own _ rfl _ _ 22 rfl w.heap.size 9 i0 (.string ByteArray.empty) 1 16 Tryd.underlying22 hi0 hz0 hz1 hz2 rfl (by decide) _ _ _ rfl (World.ownsRow.alloc hown.out _) ⟨wr.heap.size, 0, none⟩ 1 1 [.string (nmB x)] rfl rfl ?c1 ?c2 ?c3 ?c4 ?c5 ?_))
      case c1 =>
        intro j u hj
        match j, hj with
        | 0, hj => simp at hj; subst hj; simp [Addr.add, nmB]
      case c2 => intro u hu; simp at hu; subst hu; rfl
      case c3 => unfold maxLen; omega
      case c4 => omega
      case c5 => have := hbr.out.size; simp; omega
      intro v3 w3 hown3 hgr3 _
      have HR : Hid (w3.ownsRow w.heap.size 9 1 v3 (k + 1) ((l.take (k + 1)).map fun t => Value.string (nmB t)) ∧ Below w.heap.size w w3) := Lib.hid (by
        refine ⟨by rw [names_snoc hlt HX.out]; simpa only [List.map_take] using hown3, ?_⟩
        exact (hbr.out.alloc hbr.out.size _).grown hgr3 (by have := hbr.out.size; simp; omega) (fun k e => (hown.out.lt k e).1))
      clear hown3 hgr3
      go_wp2_with fail
      go_roundg (l.length - (k + 1))
      case rel => exact ⟨k + 1, by omega, by go_num, HR.out.1, HR.out.2⟩
      case measure => omega
    · have hk2 : ¬ (k : Int) < l.length := by omega
      have hkl : k = l.length := by omega
      have HO : Hid (wr.ownsRow w.heap.size 9 1 u5 l.length (l.map fun t => Value.string (nmB t))) := Lib.hid (by
        have := hown.out; rw [hkl, List.take_length] at this; exact this)
      obtain ⟨JB, hJB⟩ : ∃ JB : ByteArray, JB = ⟨(Lib.join (l.map nmT) [44, 32]).toArray⟩ := ⟨_, rfl⟩
      obtain ⟨R1, hR1⟩ : ∃ R1 : ByteArray, R1 = ⟨(arrow f ++ Lib.join (l.map nmT) [44, 32]).toArray⟩ := ⟨_, rfl⟩
      obtain ⟨R2, hR2⟩ : ∃ R2 : ByteArray, R2 = ⟨(lineT f l).toArray⟩ := ⟨_, rfl⟩
      have jl := join_len l
      have e1 : ∀ w, (Op.stringOp .add ⟨(arrow f).toArray⟩ JB).run Tryd.prog w = .ok (.string R1) w := fun w => by
        rw [hJB, hR1]; exact run_string_add_lists w _ _ (by unfold arrow; split <;> simp) (by omega)
      have e2 : ∀ w, (Op.stringOp .add R1 ⟨#[10]⟩).run Tryd.prog w = .ok (.string R2) w := fun w => by
        rw [hR1, hR2]; exact run_string_add_lists w _ [10] (by unfold arrow; split <;> simp <;> omega) (by simp)
      have HR2 := Lib.hid hR2
      have HJ := Lib.hid (fun (wx : World) (hb : Below wr.heap.size wr wx) => join_names l h12 h1 u5 w.heap.size wx (row_below HO.out hb))
      rw [← hJB] at HJ
      clear hJB hR1 hR2 jl
      have HB := Lib.hid hbr.out
      have a0 := (HE.out.keep hbr.out).a0
      have a1 := (HE.out.keep hbr.out).a1
      have HA : Hid (∀ wx, Below wr.heap.size wr wx → wx.cell? ⟨2, 0, none⟩ = some (.string ⟨#[45, 62, 32]⟩) ∧ wx.cell? ⟨2, 1, none⟩ = some (.string ⟨#[60, 45, 32]⟩)) := Lib.hid (fun wx hb => ⟨((HE.out.keep HB.out).keep hb).a0, ((HE.out.keep HB.out).keep hb).a1⟩)
      clear hown hbr HO
      rcases hf with rfl | rfl
      all_goals
        simp only [arrow, if_true, if_false, (by decide : ¬ (1 : Int) = 0)] at e1
        go_wp2_with fail
        go_region_held3 (fun w' => w'.cell? ⟨2, 0, none⟩ = some (.string ⟨#[45, 62, 32]⟩) ∧ w'.cell? ⟨2, 1, none⟩ = some (.string ⟨#[60, 45, 32]⟩)) (go_keep)
          ((go_at_call 63; refine (HJ.out _ (Below.refl _ _).drew).mono ?_; rintro e w7 ⟨rfl, hb7⟩; obtain ⟨b0, b1⟩ := HA.out w7 ((Below.refl _ _).drew.trans hb7)))
        go_wp2_with fail
        go_ret
        exact ⟨by rw [HR2.out]; rfl, HB.out.trans (((Below.refl _ _).drew.trans hb7).mono HB.out.size)⟩
end Go.Proofs.YtahbbojhdkillaaDoor
