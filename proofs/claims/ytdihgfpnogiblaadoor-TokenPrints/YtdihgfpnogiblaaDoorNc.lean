/- Layer 5: the walks of the reference's name, line, Print. -/
import Derived.Test.YtdihgfpnogiblaaDoorMk
namespace Go.Proofs.YtdihgfpnogiblaaDoor
open Go.RowKit Go.Shelf

set_option maxRecDepth 100000 in
set_option maxHeartbeats 1000000 in
theorem rname_any (t : Int) (w : World) : Calls Tryd.prog 21 #[.int .i64 t] w fun e w' => e = .returned (.string ⟨(nmT t).toArray⟩) ∧ w = w' := by
  cases ht : isTok t with
  | false =>
    have h1 : (t == 1) = false := by simp [isTok] at ht; simp; omega
    have h2 : (t == 2) = false := by simp [isTok] at ht; simp; omega
    have h3 : (t == 3) = false := by simp [isTok] at ht; simp; omega
    have h4 : (t == 4) = false := by simp [isTok] at ht; simp; omega
    have h5 : (t == 5) = false := by simp [isTok] at ht; simp; omega
    have h6 : (t == 6) = false := by simp [isTok] at ht; simp; omega
    have h7 : (t == 7) = false := by simp [isTok] at ht; simp; omega
    have HT := Lib.hid ht; clear ht
    go_enter Tryd.func21, Tryd.ntmps21
    go_wp2
    go_ret
    exact ⟨by unfold nmT; rw [HT.out]; rfl, rfl⟩
  | true =>
    rcases tok_cases ht with rfl | rfl | rfl | rfl | rfl | rfl | rfl
    all_goals
      clear ht
      go_enter Tryd.func21, Tryd.ntmps21
      go_wp2
      go_ret
      exact ⟨rfl, rfl⟩

def arrow2 (f : Int) : List UInt8 := if f = 1 then [60, 45] else [45, 62]
def rlK (f : Int) (l : List Int) : List UInt8 := if l = [] then arrow2 f else arrow2 f ++ [32] ++ Lib.join (l.map nmT) [44, 32]
theorem join_snoc (sep : List UInt8) (x : List UInt8) : ∀ (xs : List (List UInt8)), xs ≠ [] → Lib.join (xs ++ [x]) sep = Lib.join xs sep ++ sep ++ x
  | [], h => absurd rfl h
  | [y], _ => by rw [List.singleton_append, join_two, Lib.join_one, Lib.join_one]
  | y :: z :: r, _ => by
    have := join_snoc sep x (z :: r) (by simp)
    rw [List.cons_append, List.cons_append, join_two, join_two, ← List.cons_append, this]
    simp
theorem take_snoc {l : List Int} {k : Nat} (h : k < l.length) : l.take (k + 1) = l.take k ++ [l.getD k 0] := by
  rw [List.take_succ_eq_append_getElem h, List.getD_eq_getElem?_getD, List.getElem?_eq_getElem h]; rfl
theorem rlK_zero (f : Int) (x : Int) : rlK f [x] = arrow2 f ++ [32] ++ nmT x := by
  unfold rlK; rw [if_neg (by simp), List.map_cons, List.map_nil, Lib.join_one]
theorem rlK_step {f : Int} {l : List Int} (x : Int) (h : l ≠ []) : rlK f (l ++ [x]) = rlK f l ++ [44] ++ [32] ++ nmT x := by
  unfold rlK
  rw [if_neg (by simp), if_neg h, List.map_append, List.map_cons, List.map_nil, join_snoc _ _ _ (by simpa using h)]
  simp
theorem rlK_line {f : Int} (hf : f = 0 ∨ f = 1) {l : List Int} (h : l ≠ []) : rlK f l ++ [10] = lineT f l := by
  unfold rlK lineT lineB
  rw [if_neg h]
  rcases hf with rfl | rfl <;> simp [arrow2, arrow]
theorem rlK_len (f : Int) (l : List Int) : (rlK f l).length ≤ 3 + 5 * l.length := by
  have := join_len l
  have ha : (arrow2 f).length = 2 := by unfold arrow2; split <;> rfl
  unfold rlK
  split
  · omega
  · simp only [List.length_append, ha, List.length_cons, List.length_nil]; omega

set_option maxRecDepth 100000 in
set_option maxHeartbeats 4000000 in
theorem rline_any (f : Int) (hf : f = 0 ∨ f = 1) (l : List Int) (s : Option Addr) (c : Nat) (w : World) (hi : IntsV w s l) (h1 : 1 ≤ l.length) (h12 : l.length ≤ 12) :
    Calls Tryd.prog 26 #[.int .i64 f, .slice s l.length c] w fun e w' => e = .returned (.string ⟨(lineT f l).toArray⟩) ∧ w = w' := by
  have HF := Lib.hid hf
  have HI := Lib.hid hi; clear hi
  have hst : ((f == 1) = true ∧ (⟨#[60, 45]⟩ : ByteArray) = ⟨(rlK f (l.take 0)).toArray⟩) ∨ ((f == 1) = false ∧ (⟨#[45, 62]⟩ : ByteArray) = ⟨(rlK f (l.take 0)).toArray⟩) := by
    rcases hf with rfl | rfl
    · exact .inr ⟨rfl, rfl⟩
    · exact .inl ⟨rfl, rfl⟩
  clear hf
  rcases hst with ⟨hb, hst⟩ | ⟨hb, hst⟩
  all_goals
    have HST := Lib.hid hst
    clear hst
    go_enter Tryd.func26, Tryd.ntmps26
    go_wp2_with fail
    go_loopg [5, 6] l.length (fun q u5 u6 wr => ∃ (k : Nat) (X : ByteArray), k + q = l.length ∧ u6 = .int .i64 k ∧ u5 = .string X ∧ Aside (X = ⟨(rlK f (l.take k)).toArray⟩) ∧ wr = w)
    case atStart => exact ⟨0, _, by omega, rfl, rfl, HST.out, rfl⟩
    case round =>
      obtain ⟨k, X, hkq, rfl, rfl, hX, rfl⟩ := hrel
      have HX := Lib.hid hX.out
      clear hX
      have hl := rlK_len f (l.take k)
      have htl : (l.take k).length ≤ 12 := by rw [List.length_take]; omega
      by_cases hlt : k < l.length
      · obtain ⟨g, o, hs, hia⟩ := HI.out (by omega)
        subst hs
        have hx := hia k hlt
        clear hia
        obtain ⟨x, hxx⟩ : ∃ x, x = l.getD k 0 := ⟨_, rfl⟩
        rw [← hxx] at hx
        have hk2 : (k : Int) < l.length := by omega
        obtain ⟨N, hN⟩ : ∃ N : ByteArray, N = ⟨(nmT x).toArray⟩ := ⟨_, rfl⟩
        have HNM := Lib.hid (rname_any x wr)
        rw [← hN] at HNM
        have hnl := nmT_len x
        obtain ⟨X3, hX3⟩ : ∃ X3 : ByteArray, X3 = ⟨(rlK f (l.take (k + 1))).toArray⟩ := ⟨_, rfl⟩
        have HX3 := Lib.hid hX3
        rw [take_snoc hlt, ← hxx] at hX3
        by_cases hk0 : k = 0
        · subst hk0
          rw [Nat.add_zero] at hx
          have e0 : rlK f (l.take 0) = arrow2 f := by simp [rlK]
          have hX0 := HX.out
          rw [e0] at hX0
          rw [List.take_zero, List.nil_append, rlK_zero] at hX3
          have ha : (arrow2 f).length = 2 := by unfold arrow2; split <;> rfl
          obtain ⟨X2, hX2⟩ : ∃ X2 : ByteArray, X2 = ⟨(arrow2 f ++ [32]).toArray⟩ := ⟨_, rfl⟩
          have e2 := add_any hX0 (b := [32]) (B := ⟨#[32]⟩) rfl hX2 (by omega) (by simp)
          have e3 := add_any hX2 hN hX3 (by simp only [List.length_append, ha, List.length_cons, List.length_nil]; omega) (by omega)
          clear hX0 hX2 hX3 hN e0 ha hnl htl hl hxx
          go_wp2_with (go_at_call 21; refine HNM.out.mono ?_; rintro e w2 ⟨rfl, rfl⟩)
          go_roundg (l.length - 1)
          case measure => omega
          case rel => exact ⟨1, X3, by omega, rfl, rfl, HX3.out, rfl⟩
        · have hk3 : (0 : Int) < k := by omega
          have hne : l.take k ≠ [] := fun e => by have := congrArg List.length e; rw [List.length_take, List.length_nil] at this; omega
          rw [rlK_step x hne] at hX3
          obtain ⟨X1, hX1⟩ : ∃ X1 : ByteArray, X1 = ⟨(rlK f (l.take k) ++ [44]).toArray⟩ := ⟨_, rfl⟩
          obtain ⟨X2, hX2⟩ : ∃ X2 : ByteArray, X2 = ⟨(rlK f (l.take k) ++ [44] ++ [32]).toArray⟩ := ⟨_, rfl⟩
          have e1 := add_any HX.out (b := [44]) (B := ⟨#[44]⟩) rfl hX1 (by omega) (by simp)
          have e2 := add_any hX1 (b := [32]) (B := ⟨#[32]⟩) rfl hX2 (by simp only [List.length_append, List.length_cons, List.length_nil]; omega) (by simp)
          have e3 := add_any hX2 hN hX3 (by simp only [List.length_append, List.length_cons, List.length_nil]; omega) (by omega)
          clear hX1 hX2 hX3 hN hnl htl hl hxx hne
          go_wp2_with (go_at_call 21; refine HNM.out.mono ?_; rintro e w2 ⟨rfl, rfl⟩)
          go_roundg (l.length - (k + 1))
          case measure => omega
          case rel => exact ⟨k + 1, X3, by omega, by go_num, rfl, HX3.out, rfl⟩
      · have hk2 : ¬ (k : Int) < l.length := by omega
        have hkl : l.take k = l := List.take_of_length_le (by omega)
        have hX := HX.out
        rw [hkl] at hX hl
        obtain ⟨R, hR⟩ : ∃ R : ByteArray, R = ⟨(lineT f l).toArray⟩ := ⟨_, rfl⟩
        have HRR := Lib.hid hR
        have e1 := add_any hX (b := [10]) (B := ⟨#[10]⟩) rfl (C := R) (by rw [hR, rlK_line HF.out (fun e => by rw [e] at h1; simp at h1)]) (by omega) (by simp)
        clear hX hR hkl hl htl
        go_wp2_with fail
        go_ret
        exact ⟨by rw [← HRR.out]; rfl, rfl⟩

/-- The text as the reference puts it together. -/
def rpK (p : Pt) : Nat → List UInt8
  | 0 => p.nm ++ [58, 10]
  | 1 => p.nm ++ [58, 10] ++ preL 0 p.p0
  | _ => p.nm ++ [58, 10] ++ preL 0 p.p0 ++ preL 1 p.p1
set_option maxRecDepth 100000 in
set_option maxHeartbeats 8000000 in
theorem rprint_any (x : Sl) (p : Pt) (w : World) (hp : PatA w x p) (hr : right p = true) : Calls Tryd.prog 16 #[patV x p] w fun e w' => e = .returned (.string ⟨(prn p).toArray⟩) ∧ Below w.heap.size w w' := by
  have HT := Lib.hid hr
  have HO : Hid ((1 ≤ p.ms.length ∧ p.ms.length ≤ 6) ∧ (∀ i, i < p.ms.length → msOk (p.ms.getD i default) = true) ∧ p.p0.length ≤ 2 ∧ p.p1.length ≤ 2 ∧ p.nm.length ≤ 20) := Lib.hid (by
    simp only [right, Bool.and_eq_true, decide_eq_true_eq] at hr
    refine ⟨⟨hr.1.1.1.1.2, hr.1.1.1.2⟩, fun i hi => ?_, preOk_len hr.1.1.2, preOk_len hr.1.2, ?_⟩
    · rw [List.getD_eq_getElem?_getD, List.getElem?_eq_getElem hi]
      exact List.all_eq_true.1 hr.2 _ (List.getElem_mem hi)
    · have := hr.1.1.1.1.1
      simp only [nameOk, Bool.and_eq_true, decide_eq_true_eq] at this
      exact this.1.2)
  clear hr
  have HW : Hid (Below w.heap.size w (w.alloc (.cells #[.string ⟨p.nm.toArray⟩, .slice x.s0 p.p0.length x.c0, .slice x.s1 p.p1.length x.c1, .slice x.s2 p.ms.length x.c2] 35))) := Lib.hid ((Below.refl _ _).alloc (Nat.le_refl _) _)
  obtain ⟨s0, c0, s1, c1, s2, c2⟩ := x
  have HI0 := Lib.hid hp.i0
  have HI1 := Lib.hid hp.i1
  have HIM := Lib.hid hp.im
  clear hp
  unfold patV
  simp only at HI0 HI1 HIM HW ⊢
  obtain ⟨NB, hNB⟩ : ∃ NB : ByteArray, NB = ⟨p.nm.toArray⟩ := ⟨_, rfl⟩
  obtain ⟨n0, hn0⟩ : ∃ n, n = p.p0.length := ⟨_, rfl⟩
  obtain ⟨n1, hn1⟩ : ∃ n, n = p.p1.length := ⟨_, rfl⟩
  obtain ⟨n, hn⟩ : ∃ n, n = p.ms.length := ⟨_, rfl⟩
  rw [← hNB, ← hn0, ← hn1, ← hn] at HW ⊢
  have HN0 := Lib.hid hn0
  have HN1 := Lib.hid hn1
  have HN := Lib.hid hn
  obtain ⟨A0, hA0⟩ : ∃ A : ByteArray, A = ⟨(rpK p 0).toArray⟩ := ⟨_, rfl⟩
  have HA0 := Lib.hid hA0
  have ea := add_any hNB (b := [58, 10]) (B := ⟨#[58, 10]⟩) rfl (C := A0) hA0 (by have := HO.out.2.2.2.2; omega) (by simp)
  clear hNB hn0 hn1 hn hA0
  go_enter Tryd.func16, Tryd.ntmps16
  go_wp2_with fail
  have hk := box4 (w := w) (Below.refl _ (w.alloc (.cells #[.string NB, .slice s0 n0 c0, .slice s1 n1 c1, .slice s2 n c2] 35)))
  generalize w.alloc (.cells #[.string NB, .slice s0 n0 c0, .slice s1 n1 c1, .slice s2 n c2] 35) = W1 at *
  obtain ⟨k0, k1, k2, k3, -⟩ := hk
  clear ea
  go_loopg [3, 4] 2 (fun q u3 u4 wr => ∃ (k : Nat) (X : ByteArray), k + q = 2 ∧ u4 = .int .i64 k ∧ u3 = .string X ∧ Aside (X = ⟨(rpK p k).toArray⟩) ∧ wr = W1)
  case atStart => exact ⟨0, _, by omega, rfl, rfl, HA0.out, rfl⟩
  case round =>
    obtain ⟨k, X, hkq, rfl, rfl, hX, rfl⟩ := hrel
    have HX := Lib.hid hX.out
    clear hX
    have pl0 := preL_len 0 p.p0
    have pl1 := preL_len 1 p.p1
    have m0 := HO.out.2.2.1
    have m1 := HO.out.2.2.2.1
    have mn := HO.out.2.2.2.2
    match k, hkq, HX with
    | 0, hkq, HX =>
      by_cases hz : n0 = 0
      · subst hz
        clear pl0 pl1 m0 m1 mn
        go_wp2_with fail
        go_roundg 1
        case measure => omega
        case rel => exact ⟨1, X, by omega, rfl, rfl, (show X = ⟨(rpK p 1).toArray⟩ from by rw [HX.out]; simp [rpK, preL, List.length_eq_zero_iff.1 HN0.out.symm]), rfl⟩
      · have hz' : (0 : Int) < n0 := by omega
        obtain ⟨LB, hLB⟩ : ∃ LB : ByteArray, LB = ⟨(lineT 0 p.p0).toArray⟩ := ⟨_, rfl⟩
        obtain ⟨CB, hCB⟩ : ∃ CB : ByteArray, CB = ⟨(rpK p 1).toArray⟩ := ⟨_, rfl⟩
        have HCB := Lib.hid hCB
        have HPL := Lib.hid (rline_any 0 (.inl rfl) p.p0 s0 c0 wr (HI0.out.keep HW.out) (by have := HN0.out; omega) (by omega))
        rw [← hLB, ← HN0.out] at HPL
        have hpl : preL 0 p.p0 = lineT 0 p.p0 := by unfold preL; rw [if_neg (fun e => by have := HN0.out; rw [e] at this; simp at this; omega)]
        have ea := add_any HX.out hLB (C := CB) (by rw [hCB, ← hpl]; rfl) (by simp only [rpK, List.length_append, List.length_cons, List.length_nil]; omega) (by rw [← hpl]; omega)
        clear hLB hCB hpl pl0 pl1 m0 m1 mn
        go_wp2_with (go_at_call 26; refine HPL.out.mono ?_; rintro e w3 ⟨rfl, rfl⟩)
        go_roundg 1
        case measure => omega
        case rel => exact ⟨1, CB, by omega, rfl, rfl, HCB.out, rfl⟩
    | 1, hkq, HX =>
      by_cases hz : n1 = 0
      · subst hz
        clear pl0 pl1 m0 m1 mn
        go_wp2_with fail
        go_roundg 0
        case measure => omega
        case rel => exact ⟨2, X, by omega, rfl, rfl, (show X = ⟨(rpK p 2).toArray⟩ from by rw [HX.out]; simp [rpK, preL, List.length_eq_zero_iff.1 HN1.out.symm]), rfl⟩
      · have hz' : (0 : Int) < n1 := by omega
        obtain ⟨LB, hLB⟩ : ∃ LB : ByteArray, LB = ⟨(lineT 1 p.p1).toArray⟩ := ⟨_, rfl⟩
        obtain ⟨CB, hCB⟩ : ∃ CB : ByteArray, CB = ⟨(rpK p 2).toArray⟩ := ⟨_, rfl⟩
        have HCB := Lib.hid hCB
        have HPL := Lib.hid (rline_any 1 (.inr rfl) p.p1 s1 c1 wr (HI1.out.keep HW.out) (by have := HN1.out; omega) (by omega))
        rw [← hLB, ← HN1.out] at HPL
        have hpl : preL 1 p.p1 = lineT 1 p.p1 := by unfold preL; rw [if_neg (fun e => by have := HN1.out; rw [e] at this; simp at this; omega)]
        have ea := add_any HX.out hLB (C := CB) (by rw [hCB, ← hpl]; rfl) (by simp only [rpK, List.length_append, List.length_cons, List.length_nil]; omega) (by rw [← hpl]; omega)
        clear hLB hCB hpl pl0 pl1 m0 m1 mn
        go_wp2_with (go_at_call 26; refine HPL.out.mono ?_; rintro e w3 ⟨rfl, rfl⟩)
        go_roundg 0
        case measure => omega
        case rel => exact ⟨2, CB, by omega, rfl, rfl, HCB.out, rfl⟩
    | k + 2, hkq, HX =>
      obtain rfl : k = 0 := by omega
      obtain ⟨XE, hXE⟩ : ∃ XE : ByteArray, XE = ⟨(p.nm ++ [58, 10] ++ preE (preT p)).toArray⟩ := ⟨_, rfl⟩
      have HXE := Lib.hid hXE
      have hx : X = ⟨(p.nm ++ [58, 10] ++ preT p).toArray⟩ := by rw [HX.out]; simp [rpK, preT]
      have hpt : preT p = [] ↔ n0 + n1 = 0 := by
        have a0 := HN0.out
        have a1 := HN1.out
        unfold preT preL lineT
        constructor
        · intro h
          by_cases e0 : p.p0 = [] <;> by_cases e1 : p.p1 = [] <;> simp [e0, e1] at h
          rw [e0] at a0; rw [e1] at a1; simp at a0 a1; omega
        · intro h
          have e0 : p.p0 = [] := List.length_eq_zero_iff.1 (by omega)
          have e1 : p.p1 = [] := List.length_eq_zero_iff.1 (by omega)
          simp [e0, e1]
      have hcase : (n0 = 0 ∧ n1 = 0 ∧ X = XE) ∨ ((0 : Int) < (n0 : Int) + n1 ∧ ∀ w, (Op.stringOp .add X ⟨#[46, 46, 46, 10]⟩).run Tryd.prog w = .ok (.string XE) w) := by
        by_cases he : preT p = []
        · have := hpt.1 he
          refine .inl ⟨by omega, by omega, ?_⟩
          rw [hx, hXE, he]; rfl
        · have hne : n0 + n1 ≠ 0 := fun e => he (hpt.2 e)
          refine .inr ⟨by omega, add_any (b := [46, 46, 46, 10]) hx rfl (by rw [hXE]; unfold preE; rw [if_neg he]; simp) (by simp only [preT, List.length_append, List.length_cons, List.length_nil]; omega) (by simp)⟩
      have g0 : (n0 : Int) ≤ 2 := by have := HN0.out; omega
      have g1 : (n1 : Int) ≤ 2 := by have := HN1.out; omega
      clear hXE HX hx hpt pl0 pl1 m0 m1 mn
      have HKK : Hid (∀ wx, Below wr.heap.size wr wx → wx.cell? ⟨w.heap.size, 3, none⟩ = some (.slice s2 n c2)) := Lib.hid (fun wx hb => (hb.cell (p := ⟨w.heap.size, 3, none⟩) (World.block_lt_of_cell? _ _ k3)).trans k3)
      rcases hcase with ⟨rfl, rfl, rfl⟩ | ⟨hne, ea⟩
      all_goals
        go_wp2_with fail
        clear k0 k1 k2
        have HST : Hid (Below w.heap.size w wr ∧ wr.cell? ⟨w.heap.size, 3, none⟩ = some (.slice s2 n c2)) := Lib.hid ⟨HW.out, k3⟩
        clear k3 HKK HW
        go_loopg [3, 5] n (fun q u3 u5 wr => ∃ (i : Nat) (M : ByteArray), i + q = n ∧ u5 = .int .i64 i ∧ u3 = .string M ∧ Aside (M = ⟨(p.nm ++ [58, 10] ++ preE (preT p) ++ msT (p.ms.take i)).toArray⟩) ∧ Aside (Below w.heap.size w wr ∧ wr.cell? ⟨w.heap.size, 3, none⟩ = some (.slice s2 n c2)))
        case atStart => exact ⟨0, _, by omega, rfl, rfl, (show Aside _ from HXE.out.trans (by simp [msT])), HST.out⟩
        case round =>
          obtain ⟨i, M, hiq, rfl, rfl, hM, hw2⟩ := hrel
          have HM := Lib.hid hM.out
          have HW2 := Lib.hid hw2.out.1
          have k3 := hw2.out.2
          clear hM hw2
          have pl := prn_len HT.out
          have ml := ms_len HT.out i
          unfold prn at pl
          simp only [List.length_append, List.length_cons, List.length_nil] at pl
          by_cases hlt : i < n
          · obtain ⟨g, o, hs2, hia⟩ := (HIM.out.keep HW2.out) (by have := HN.out; omega)
            subst hs2
            obtain ⟨q0, sx, cx, q1, qi⟩ := hia i (by have := HN.out; omega)
            clear hia
            have hok := HO.out.2.1 i (by have := HN.out; omega)
            obtain ⟨f, hf⟩ : ∃ f, f = (p.ms.getD i default).fr := ⟨_, rfl⟩
            obtain ⟨t, ht⟩ : ∃ t, t = (p.ms.getD i default).t := ⟨_, rfl⟩
            rw [← hf] at q0
            rw [← ht] at q1 qi
            have HX : Hid (p.ms.getD i default = ⟨f, t⟩) := Lib.hid (by rw [hf, ht])
            rw [HX.out] at hok
            clear hf ht
            simp only [msOk, Bool.and_eq_true, Bool.or_eq_true, decide_eq_true_eq] at hok
            obtain ⟨⟨⟨hf, h1⟩, h12⟩, _⟩ := hok
            obtain ⟨LB, hLB⟩ : ∃ LB : ByteArray, LB = ⟨(lineT f t).toArray⟩ := ⟨_, rfl⟩
            obtain ⟨CB, hCB⟩ : ∃ CB : ByteArray, CB = ⟨(p.nm ++ [58, 10] ++ preE (preT p) ++ msT (p.ms.take (i + 1))).toArray⟩ := ⟨_, rfl⟩
            have HCB := Lib.hid hCB
            have HPL := Lib.hid (fun wx (hb : Below wr.heap.size wr wx) => rline_any f hf t sx cx wx (qi.keep hb) h1 h12)
            rw [← hLB] at HPL
            have eb := add_any HM.out hLB (C := CB) (by rw [hCB, ms_snoc (by have := HN.out; omega) HX.out]; simp) (by simp only [List.length_append, List.length_cons, List.length_nil]; omega) (by have := lineT_len f t; omega)
            clear hLB hCB qi hf h1 h12 pl ml
            have hi2 : (i : Int) < n := by omega
            have hi3 : (0 : Int) ≤ i := by omega
            have hn6 : (n : Int) ≤ 6 := by have := HO.out.1.2; have := HN.out; omega
            go_wp2_with fail
            go_region_held3 (fun w' => w'.cell? ⟨w.heap.size, 3, none⟩ = some (.slice (some ⟨g, o, none⟩) n c2) ∧ w'.cell? ⟨g, o + i * 2, none⟩ = some (.int .i64 f) ∧ w'.cell? ⟨g, o + i * 2 + 1, none⟩ = some (.slice sx t.length cx)) (go_keep)
              ((go_at_call 26; refine (HPL.out _ (Below.refl _ _).drew).mono ?_; rintro e w5 ⟨rfl, rfl⟩))
            all_goals
              go_wp2_with fail
              go_roundg (n - (i + 1))
              case measure => omega
              case rel => exact ⟨i + 1, CB, by omega, by go_num, rfl, HCB.out, (show _ ∧ _ from ⟨HW2.out.drew, k3⟩)⟩
          · have hi2 : ¬ (i : Int) < n := by omega
            have hin : p.ms.take i = p.ms := by rw [List.take_of_length_le]; have := HN.out; omega
            have hMM := HM.out
            rw [hin] at hMM
            have HMM := Lib.hid hMM
            clear hMM hin pl ml
            go_wp2_with fail
            go_ret
            exact ⟨by rw [show prn p = p.nm ++ [58, 10] ++ preE (preT p) ++ msT p.ms from rfl, ← HMM.out]; rfl, HW2.out⟩
end Go.Proofs.YtdihgfpnogiblaaDoor
