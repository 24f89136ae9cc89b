/- Layer 3: walks of the reference: Can. -/
import Derived.Test.YtemigefkkjgehaaDoorZb0
namespace Go.Proofs.YtemigefkkjgehaaDoor
open Go.RowKit Go.Maps

theorem kindNat {k : Int} (h : 0 ≤ many k) : ∃ m : Nat, k = m ∧ m < 10 := by
  refine ⟨k.toNat, ?_⟩
  unfold many at h
  split at h
  · omega
  · split at h
    · omega
    · split at h
      · omega
      · split at h <;> omega
/-- The loop of Can, under way. -/
structure Cl (L : List Nd) (k : List Bool) (gr capr lim gn go pb : Nat) (w wr : World) (i : Nat) : Prop where
  br : BR wr go (rfull L k i)
  bk : boolsAt wr gn k
  row : rowAt wr gr L
  bel : Below w.heap.size w wr
  box : wr.heap[pb]? = some (.cells #[.int .i64 lim, .slice (some ⟨gr, 0, none⟩) L.length capr] 29 (0, 0))
  hg : gr < w.heap.size
  hk : gn < w.heap.size
  ho : w.heap.size ≤ go
  hp : w.heap.size ≤ pb
  ne : go ≠ pb
theorem Cl.step {L : List Nd} {k : List Bool} {gr capr lim gn go pb : Nat} {w wr w' : World} {i : Nat} (h : Cl L k gr capr lim gn go pb w wr i) (hi : i < L.length) (hb : Below wr.heap.size wr w') {b : Bool} (hv : b = rstep L k (rfull L k i) i) : Cl L k gr capr lim gn go pb w (w'.setCell ⟨go, i, none⟩ (.bool b)) (i + 1) := by
  have hs := h.bel.size
  have oth : ∀ {j : Nat}, j ≠ go → (w'.setCell ⟨go, i, none⟩ (.bool b)).heap[j]? = w'.heap[j]? := fun hj => heap_setCell_other _ _ _ _ (by simpa using hj)
  have h1 := h.hg
  have h2 := h.hk
  have h3 := h.ho
  refine ⟨?_, (h.bk.keep (hb.block _ (by omega))).keep (oth (by omega)), (h.row.keep (hb.block gr (by omega))).keep (oth (by omega)), (h.bel.trans (hb.mono hs)).setCell (by simpa using h.ho) _, ?_, h.hg, h.hk, h.ho, h.hp, h.ne⟩
  · rw [← rfull_succ hi, ← hv]; exact (h.br.keep (hb.block _ h.br.lt)).set b
  · rw [oth (Ne.symm h.ne), hb.block _ (lt_of_heap h.box)]; exact h.box
theorem Cl.keep {L : List Nd} {k : List Bool} {gr capr lim gn go pb : Nat} {w wr w' : World} {i : Nat} (h : Cl L k gr capr lim gn go pb w wr i) (hb : Below wr.heap.size wr w') : Cl L k gr capr lim gn go pb w w' i :=
  ⟨h.br.keep (hb.block _ h.br.lt), h.bk.keep (hb.block _ (Nat.lt_of_lt_of_le h.hk h.bel.size)), h.row.keep (hb.block _ (Nat.lt_of_lt_of_le h.hg h.bel.size)), h.bel.trans (hb.mono h.bel.size), (hb.block _ (lt_of_heap h.box)).trans h.box, h.hg, h.hk, h.ho, h.hp, h.ne⟩
theorem Cl.cell {L : List Nd} {k : List Bool} {gr capr lim gn go pb : Nat} {w wr w' : World} {i : Nat} (h : Cl L k gr capr lim gn go pb w wr i) (hi : i < L.length) (hb : Below wr.heap.size wr w') : w'.cell? ⟨go, i, none⟩ = some (.bool ((rfull L k i).getD i false)) ∧ w'.frozen? ⟨go, i, none⟩ = false :=
  ⟨(h.br.keep (hb.block _ h.br.lt)).at_ i (by rw [rfull_len (by omega)]; exact hi), (h.br.keep (hb.block _ h.br.lt)).froz⟩
set_option maxRecDepth 100000 in
set_option maxHeartbeats 40000000 in
theorem canF_any {L : List Nd} {k : List Bool} {gr capr lim gn ck : Nat} {w : World} (hwf : WF L) (hrow : rowAt w gr L) (hk : boolsAt w gn k) (hgn : gn < w.heap.size) (hkl : k.length = L.length) (hg : gr < w.heap.size) (hL : L.length ≤ 1000) :
    Calls Tryd.prog 71 #[.agg #[.int .i64 lim, .slice (some ⟨gr, 0, none⟩) L.length capr], .slice (some ⟨gn, 0, none⟩) L.length ck] w fun e w' => ∃ go, e = .returned (.slice (some ⟨go, 0, none⟩) L.length L.length) ∧ w.heap.size ≤ go ∧ BR w' go (rcan L k L.length) ∧ Below w.heap.size w w' := by
  obtain ⟨i0, hi0, hz0, hz1, hz2⟩ := info_parts Tryd.infoB
  have HST : Hid (Cl L k gr capr lim gn (w.heap.size + 1) w.heap.size w ((w.alloc (.cells #[.int .i64 lim, .slice (some ⟨gr, 0, none⟩) L.length capr] 29)).alloc (.cells (madeCells #[.bool false] L.length) 4)) 0) := Lib.hid (by
    have hb : Below w.heap.size w ((w.alloc (.cells #[.int .i64 lim, .slice (some ⟨gr, 0, none⟩) L.length capr] 29)).alloc (.cells (madeCells #[.bool false] L.length) 4)) := ((Below.refl _ _).alloc (Nat.le_refl _) _).alloc (by simp) _
    refine ⟨?_, hk.keep (hb.block _ hgn), hrow.keep (hb.block _ hg), hb, ?_, hg, hgn, by omega, by omega, by omega⟩
    · have := heap_alloc_new (w.alloc (.cells #[.int .i64 lim, .slice (some ⟨gr, 0, none⟩) L.length capr] 29)) (.cells (madeCells #[.bool false] L.length) 4)
      rw [World.size_alloc, made_bools] at this
      rw [made_bools, rfull_zero]; exact this
    · rw [Below.heap_alloc _ _ _ (by simp)]; exact heap_alloc_new _ _)
  clear hrow hk
  go_enter Tryd.func71, Tryd.ntmps71
  go_wp2_with (first
    | (at_make; refine wpList_make_row _ rfl _ _ 30 rfl 4 i0 (.bool false) Tryd.underlying30 hi0 hz0 hz1 rfl _ _ L.length rfl rfl (by rw [hz2]; omega) (by omega) ?_))
  generalize ((w.alloc (.cells #[.int .i64 lim, .slice (some ⟨gr, 0, none⟩) L.length capr] 29)).alloc (.cells (madeCells #[.bool false] L.length) 4)) = W0 at *
  generalize hpb : w.heap.size + 1 = go at *
  obtain ⟨pb, hpb2⟩ : ∃ pb, pb = w.heap.size := ⟨_, rfl⟩
  go_loopg [6, 7, 8] L.length (fun q u6 _ _ wr => ∃ i : Nat, i + q = L.length ∧ u6 = .int .i64 i ∧ Cl L k gr capr lim gn go w.heap.size w wr i)
  case atStart => exact ⟨0, by omega, rfl, HST.out⟩
  case round =>
    obtain ⟨i, hiq, rfl, hcl⟩ := hrel
    have z1 : wr.cell? ⟨w.heap.size, 1, none⟩ = some (.slice (some ⟨gr, 0, none⟩) L.length capr) := by rw [cell_of_row wr _ 1 _ _ _ hcl.box]; rfl
    have z0 : wr.cell? ⟨w.heap.size, 0, none⟩ = some (.int .i64 lim) := by rw [cell_of_row wr _ 0 _ _ _ hcl.box]; rfl
    have lz := lt_of_heap hcl.box
    by_cases hlt : i < L.length
    · obtain ⟨ri0, ri1, ri2, ri3, ri4⟩ := hcl.row i hlt
      have hki := hcl.bk i (by omega)
      have hi' : (i : Int) < L.length := by omega
      have hhas : hasB L.length (i : Int) = true := hasB_iff.2 ⟨by omega, by omega⟩
      obtain ⟨pa, pb', pc⟩ := nd_has hwf hhas
      obtain ⟨gk1, _, _⟩ := nd_good hwf hhas
      rw [show nd L (i : Int) = L.getD i zN from rfl] at pa pb' pc gk1
      have HRS : Hid (rstep L k (rfull L k i) i = rstep L k (rfull L k i) i) := Lib.hid rfl
      obtain ⟨hc0, hf0⟩ := hcl.cell hlt (Below.refl _ _)
      have lg : gr < wr.heap.size := Nat.lt_of_lt_of_le hg hcl.bel.size
      have lk : gn < wr.heap.size := Nat.lt_of_lt_of_le hgn hcl.bel.size
      have lo := hcl.br.lt
      have hoa := hcl.br.at_
      rw [show boolsAt wr go (rfull L k i) = ∀ m, m < (rfull L k i).length → wr.cell? ⟨go, m, none⟩ = some (.bool ((rfull L k i).getD m false)) from rfl, rfull_len (by omega)] at hoa
      have HPB : Hid (∀ w1 (x : Int), Below wr.heap.size wr w1 → hasB L.length x = true → Calls Tryd.prog 85 #[.agg #[.int .i64 lim, .slice (some ⟨gr, 0, none⟩) L.length capr], .slice (some ⟨gn, 0, none⟩) L.length ck, .slice (some ⟨go, 0, none⟩) L.length L.length, .int .i64 x] w1 fun e w' => e = .returned (.bool (rpub L k (rfull L k i) x)) ∧ Below w1.heap.size w1 w') := Lib.hid (fun w1 x hb hx => pubF_any (hcl.row.keep (hb.block _ lg)) (hcl.bk.keep (hb.block _ lk)) (hcl.br.keep (hb.block _ lo)).at_ hkl (rfull_len (by omega)) hx (Nat.lt_of_lt_of_le lg hb.size) (Nat.lt_of_lt_of_le lk hb.size) (Nat.lt_of_lt_of_le lo hb.size) hL)
      obtain ⟨out, hout⟩ : ∃ out, out = rfull L k i := ⟨_, rfl⟩
      have HCL := Lib.hid hcl
      have hst : ∀ (b : Bool) (w' : World), Below wr.heap.size wr w' → b = rstep L k out i → Cl L k gr capr lim gn go w.heap.size w (w'.setCell ⟨go, i, none⟩ (.bool b)) (i + 1) := fun b w' hb hv => HCL.out.step hlt hb (by rw [hv, hout])
      have hce : ∀ w', Below wr.heap.size wr w' → w'.cell? ⟨go, i, none⟩ = some (.bool (out.getD i false)) ∧ w'.frozen? ⟨go, i, none⟩ = false := fun w' hb => by rw [hout]; exact HCL.out.cell hlt hb
      have HST2 := Lib.hid hst
      have HCE := Lib.hid hce
      rw [← hout] at hoa HPB hc0
      unfold rstep at HST2
      obtain ⟨d, hd⟩ : ∃ d, d = L.getD i zN := ⟨_, rfl⟩
      rw [← hd] at ri0 ri1 ri2 ri3 ri4 pa pb' pc gk1 HST2
      obtain ⟨kk, hkk, hk10⟩ : ∃ kk : Nat, d.k = kk ∧ kk < 10 := kindNat gk1
      obtain ⟨ja, hja⟩ : ∃ ja : Nat, d.a = ja := ⟨d.a.toNat, by have := hasB_iff.1 pa; omega⟩
      obtain ⟨jb, hjb⟩ : ∃ jb : Nat, d.b = jb := ⟨d.b.toNat, by have := hasB_iff.1 pb'; omega⟩
      obtain ⟨jc, hjc⟩ : ∃ jc : Nat, d.c = jc := ⟨d.c.toNat, by have := hasB_iff.1 pc; omega⟩
      have HPD : Hid (hasB L.length (ja : Int) = true ∧ hasB L.length (jb : Int) = true) := Lib.hid ⟨hja ▸ pa, hjb ▸ pb'⟩
      rw [hkk] at ri0 HST2
      rw [hja] at ri2 HST2 pa
      rw [hjb] at ri3 HST2 pb'
      rw [hjc] at ri4 HST2 pc
      have hla : ja < L.length := by have := hasB_iff.1 pa; omega
      have hlb : jb < L.length := by have := hasB_iff.1 pb'; omega
      have hlc : jc < L.length := by have := hasB_iff.1 pc; omega
      have ca := hoa ja hla
      have cb := hoa jb hlb
      have cc := hoa jc hlc
      have la' : (ja : Int) < L.length := by omega
      have lb' : (jb : Int) < L.length := by omega
      have lc' : (jc : Int) < L.length := by omega
      simp only [Int.toNat_natCast] at HST2
      obtain ⟨nn, hnn⟩ : ∃ nn, nn = d.n := ⟨_, rfl⟩
      rw [← hnn] at ri1 HST2
      obtain ⟨bi, hbi⟩ : ∃ bi, bi = k.getD i false := ⟨_, rfl⟩
      rw [← hbi] at hki HST2
      obtain ⟨ba, hba⟩ : ∃ ba, ba = out.getD ja false := ⟨_, rfl⟩
      rw [← hba] at ca HST2
      obtain ⟨bb, hbb⟩ : ∃ bb, bb = out.getD jb false := ⟨_, rfl⟩
      rw [← hbb] at cb HST2
      obtain ⟨bc, hbc⟩ : ∃ bc, bc = out.getD jc false := ⟨_, rfl⟩
      rw [← hbc] at cc HST2
      have HPA' := Lib.hid (fun w1 hb => HPB.out w1 (ja : Int) hb HPD.out.1)
      have HPB' := Lib.hid (fun w1 hb => HPB.out w1 (jb : Int) hb HPD.out.2)
      obtain ⟨qa, hqa⟩ : ∃ qa, qa = rpub L k out (ja : Int) := ⟨_, rfl⟩
      rw [← hqa] at HPA' HST2
      obtain ⟨qb, hqb⟩ : ∃ qb, qb = rpub L k out (jb : Int) := ⟨_, rfl⟩
      rw [← hqb] at HPB' HST2
      clear hd hja hjb hjc pa pb' pc gk1 hkk hoa hst hce hcl hout HPB HPD HRS hhas hnn hbi hba hbb hbc hqa hqb hkl hwf
      match kk, hk10 with
      | 0, _ =>
        as_aux_lemma =>
          go_wp2_with fail
          go_roundg (L.length - (i + 1))
          case rel => exact ⟨i + 1, by omega, by simp, (HST2.out _ wr (Below.refl _ _) (by simp)).keep ((Below.refl _ _).alloc (Nat.le_refl _) _)⟩
          case measure => omega
      | 1, _ =>
        cases bi with
        | true =>
          as_aux_lemma =>
            go_wp2_with fail
            go_roundg (L.length - (i + 1))
            case rel => exact ⟨i + 1, by omega, by simp, (HST2.out _ wr (Below.refl _ _) (by simp)).keep ((Below.refl _ _).alloc (Nat.le_refl _) _)⟩
            case measure => omega
        | false =>
          by_cases hn : 4294967296 ≤ nn
          · skip
            as_aux_lemma =>
              go_wp2_with fail
              go_roundg (L.length - (i + 1))
              case rel => exact ⟨i + 1, by omega, by simp, (HST2.out _ wr (Below.refl _ _) (by simp [hn])).keep ((Below.refl _ _).alloc (Nat.le_refl _) _)⟩
              case measure => omega
          · have hn' : nn < 4294967296 := by omega
            as_aux_lemma =>
              go_wp2_with fail
              go_roundg (L.length - (i + 1))
              case rel => exact ⟨i + 1, by omega, by simp, (HST2.out _ wr (Below.refl _ _) (by simp [hn])).keep ((Below.refl _ _).alloc (Nat.le_refl _) _)⟩
              case measure => omega
      | 2, _ =>
        cases bi with
        | true =>
          as_aux_lemma =>
            go_wp2_with fail
            go_roundg (L.length - (i + 1))
            case rel => exact ⟨i + 1, by omega, by simp, (HST2.out _ wr (Below.refl _ _) (by simp)).keep ((Below.refl _ _).alloc (Nat.le_refl _) _)⟩
            case measure => omega
        | false =>
          cases ba with
          | true =>
            as_aux_lemma =>
              go_wp2_with fail
              go_roundg (L.length - (i + 1))
              case rel => exact ⟨i + 1, by omega, by simp, (HST2.out _ wr (Below.refl _ _) (by simp)).keep ((Below.refl _ _).alloc (Nat.le_refl _) _)⟩
              case measure => omega
          | false =>
            as_aux_lemma =>
              go_wp2_with fail
              go_roundg (L.length - (i + 1))
              case rel => exact ⟨i + 1, by omega, by simp, (HST2.out _ wr (Below.refl _ _) (by simp)).keep ((Below.refl _ _).alloc (Nat.le_refl _) _)⟩
              case measure => omega
      | 3, _ =>
        cases bi with
        | true =>
          as_aux_lemma =>
            go_wp2_with fail
            go_roundg (L.length - (i + 1))
            case rel => exact ⟨i + 1, by omega, by simp, (HST2.out _ wr (Below.refl _ _) (by simp)).keep ((Below.refl _ _).alloc (Nat.le_refl _) _)⟩
            case measure => omega
        | false =>
          cases ba with
          | true =>
            cases qb with
            | true =>
              as_aux_lemma =>
                have _p0 := Nat.le_refl 0
                go_wp2_with (first | (go_at_call 85; have _h := _p0; refine (HPB'.out _ ((Below.refl _ _).alloc (Nat.le_refl _) _)).mono ?_; rintro e w2 ⟨rfl, hb2⟩; have hc2 : Below wr.heap.size wr w2 := (((Below.refl _ _).alloc (Nat.le_refl _) _ : Below wr.heap.size wr _).trans (hb2.mono (by simp))); obtain ⟨u2, v2⟩ := HCE.out w2 hc2; have s2 := hc2.size; have lo2 : go < w2.heap.size := (by omega); have ca2 := (hc2.cell (p := ⟨go, ja, none⟩) lo).trans ca; have cb2 := (hc2.cell (p := ⟨go, jb, none⟩) lo).trans cb; have m0 := (hc2.cell (p := ⟨w.heap.size, 0, none⟩) lz).trans z0; have m1 := (hc2.cell (p := ⟨w.heap.size, 1, none⟩) lz).trans z1; have hnb : w2.heap[wr.heap.size]? = _ := (hb2.block wr.heap.size (by simp)).trans (heap_alloc_new wr _); have n2 := cell_of_row w2 wr.heap.size 2 _ _ _ hnb; have n3 := cell_of_row w2 wr.heap.size 3 _ _ _ hnb; simp at n2 n3; clear _p0 hnb; have _p1 := Nat.le_refl 0))
                go_roundg (L.length - (i + 1))
                case rel => exact ⟨i + 1, by omega, by simp, HST2.out _ _ hc2 (by simp)⟩
                case measure => omega
            | false =>
              cases bb with
              | true =>
                cases qa with
                | true =>
                  as_aux_lemma =>
                    have _p0 := Nat.le_refl 0
                    go_wp2_with (first | (go_at_call 85; have _h := _p0; refine (HPB'.out _ ((Below.refl _ _).alloc (Nat.le_refl _) _)).mono ?_; rintro e w2 ⟨rfl, hb2⟩; have hc2 : Below wr.heap.size wr w2 := (((Below.refl _ _).alloc (Nat.le_refl _) _ : Below wr.heap.size wr _).trans (hb2.mono (by simp))); obtain ⟨u2, v2⟩ := HCE.out w2 hc2; have s2 := hc2.size; have lo2 : go < w2.heap.size := (by omega); have ca2 := (hc2.cell (p := ⟨go, ja, none⟩) lo).trans ca; have cb2 := (hc2.cell (p := ⟨go, jb, none⟩) lo).trans cb; have m0 := (hc2.cell (p := ⟨w.heap.size, 0, none⟩) lz).trans z0; have m1 := (hc2.cell (p := ⟨w.heap.size, 1, none⟩) lz).trans z1; have hnb : w2.heap[wr.heap.size]? = _ := (hb2.block wr.heap.size (by simp)).trans (heap_alloc_new wr _); have n2 := cell_of_row w2 wr.heap.size 2 _ _ _ hnb; have n3 := cell_of_row w2 wr.heap.size 3 _ _ _ hnb; simp at n2 n3; clear _p0 hnb; have _p1 := Nat.le_refl 0) | (go_at_call 85; have _h := _p1; refine (HPA'.out _ hc2).mono ?_; rintro e w3 ⟨rfl, hb3⟩; have hc3 := hc2.trans (hb3.mono s2); obtain ⟨u3, v3⟩ := HCE.out w3 hc3))
                    go_roundg (L.length - (i + 1))
                    case rel => exact ⟨i + 1, by omega, by simp, HST2.out _ _ hc3 (by simp)⟩
                    case measure => omega
                | false =>
                  as_aux_lemma =>
                    have _p0 := Nat.le_refl 0
                    go_wp2_with (first | (go_at_call 85; have _h := _p0; refine (HPB'.out _ ((Below.refl _ _).alloc (Nat.le_refl _) _)).mono ?_; rintro e w2 ⟨rfl, hb2⟩; have hc2 : Below wr.heap.size wr w2 := (((Below.refl _ _).alloc (Nat.le_refl _) _ : Below wr.heap.size wr _).trans (hb2.mono (by simp))); obtain ⟨u2, v2⟩ := HCE.out w2 hc2; have s2 := hc2.size; have lo2 : go < w2.heap.size := (by omega); have ca2 := (hc2.cell (p := ⟨go, ja, none⟩) lo).trans ca; have cb2 := (hc2.cell (p := ⟨go, jb, none⟩) lo).trans cb; have m0 := (hc2.cell (p := ⟨w.heap.size, 0, none⟩) lz).trans z0; have m1 := (hc2.cell (p := ⟨w.heap.size, 1, none⟩) lz).trans z1; have hnb : w2.heap[wr.heap.size]? = _ := (hb2.block wr.heap.size (by simp)).trans (heap_alloc_new wr _); have n2 := cell_of_row w2 wr.heap.size 2 _ _ _ hnb; have n3 := cell_of_row w2 wr.heap.size 3 _ _ _ hnb; simp at n2 n3; clear _p0 hnb; have _p1 := Nat.le_refl 0) | (go_at_call 85; have _h := _p1; refine (HPA'.out _ hc2).mono ?_; rintro e w3 ⟨rfl, hb3⟩; have hc3 := hc2.trans (hb3.mono s2); obtain ⟨u3, v3⟩ := HCE.out w3 hc3))
                    go_roundg (L.length - (i + 1))
                    case rel => exact ⟨i + 1, by omega, by simp, HST2.out _ _ hc3 (by simp)⟩
                    case measure => omega
              | false =>
                as_aux_lemma =>
                  have _p0 := Nat.le_refl 0
                  go_wp2_with (first | (go_at_call 85; have _h := _p0; refine (HPB'.out _ ((Below.refl _ _).alloc (Nat.le_refl _) _)).mono ?_; rintro e w2 ⟨rfl, hb2⟩; have hc2 : Below wr.heap.size wr w2 := (((Below.refl _ _).alloc (Nat.le_refl _) _ : Below wr.heap.size wr _).trans (hb2.mono (by simp))); obtain ⟨u2, v2⟩ := HCE.out w2 hc2; have s2 := hc2.size; have lo2 : go < w2.heap.size := (by omega); have ca2 := (hc2.cell (p := ⟨go, ja, none⟩) lo).trans ca; have cb2 := (hc2.cell (p := ⟨go, jb, none⟩) lo).trans cb; have m0 := (hc2.cell (p := ⟨w.heap.size, 0, none⟩) lz).trans z0; have m1 := (hc2.cell (p := ⟨w.heap.size, 1, none⟩) lz).trans z1; have hnb : w2.heap[wr.heap.size]? = _ := (hb2.block wr.heap.size (by simp)).trans (heap_alloc_new wr _); have n2 := cell_of_row w2 wr.heap.size 2 _ _ _ hnb; have n3 := cell_of_row w2 wr.heap.size 3 _ _ _ hnb; simp at n2 n3; clear _p0 hnb; have _p1 := Nat.le_refl 0))
                  go_roundg (L.length - (i + 1))
                  case rel => exact ⟨i + 1, by omega, by simp, HST2.out _ _ hc2 (by simp)⟩
                  case measure => omega
          | false =>
            cases bb with
            | true =>
              cases qa with
              | true =>
                as_aux_lemma =>
                  have _p0 := Nat.le_refl 0
                  go_wp2_with (first | (go_at_call 85; have _h := _p0; refine (HPA'.out _ ((Below.refl _ _).alloc (Nat.le_refl _) _)).mono ?_; rintro e w2 ⟨rfl, hb2⟩; have hc2 : Below wr.heap.size wr w2 := (((Below.refl _ _).alloc (Nat.le_refl _) _ : Below wr.heap.size wr _).trans (hb2.mono (by simp))); obtain ⟨u2, v2⟩ := HCE.out w2 hc2; have s2 := hc2.size; have lo2 : go < w2.heap.size := (by omega); have ca2 := (hc2.cell (p := ⟨go, ja, none⟩) lo).trans ca; have cb2 := (hc2.cell (p := ⟨go, jb, none⟩) lo).trans cb; have m0 := (hc2.cell (p := ⟨w.heap.size, 0, none⟩) lz).trans z0; have m1 := (hc2.cell (p := ⟨w.heap.size, 1, none⟩) lz).trans z1; have hnb : w2.heap[wr.heap.size]? = _ := (hb2.block wr.heap.size (by simp)).trans (heap_alloc_new wr _); have n2 := cell_of_row w2 wr.heap.size 2 _ _ _ hnb; have n3 := cell_of_row w2 wr.heap.size 3 _ _ _ hnb; simp at n2 n3; clear _p0 hnb; have _p1 := Nat.le_refl 0))
                  go_roundg (L.length - (i + 1))
                  case rel => exact ⟨i + 1, by omega, by simp, HST2.out _ _ hc2 (by simp)⟩
                  case measure => omega
              | false =>
                as_aux_lemma =>
                  have _p0 := Nat.le_refl 0
                  go_wp2_with (first | (go_at_call 85; have _h := _p0; refine (HPA'.out _ ((Below.refl _ _).alloc (Nat.le_refl _) _)).mono ?_; rintro e w2 ⟨rfl, hb2⟩; have hc2 : Below wr.heap.size wr w2 := (((Below.refl _ _).alloc (Nat.le_refl _) _ : Below wr.heap.size wr _).trans (hb2.mono (by simp))); obtain ⟨u2, v2⟩ := HCE.out w2 hc2; have s2 := hc2.size; have lo2 : go < w2.heap.size := (by omega); have ca2 := (hc2.cell (p := ⟨go, ja, none⟩) lo).trans ca; have cb2 := (hc2.cell (p := ⟨go, jb, none⟩) lo).trans cb; have m0 := (hc2.cell (p := ⟨w.heap.size, 0, none⟩) lz).trans z0; have m1 := (hc2.cell (p := ⟨w.heap.size, 1, none⟩) lz).trans z1; have hnb : w2.heap[wr.heap.size]? = _ := (hb2.block wr.heap.size (by simp)).trans (heap_alloc_new wr _); have n2 := cell_of_row w2 wr.heap.size 2 _ _ _ hnb; have n3 := cell_of_row w2 wr.heap.size 3 _ _ _ hnb; simp at n2 n3; clear _p0 hnb; have _p1 := Nat.le_refl 0))
                  go_roundg (L.length - (i + 1))
                  case rel => exact ⟨i + 1, by omega, by simp, HST2.out _ _ hc2 (by simp)⟩
                  case measure => omega
            | false =>
              as_aux_lemma =>
                go_wp2_with fail
                go_roundg (L.length - (i + 1))
                case rel => exact ⟨i + 1, by omega, by simp, (HST2.out _ wr (Below.refl _ _) (by simp)).keep ((Below.refl _ _).alloc (Nat.le_refl _) _)⟩
                case measure => omega
      | 4, _ =>
        cases bi with
        | true =>
          as_aux_lemma =>
            go_wp2_with fail
            go_roundg (L.length - (i + 1))
            case rel => exact ⟨i + 1, by omega, by simp, (HST2.out _ wr (Below.refl _ _) (by simp)).keep ((Below.refl _ _).alloc (Nat.le_refl _) _)⟩
            case measure => omega
        | false =>
          cases ba with
          | true =>
            cases bb with
            | true =>
              as_aux_lemma =>
                go_wp2_with fail
                go_roundg (L.length - (i + 1))
                case rel => exact ⟨i + 1, by omega, by simp, (HST2.out _ wr (Below.refl _ _) (by simp)).keep ((Below.refl _ _).alloc (Nat.le_refl _) _)⟩
                case measure => omega
            | false =>
              as_aux_lemma =>
                go_wp2_with fail
                go_roundg (L.length - (i + 1))
                case rel => exact ⟨i + 1, by omega, by simp, (HST2.out _ wr (Below.refl _ _) (by simp)).keep ((Below.refl _ _).alloc (Nat.le_refl _) _)⟩
                case measure => omega
          | false =>
            as_aux_lemma =>
              go_wp2_with fail
              go_roundg (L.length - (i + 1))
              case rel => exact ⟨i + 1, by omega, by simp, (HST2.out _ wr (Below.refl _ _) (by simp)).keep ((Below.refl _ _).alloc (Nat.le_refl _) _)⟩
              case measure => omega
      | 5, _ =>
        cases bi with
        | true =>
          as_aux_lemma =>
            go_wp2_with fail
            go_roundg (L.length - (i + 1))
            case rel => exact ⟨i + 1, by omega, by simp, (HST2.out _ wr (Below.refl _ _) (by simp)).keep ((Below.refl _ _).alloc (Nat.le_refl _) _)⟩
            case measure => omega
        | false =>
          cases ba with
          | true =>
            cases bb with
            | true =>
              as_aux_lemma =>
                go_wp2_with fail
                go_roundg (L.length - (i + 1))
                case rel => exact ⟨i + 1, by omega, by simp, (HST2.out _ wr (Below.refl _ _) (by simp)).keep ((Below.refl _ _).alloc (Nat.le_refl _) _)⟩
                case measure => omega
            | false =>
              as_aux_lemma =>
                go_wp2_with fail
                go_roundg (L.length - (i + 1))
                case rel => exact ⟨i + 1, by omega, by simp, (HST2.out _ wr (Below.refl _ _) (by simp)).keep ((Below.refl _ _).alloc (Nat.le_refl _) _)⟩
                case measure => omega
          | false =>
            as_aux_lemma =>
              go_wp2_with fail
              go_roundg (L.length - (i + 1))
              case rel => exact ⟨i + 1, by omega, by simp, (HST2.out _ wr (Below.refl _ _) (by simp)).keep ((Below.refl _ _).alloc (Nat.le_refl _) _)⟩
              case measure => omega
      | 6, _ =>
        cases bi with
        | true =>
          as_aux_lemma =>
            go_wp2_with fail
            go_roundg (L.length - (i + 1))
            case rel => exact ⟨i + 1, by omega, by simp, (HST2.out _ wr (Below.refl _ _) (by simp)).keep ((Below.refl _ _).alloc (Nat.le_refl _) _)⟩
            case measure => omega
        | false =>
          cases ba with
          | true =>
            cases bb with
            | true =>
              as_aux_lemma =>
                go_wp2_with fail
                go_roundg (L.length - (i + 1))
                case rel => exact ⟨i + 1, by omega, by simp, (HST2.out _ wr (Below.refl _ _) (by simp)).keep ((Below.refl _ _).alloc (Nat.le_refl _) _)⟩
                case measure => omega
            | false =>
              as_aux_lemma =>
                go_wp2_with fail
                go_roundg (L.length - (i + 1))
                case rel => exact ⟨i + 1, by omega, by simp, (HST2.out _ wr (Below.refl _ _) (by simp)).keep ((Below.refl _ _).alloc (Nat.le_refl _) _)⟩
                case measure => omega
          | false =>
            as_aux_lemma =>
              go_wp2_with fail
              go_roundg (L.length - (i + 1))
              case rel => exact ⟨i + 1, by omega, by simp, (HST2.out _ wr (Below.refl _ _) (by simp)).keep ((Below.refl _ _).alloc (Nat.le_refl _) _)⟩
              case measure => omega
      | 7, _ =>
        cases bi with
        | true =>
          as_aux_lemma =>
            go_wp2_with fail
            go_roundg (L.length - (i + 1))
            case rel => exact ⟨i + 1, by omega, by simp, (HST2.out _ wr (Below.refl _ _) (by simp)).keep ((Below.refl _ _).alloc (Nat.le_refl _) _)⟩
            case measure => omega
        | false =>
          cases ba with
          | true =>
            cases bb with
            | true =>
              cases bc with
              | true =>
                as_aux_lemma =>
                  go_wp2_with fail
                  go_roundg (L.length - (i + 1))
                  case rel => exact ⟨i + 1, by omega, by simp, (HST2.out _ wr (Below.refl _ _) (by simp)).keep ((Below.refl _ _).alloc (Nat.le_refl _) _)⟩
                  case measure => omega
              | false =>
                as_aux_lemma =>
                  go_wp2_with fail
                  go_roundg (L.length - (i + 1))
                  case rel => exact ⟨i + 1, by omega, by simp, (HST2.out _ wr (Below.refl _ _) (by simp)).keep ((Below.refl _ _).alloc (Nat.le_refl _) _)⟩
                  case measure => omega
            | false =>
              as_aux_lemma =>
                go_wp2_with fail
                go_roundg (L.length - (i + 1))
                case rel => exact ⟨i + 1, by omega, by simp, (HST2.out _ wr (Below.refl _ _) (by simp)).keep ((Below.refl _ _).alloc (Nat.le_refl _) _)⟩
                case measure => omega
          | false =>
            as_aux_lemma =>
              go_wp2_with fail
              go_roundg (L.length - (i + 1))
              case rel => exact ⟨i + 1, by omega, by simp, (HST2.out _ wr (Below.refl _ _) (by simp)).keep ((Below.refl _ _).alloc (Nat.le_refl _) _)⟩
              case measure => omega
      | 8, _ =>
        cases bi with
        | true =>
          as_aux_lemma =>
            go_wp2_with fail
            go_roundg (L.length - (i + 1))
            case rel => exact ⟨i + 1, by omega, by simp, (HST2.out _ wr (Below.refl _ _) (by simp)).keep ((Below.refl _ _).alloc (Nat.le_refl _) _)⟩
            case measure => omega
        | false =>
          cases ba with
          | true =>
            cases bb with
            | true =>
              as_aux_lemma =>
                go_wp2_with fail
                go_roundg (L.length - (i + 1))
                case rel => exact ⟨i + 1, by omega, by simp, (HST2.out _ wr (Below.refl _ _) (by simp)).keep ((Below.refl _ _).alloc (Nat.le_refl _) _)⟩
                case measure => omega
            | false =>
              as_aux_lemma =>
                go_wp2_with fail
                go_roundg (L.length - (i + 1))
                case rel => exact ⟨i + 1, by omega, by simp, (HST2.out _ wr (Below.refl _ _) (by simp)).keep ((Below.refl _ _).alloc (Nat.le_refl _) _)⟩
                case measure => omega
          | false =>
            as_aux_lemma =>
              go_wp2_with fail
              go_roundg (L.length - (i + 1))
              case rel => exact ⟨i + 1, by omega, by simp, (HST2.out _ wr (Below.refl _ _) (by simp)).keep ((Below.refl _ _).alloc (Nat.le_refl _) _)⟩
              case measure => omega
      | 9, _ =>
        as_aux_lemma =>
          go_wp2_with fail
          go_roundg (L.length - (i + 1))
          case rel => exact ⟨i + 1, by omega, by simp, (HST2.out _ wr (Below.refl _ _) (by simp)).keep ((Below.refl _ _).alloc (Nat.le_refl _) _)⟩
          case measure => omega
    · obtain rfl : i = L.length := by omega
      have HE : Hid (BR wr go (rcan L k L.length) ∧ Below w.heap.size w wr) := Lib.hid ⟨by rw [← rfull_end]; exact hcl.br, hcl.bel⟩
      clear hcl
      go_wp2_with fail
      go_ret
      exact ⟨go, rfl, by omega, HE.out⟩
theorem canF : CanF := fun _ _ _ _ _ _ _ _ hwf hrow hk hgn hkl hg hL => canF_any hwf hrow hk hgn hkl hg hL
end Go.Proofs.YtemigefkkjgehaaDoor
