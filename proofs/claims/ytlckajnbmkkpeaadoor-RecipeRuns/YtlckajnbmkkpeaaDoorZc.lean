/- Layer 3: walks of the reference: Close. -/
import Derived.Test.YtlckajnbmkkpeaaDoorZb0
import Derived.Deep.AppendLies
namespace Go.Proofs.YtlckajnbmkkpeaaDoor
open Go.RowKit Go.Maps

/-- Where Close's loops stand. -/
structure Cz (L : List Nd) (gr capr lim go co pb : Nat) (w wv : World) (out : List Bool) : Prop where
  ob : Ob wv go co out
  row : rowAt wv gr L
  bel : Below w.heap.size w wv
  box : wv.heap[pb]? = some (.cells #[.int .i64 lim, .slice (some ⟨gr, 0, none⟩) L.length capr] 29 (0, 0))
  hg : gr < w.heap.size
  ho : w.heap.size ≤ go
  hp : w.heap.size ≤ pb
  ne : go ≠ pb
section
variable {L : List Nd} {gr capr lim go co pb : Nat} {w wv w' : World} {out : List Bool}
theorem Cz.keep (h : Cz L gr capr lim go co pb w wv out) (hb : Below wv.heap.size wv w') : Cz L gr capr lim go co pb w w' out :=
  ⟨h.ob.keep (hb.block _ h.ob.lt), h.row.keep (hb.block _ (Nat.lt_of_lt_of_le h.hg h.bel.size)), h.bel.trans (hb.mono h.bel.size), (hb.block _ (lt_of_heap h.box)).trans h.box, h.hg, h.ho, h.hp, h.ne⟩
theorem Cz.set (h : Cz L gr capr lim go co pb w wv out) (i : Nat) (b : Bool) : Cz L gr capr lim go co pb w (wv.setCell ⟨go, i, none⟩ (.bool b)) (out.set i b) := by
  have oth : ∀ {j : Nat}, j ≠ go → (wv.setCell ⟨go, i, none⟩ (.bool b)).heap[j]? = wv.heap[j]? := fun hj => heap_setCell_other _ _ _ _ (by simpa using hj)
  have h1 := h.hg
  have h2 := h.ho
  exact ⟨h.ob.set i b, h.row.keep (oth (by omega)), h.bel.setCell (by simpa using h.ho) _, (oth (Ne.symm h.ne)).trans h.box, h.hg, h.ho, h.hp, h.ne⟩
theorem Cz.z0 (h : Cz L gr capr lim go co pb w wv out) : wv.cell? ⟨pb, 0, none⟩ = some (.int .i64 lim) := by rw [cell_of_row wv _ 0 _ _ _ h.box]; rfl
theorem Cz.z1 (h : Cz L gr capr lim go co pb w wv out) : wv.cell? ⟨pb, 1, none⟩ = some (.slice (some ⟨gr, 0, none⟩) L.length capr) := by rw [cell_of_row wv _ 1 _ _ _ h.box]; rfl
end
theorem rpick_no {L : List Nd} {can out : List Bool} {i : Nat} (h : out.getD i false = false) : rpick L can out i = out := by
  unfold rpick
  have e1 : (if out.getD i false = true ∧ (L.getD i zN).k = 8 then (out.set (L.getD i zN).a.toNat true).set (L.getD i zN).b.toNat true else out) = out := if_neg (fun e => by rw [h] at e; exact absurd e.1 (by simp))
  simp only [e1]
  exact if_neg (fun e => by rw [h] at e; exact absurd e.1 (by simp))
theorem rpick_8 {L : List Nd} {can out : List Bool} {i : Nat} (h : out.getD i false = true) (h8 : (L.getD i zN).k = 8) : rpick L can out i = (out.set (L.getD i zN).a.toNat true).set (L.getD i zN).b.toNat true := by
  unfold rpick
  have e1 : (if out.getD i false = true ∧ (L.getD i zN).k = 8 then (out.set (L.getD i zN).a.toNat true).set (L.getD i zN).b.toNat true else out) = (out.set (L.getD i zN).a.toNat true).set (L.getD i zN).b.toNat true := if_pos ⟨h, h8⟩
  simp only [e1]
  exact if_neg (fun e => by have := e.2.1; omega)
theorem rpick_e1 {L : List Nd} {out : List Bool} {i : Nat} (h8 : (L.getD i zN).k ≠ 8) : (if out.getD i false = true ∧ (L.getD i zN).k = 8 then (out.set (L.getD i zN).a.toNat true).set (L.getD i zN).b.toNat true else out) = out := if_neg (fun e => h8 e.2)
theorem rpick_7 {L : List Nd} {can out : List Bool} {i : Nat} (h : out.getD i false = true) (h7 : (L.getD i zN).k = 7) (hc : can.getD (L.getD i zN).a.toNat false = true) : rpick L can out i = out.set (L.getD i zN).c.toNat true := by
  unfold rpick
  simp only [rpick_e1 (out := out) (i := i) (L := L) (by omega)]
  exact if_pos ⟨h, h7, hc⟩
theorem rpick_7n {L : List Nd} {can out : List Bool} {i : Nat} (h7 : (L.getD i zN).k = 7) (hc : can.getD (L.getD i zN).a.toNat false = false) : rpick L can out i = out := by
  unfold rpick
  simp only [rpick_e1 (out := out) (i := i) (L := L) (by omega)]
  exact if_neg (fun e => by have := e.2.2; rw [hc] at this; cases this)
theorem rpick_o {L : List Nd} {can out : List Bool} {i : Nat} (h8 : (L.getD i zN).k ≠ 8) (h7 : (L.getD i zN).k ≠ 7) : rpick L can out i = out := by
  unfold rpick
  simp only [rpick_e1 (out := out) (i := i) (L := L) h8]
  exact if_neg (fun e => h7 e.2.1)
set_option maxRecDepth 100000 in
set_option maxHeartbeats 8000000 in
theorem closeF_any (hC : CanF) {L : List Nd} {k : List Bool} {gr capr lim gn ck : Nat} {w : World} (hwf : WF L) (hrow : rowAt w gr L) (hk : boolsAt w gn k) (hgn : gn < w.heap.size) (hkl : k.length = L.length) (hg : gr < w.heap.size) (hL : L.length ≤ 1000) :
    Calls Tryd.prog 52 #[.agg #[.int .i64 lim, .slice (some ⟨gr, 0, none⟩) L.length capr], .slice (some ⟨gn, 0, none⟩) L.length ck] w fun e w' => ∃ go co, e = .returned (.slice (some ⟨go, 0, none⟩) L.length co) ∧ w.heap.size ≤ go ∧ Ob w' go co (rclose L k L.length) ∧ Below w.heap.size w w' := by
  obtain ⟨i0, hi0, hz0, hz1, hz2⟩ := info_parts Tryd.infoB
  have hpos := hwf.pos
  have HNE : Hid (∀ o o', ∀ j u, (k.map Value.bool)[j]? = some u → ((w.alloc o).alloc o').cell? ((⟨gn, 0, none⟩ : Addr).add j) = some u) := Lib.hid (fun o o' j u hu => by
    have hj : j < k.length := by
      rcases Nat.lt_or_ge j k.length with e | e
      · exact e
      · rw [List.getElem?_eq_none (by simpa using e)] at hu; cases hu
    rw [add_off, World.cell?_of_block ((Below.heap_alloc _ _ _ (by simp; omega)).trans (Below.heap_alloc _ _ _ hgn)), hk j hj]
    rw [List.getElem?_map, List.getElem?_eq_getElem hj] at hu
    rw [List.getD_eq_getElem?_getD, List.getElem?_eq_getElem hj]
    exact hu)
  have HOE : Hid (∀ o, ((w.alloc o).alloc (.cells #[] 4)).ownsRow 0 4 1 (.slice (some ⟨w.heap.size + 1, 0, none⟩) 0 0) 0 []) := Lib.hid (fun o => by
    have := World.ownsRow_lit (base := 0) (e := 4) (size := 1) (w.alloc o) #[] 0 (by omega) (by unfold maxLen; omega) rfl
    rw [World.size_alloc] at this; exact this)
  have HRW := Lib.hid hrow
  have HKA := Lib.hid hk
  clear hrow hk
  go_enter Tryd.func52, Tryd.ntmps52
  go_wp2_with (first
    | (at_builtin; refine wpList_append_lies _ rfl _ _ 30 rfl 0 4 i0 (.bool false) 1 1 Tryd.underlying30 hi0 hz0 hz1 hz2 rfl (by decide) _ 0 [] rfl (HOE.out _) ⟨gn, 0, none⟩ L.length ck (k.map Value.bool) rfl (by simp [hkl]) (HNE.out _ _) ?c2 hpos ?c3 ?c4 ?c5 _ rfl ?_))
  case c2 => intro u hu; obtain ⟨x, _, rfl⟩ := List.mem_map.1 hu; rfl
  case c3 => unfold maxLen; omega
  case c4 => omega
  case c5 => omega
  intro go co w7 hown7 hgr7 hat7 hlt7
  have HST : Hid (Cz L gr capr lim go co w.heap.size w w7 (rclose L k 0)) := Lib.hid (by
    have hb : Below w.heap.size w ((w.alloc (.cells #[.int .i64 lim, .slice (some ⟨gr, 0, none⟩) L.length capr] 29)).alloc (.cells #[] 4)) := ((Below.refl _ _).alloc (Nat.le_refl _) _).alloc (by simp) _
    have hgo : w.heap.size + 1 ≤ go := by
      rcases hat7 with e | e
      · have e : some (w.heap.size + 1) = some go := e
        obtain rfl := Option.some.inj e; omega
      · omega
    have hb7 : Below w.heap.size w w7 := hb.grown hgr7 (by simp; omega) (fun j hj => by
      have hj : some (w.heap.size + 1) = some j := hj
      obtain rfl := Option.some.inj hj; omega)
    refine ⟨?_, HRW.out.keep (hb7.block _ hg), hb7, ?_, hg, by omega, by omega, by omega⟩
    · show Ob w7 go co k
      unfold Ob
      rw [hkl]; exact hown7
    · rw [hgr7.block _ (by simp; omega) (fun e => by
        have e : some w.heap.size = some (w.heap.size + 1) := e
        have := Option.some.inj e; omega), Below.heap_alloc _ _ _ (by simp)]
      exact heap_alloc_new _ _)
  have hwo : w.heap.size ≤ go := HST.out.ho
  have HLN : Hid (∀ n, (rclose L k n).length = L.length) := Lib.hid (fun n => by rw [rclose_len]; exact hkl)
  have HWF := Lib.hid hwf
  have HCF := Lib.hid hC
  clear hown7 hgr7 hat7 hlt7 HNE HOE HRW HKA hi0 hz0 hz1 hz2 hgn hkl hC hwf
  go_wp2_with fail
  go_loopg [6, 7, 8, 9] L.length (fun q u6 _ _ _ wr => ∃ r : Nat, r + q = L.length ∧ u6 = .int .i64 r ∧ Cz L gr capr lim go co w.heap.size w wr (rclose L k r))
  case atStart => exact ⟨0, by omega, rfl, HST.out⟩
  case round =>
    obtain ⟨r, hrq, rfl, hcz⟩ := hrel
    have z0 := hcz.z0
    have z1 := hcz.z1
    have lz := lt_of_heap hcz.box
    by_cases hlt : r < L.length
    · have hr' : (r : Int) < L.length := by omega
      obtain ⟨out, hout⟩ : ∃ out, out = rclose L k r := ⟨_, rfl⟩
      have hol : out.length = L.length := by rw [hout]; exact HLN.out r
      have HNX : Hid (rclose L k (r + 1) = rpicks L (rcan L out L.length) out L.length) := Lib.hid (by rw [hout]; rfl)
      rw [← hout] at hcz
      have HCN := Lib.hid (HCF.out L out gr capr lim go co wr HWF.out hcz.row hcz.ob.at_ hcz.ob.lt hol (Nat.lt_of_lt_of_le hg hcz.bel.size) hL)
      have HCZ := Lib.hid hcz
      obtain ⟨can, hcan⟩ : ∃ can, can = rcan L out L.length := ⟨_, rfl⟩
      have hcl : can.length = L.length := by rw [hcan, rcan_len]
      rw [← hcan] at HCN HNX
      clear hcz hout hcan
      go_wp2_with (go_at_call 71; refine HCN.out.mono ?_; rintro e w2 ⟨gc, rfl, hgc, hbr, hb2⟩; have HGC : Hid (gc ≠ go ∧ w.heap.size ≤ gc ∧ gc ≠ w.heap.size) := Lib.hid ⟨by have := HCZ.out.ob.lt; omega, by have := HCZ.out.bel.size; omega, by have := lz; omega⟩; have HC2 : Hid (Cz L gr capr lim go co w.heap.size w w2 (rpicks L can out 0) ∧ BR w2 gc can) := Lib.hid ⟨HCZ.out.keep hb2, hbr⟩; clear z0 z1 hbr hgc hb2)
      go_loopg [8, 9] L.length (fun q2 u8 _ wv => ∃ i : Nat, i + q2 = L.length ∧ u8 = .int .i64 i ∧ Cz L gr capr lim go co w.heap.size w wv (rpicks L can out i) ∧ BR wv gc can)
      case atStart => exact ⟨0, by omega, rfl, HC2.out⟩
      case round =>
        obtain ⟨i, hiq, rfl, hci, hbr⟩ := hrel
        have y0 := hci.z0
        have y1 := hci.z1
        have ly := lt_of_heap hci.box
        by_cases hli : i < L.length
        · obtain ⟨ri0, ri1, ri2, ri3, ri4⟩ := hci.row i hli
          have hi' : (i : Int) < L.length := by omega
          have hhas : hasB L.length (i : Int) = true := hasB_iff.2 ⟨by omega, by omega⟩
          obtain ⟨pa, pb', pc⟩ := nd_has HWF.out hhas
          have hin := HWF.out.nd_parts (x := (i : Int)) (by omega) (by omega)
          have hz := nd_zero HWF.out
          rw [show nd L (i : Int) = L.getD i zN from rfl] at pa pb' pc hin
          have hol' : (rpicks L can out i).length = L.length := by rw [rpicks_len]; exact hol
          have coi := hci.ob.at_ i (by omega)
          have foi := hci.ob.froz
          have coX := hci.ob.at_
          have lg : gr < wr.heap.size := Nat.lt_of_lt_of_le hg hci.bel.size
          have lo := hci.ob.lt
          have lc := hbr.lt
          have HCI := Lib.hid hci
          have HBR := Lib.hid hbr
          have HSU : Hid (rpicks L can out (i + 1) = rpick L can (rpicks L can out i) i) := Lib.hid rfl
          obtain ⟨o1, ho1⟩ : ∃ o1, o1 = rpicks L can out i := ⟨_, rfl⟩
          rw [← ho1] at coi HCI HSU hol' coX
          obtain ⟨d, hd⟩ : ∃ d, d = L.getD i zN := ⟨_, rfl⟩
          rw [← hd] at ri0 ri1 ri2 ri3 ri4 pa pb' pc hin
          obtain ⟨ja, hja⟩ : ∃ ja : Nat, d.a = ja := ⟨d.a.toNat, by have := hasB_iff.1 pa; omega⟩
          obtain ⟨jb, hjb⟩ : ∃ jb : Nat, d.b = jb := ⟨d.b.toNat, by have := hasB_iff.1 pb'; omega⟩
          obtain ⟨jc, hjc⟩ : ∃ jc : Nat, d.c = jc := ⟨d.c.toNat, by have := hasB_iff.1 pc; omega⟩
          have HD := Lib.hid hd
          have HPT : Hid ((L.getD i zN).a.toNat = ja ∧ (L.getD i zN).b.toNat = jb ∧ (L.getD i zN).c.toNat = jc) := Lib.hid ⟨by rw [← hd, hja]; simp, by rw [← hd, hjb]; simp, by rw [← hd, hjc]; simp⟩
          rw [hja] at ri2 pa hin
          rw [hjb] at ri3 pb' hin
          rw [hjc] at ri4 pc
          have hla : ja < L.length := by have := hasB_iff.1 pa; omega
          have hlb : jb < L.length := by have := hasB_iff.1 pb'; omega
          have hlc : jc < L.length := by have := hasB_iff.1 pc; omega
          have la' : (ja : Int) < L.length := by omega
          have lb' : (jb : Int) < L.length := by omega
          have lc' : (jc : Int) < L.length := by omega
          have cca := hbr.at_ ja (by omega)
          have HNZ : Hid (d.k ≠ 0 → ja < i ∧ jb < i) := Lib.hid (fun hk => by
            have hi0 : i ≠ 0 := fun e => by
              subst e
              have : d = zN := by rw [hd]; exact hz
              rw [this] at hk; exact hk rfl
            obtain ⟨⟨_, q1⟩, ⟨_, q2⟩, _⟩ := hin
            omega)
          obtain ⟨oi, hoi⟩ : ∃ oi, oi = o1.getD i false := ⟨_, rfl⟩
          rw [← hoi] at coi
          obtain ⟨ca, hca⟩ : ∃ ca, ca = can.getD ja false := ⟨_, rfl⟩
          rw [← hca] at cca
          have coa := coX ja (by omega)
          have cob := coX jb (by omega)
          have coc := coX jc (by omega)
          generalize o1.getD ja false = oa at coa
          generalize o1.getD jb false = obv at cob
          generalize o1.getD jc false = ocv at coc
          have fa := foi ja
          have fb := foi jb
          have fc := foi jc
          have HAL : Hid (∀ w1 o l, Cz L gr capr lim go co w.heap.size w w1 l → BR w1 gc can → Cz L gr capr lim go co w.heap.size w (w1.alloc o) l ∧ BR (w1.alloc o) gc can) := Lib.hid (fun w1 o l h1 h2 => ⟨h1.keep ((Below.refl _ _).alloc (Nat.le_refl _) _), h2.keep (Below.heap_alloc _ _ _ h2.lt)⟩)
          have HSE : Hid (∀ w1 j l, Cz L gr capr lim go co w.heap.size w w1 l → BR w1 gc can → Cz L gr capr lim go co w.heap.size w (w1.setCell ⟨go, j, none⟩ (.bool true)) (l.set j true) ∧ BR (w1.setCell ⟨go, j, none⟩ (.bool true)) gc can) := Lib.hid (fun w1 j l h1 h2 => ⟨h1.set j true, h2.keep (heap_setCell_other _ _ _ _ (by simpa using HGC.out.1))⟩)
          clear hci hbr pa pb' pc hin hz foi coX hhas hd hja hjb hjc ho1
          cases oi with
          | false =>
            have HP : Hid (rpicks L can out (i + 1) = o1) := Lib.hid (by rw [HSU.out, rpick_no hoi.symm])
            clear hoi hca
            go_wp2_with fail
            go_roundg (L.length - (i + 1))
            case rel => exact ⟨i + 1, by omega, by simp, by rw [HP.out]; exact HAL.out _ _ _ HCI.out HBR.out⟩
            case measure => omega
          | true =>
            by_cases k8 : d.k = 8
            · have HP : Hid (rpicks L can out (i + 1) = (o1.set ja true).set jb true) := Lib.hid (by rw [HSU.out, rpick_8 hoi.symm (by rw [← HD.out]; exact k8), HPT.out.1, HPT.out.2.1])
              obtain ⟨n1, n2⟩ := HNZ.out (by omega)
              have n1' : ja ≠ i := by omega
              have n2' : jb ≠ i := by omega
              rw [k8] at ri0
              obtain ⟨t1, t2⟩ := HSE.out _ ja _ HCI.out HBR.out
              obtain ⟨t3, t4⟩ := HSE.out _ jb _ t1 t2
              have q1 := t1.ob.at_ jb (by rw [List.length_set]; omega)
              have q1f := t1.ob.froz jb
              have q2 := t3.ob.at_ i (by rw [List.length_set, List.length_set]; omega)
              have q3 : ((o1.set ja true).set jb true).getD i false = true := by rw [set_at, set_at]; exact .inl (.inl hoi.symm)
              rw [q3] at q2
              generalize (o1.set ja true).getD jb false = qv at q1
              clear hoi hca k8 t1 t2 t3 t4 q3
              go_wp2_with fail
              go_roundg (L.length - (i + 1))
              case rel => exact ⟨i + 1, by omega, by simp, by rw [HP.out]; obtain ⟨t1, t2⟩ := HSE.out _ ja _ HCI.out HBR.out; obtain ⟨t3, t4⟩ := HSE.out _ jb _ t1 t2; exact HAL.out _ _ _ t3 t4⟩
              case measure => omega
            · by_cases k7 : d.k = 7
              · rw [k7] at ri0
                cases ca with
                | true =>
                  have HP : Hid (rpicks L can out (i + 1) = o1.set jc true) := Lib.hid (by rw [HSU.out, rpick_7 hoi.symm (by rw [← HD.out]; exact k7) (by rw [HPT.out.1]; exact hca.symm), HPT.out.2.2])
                  clear hoi hca k7 k8
                  go_wp2_with fail
                  go_roundg (L.length - (i + 1))
                  case rel => exact ⟨i + 1, by omega, by simp, by rw [HP.out]; obtain ⟨t1, t2⟩ := HSE.out _ jc _ HCI.out HBR.out; exact HAL.out _ _ _ t1 t2⟩
                  case measure => omega
                | false =>
                  have HP : Hid (rpicks L can out (i + 1) = o1) := Lib.hid (by rw [HSU.out, rpick_7n (by rw [← HD.out]; exact k7) (by rw [HPT.out.1]; exact hca.symm)])
                  clear hoi hca k7 k8
                  go_wp2_with fail
                  go_roundg (L.length - (i + 1))
                  case rel => exact ⟨i + 1, by omega, by simp, by rw [HP.out]; exact HAL.out _ _ _ HCI.out HBR.out⟩
                  case measure => omega
              · have HP : Hid (rpicks L can out (i + 1) = o1) := Lib.hid (by rw [HSU.out, rpick_o (by rw [← HD.out]; exact k8) (by rw [← HD.out]; exact k7)])
                have e8 : (d.k == 8) = false := by simpa using k8
                have e7 : (d.k == 7) = false := by simpa using k7
                clear hoi hca
                go_wp2_with fail
                go_roundg (L.length - (i + 1))
                case rel => exact ⟨i + 1, by omega, by simp, by rw [HP.out]; exact HAL.out _ _ _ HCI.out HBR.out⟩
                case measure => omega
        · obtain rfl : i = L.length := by omega
          have HE : Hid (Cz L gr capr lim go co w.heap.size w wr (rclose L k (r + 1))) := Lib.hid (by rw [HNX.out]; exact hci)
          clear hci hbr
          go_wp2_with fail
          go_roundg (L.length - (r + 1))
          case rel => exact ⟨r + 1, by omega, by simp, HE.out⟩
          case measure => omega
    · obtain rfl : r = L.length := by omega
      have HE : Hid (Ob wr go co (rclose L k L.length) ∧ Below w.heap.size w wr) := Lib.hid ⟨hcz.ob, hcz.bel⟩
      clear hcz
      go_wp2_with fail
      go_ret
      exact ⟨go, co, rfl, hwo, HE.out⟩
end Go.Proofs.YtlckajnbmkkpeaaDoor
