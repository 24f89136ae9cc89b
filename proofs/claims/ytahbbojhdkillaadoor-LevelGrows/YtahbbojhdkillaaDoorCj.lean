/- Layer 7: walks of the reference's Met, Told. -/
import Derived.Test.YtahbbojhdkillaaDoorCh
namespace Go.Proofs.YtahbbojhdkillaaDoor
open Go.RowKit Go.Shelf

/-- What was gone through when message i begins. -/
def upto (ms : List Ms) (msg at_ i : Nat) : List Tk := if i ≤ msg then flat (ms.take i) else ahd ms msg at_
def rowT (ms : List Ms) (i : Nat) (k : Nat) : List Tk := ((ms.getD i default).t.take k).map fun t => ((ms.getD i default).fr, t)
def nK (i msg at_ k : Nat) : Nat := if i < msg then k else min k at_
theorem rowT_next {ms : List Ms} {i k : Nat} (h : k < (ms.getD i default).t.length) : rowT ms i (k + 1) = rowT ms i k ++ [((ms.getD i default).fr, (ms.getD i default).t.getD k 0)] := by
  unfold rowT; rw [take_nextI h]; simp
theorem rowT_end {ms : List Ms} {i : Nat} (h : i < ms.length) : flat (ms.take i) ++ rowT ms i (ms.getD i default).t.length = flat (ms.take (i + 1)) := by
  unfold rowT; rw [flat_next h, List.take_length]
theorem pre_len {ms : List Ms} {i : Nat} (h : i < ms.length) (k : Nat) : (flat (ms.take i) ++ rowT ms i k).length ≤ (flat ms).length := by
  have e : flat ms = flat (ms.take i) ++ flat (ms.drop i) := by rw [← flat_app, List.take_append_drop]
  rw [e, drop_next h, flat_cons]
  simp only [List.length_append, rowT, List.length_map, List.length_take]
  omega
theorem met_len (who t : Int) (L : List Tk) : met who t L ≤ L.length := List.countP_le_length
theorem ahd_over {ms : List Ms} {msg at_ : Nat} (h : ms.length ≤ msg) : ahd ms msg at_ = flat ms := by
  unfold ahd
  rw [List.take_of_length_le h, List.getD_eq_getElem?_getD, List.getElem?_eq_none h]
  simp [default, Inhabited.default]
theorem upto_end (ms : List Ms) (msg at_ : Nat) : upto ms msg at_ ms.length = ahd ms msg at_ := by
  unfold upto
  split
  · rename_i h; rw [ahd_over h, List.take_length]
  · rfl
theorem upto_past {ms : List Ms} {msg at_ i : Nat} (h : ¬ i ≤ msg) : upto ms msg at_ i = ahd ms msg at_ := by unfold upto; rw [if_neg h]
theorem upto_in {ms : List Ms} {msg at_ i : Nat} (h : i ≤ msg) : upto ms msg at_ i = flat (ms.take i) := by unfold upto; rw [if_pos h]
theorem upto_row {ms : List Ms} {msg at_ i : Nat} (h : i ≤ msg) (hi : i < ms.length) : upto ms msg at_ (i + 1) = flat (ms.take i) ++ rowT ms i (nK i msg at_ (ms.getD i default).t.length) := by
  unfold nK
  by_cases hl : i < msg
  · rw [if_pos hl, rowT_end hi, upto_in (by omega)]
  · have : i = msg := by omega
    subst this
    rw [if_neg hl, upto_past (by omega)]
    unfold ahd rowT
    congr 2
    rcases Nat.le_total (ms.getD i default).t.length at_ with h1 | h1
    · rw [Nat.min_eq_left h1, List.take_length, List.take_of_length_le h1]
    · rw [Nat.min_eq_right h1]
theorem nK_next {i msg at_ k : Nat} (h : i < msg ∨ k < at_) : nK i msg at_ k = k ∧ nK i msg at_ (k + 1) = k + 1 := by
  unfold nK
  by_cases hl : i < msg
  · rw [if_pos hl, if_pos hl]; exact ⟨rfl, rfl⟩
  · rw [if_neg hl, if_neg hl]; omega
theorem nK_no {i msg at_ k : Nat} (h1 : ¬ i < msg) (h2 : ¬ k < at_) : nK i msg at_ (k + 1) = nK i msg at_ k := by
  unfold nK; rw [if_neg h1, if_neg h1]; omega

set_option maxRecDepth 100000 in
set_option maxHeartbeats 2000000 in
theorem met_any (x : Sl) (p : Pt) (who t : Int) (msg at_ : Nat) (w : World) (hp : PatA w x p) (hml : p.ms.length ≤ 65536) (htl : ∀ i, i < p.ms.length → (p.ms.getD i default).t.length ≤ 65536) (hfl : (flat p.ms).length ≤ 65536) (hat : at_ ≤ 65536) (hmg : msg ≤ 65536) :
    Calls Tryd.prog 45 #[patV x p, .int .i64 who, .int .i64 t, .int .i64 msg, .int .i64 at_] w fun e w' => e = .returned (.int .i64 (met who t (ahd p.ms msg at_))) ∧ Below w.heap.size w w' := by
  obtain ⟨s0, c0, s1, c1, s2, c2⟩ := x
  unfold patV
  have him := hp.im.keep ((Below.refl _ _).alloc (Nat.le_refl _) (.cells #[.string ⟨p.nm.toArray⟩, .slice s0 p.p0.length c0, .slice s1 p.p1.length c1, .slice s2 p.ms.length c2] 43))
  simp only at him ⊢
  obtain ⟨n, hn⟩ : ∃ n, n = p.ms.length := ⟨_, rfl⟩
  rw [← hn] at him hml ⊢
  have HN := Lib.hid hn
  have HW : Hid (Below w.heap.size w (w.alloc (.cells #[.string ⟨p.nm.toArray⟩, .slice s0 p.p0.length c0, .slice s1 p.p1.length c1, .slice s2 n c2] 43))) := Lib.hid ((Below.refl _ _).alloc (Nat.le_refl _) _)
  have hbx := heap_alloc_new w (.cells #[.string ⟨p.nm.toArray⟩, .slice s0 p.p0.length c0, .slice s1 p.p1.length c1, .slice s2 n c2] 43)
  have HTL := Lib.hid htl
  have HFL := Lib.hid hfl
  have hn65 : (n : Int) ≤ 65536 := by omega
  have hat65 : (at_ : Int) ≤ 65536 := by omega
  have hmg65 : (msg : Int) ≤ 65536 := by omega
  clear hn htl hfl hml hp hat hmg
  go_enter Tryd.func45, Tryd.ntmps45
  go_wp2_with fail
  generalize w.alloc (.cells #[.string ⟨p.nm.toArray⟩, .slice s0 p.p0.length c0, .slice s1 p.p1.length c1, .slice s2 n c2] 43) = W1 at *
  obtain ⟨b0, b1, b2, b3, -⟩ := box4c hbx
  have HIM := Lib.hid him
  clear hbx him
  go_loopg [11, 12] n (fun q u11 u12 wr => ∃ i c : Nat, i + q = n ∧ u11 = .int .i64 c ∧ u12 = .int .i64 i ∧ wr = W1 ∧ Aside (c = met who t (upto p.ms msg at_ i) ∧ i ≤ msg + 1))
  case atStart => exact ⟨0, 0, by omega, rfl, rfl, rfl, by unfold upto; rw [if_pos (by omega)]; exact ⟨rfl, by omega⟩⟩
  case round =>
    obtain ⟨i, c, hiq, rfl, rfl, rfl, hr⟩ := hrel
    have HR := Lib.hid hr.out
    clear hr
    by_cases hlt : i < n
    · have hi2 : (i : Int) < n := by omega
      by_cases hmi : i ≤ msg
      · have hm2 : (i : Int) ≤ msg := by omega
        have HIL : Hid (i < p.ms.length) := Lib.hid (by have := HN.out; omega)
        obtain ⟨g, o, rfl, hia⟩ := HIM.out (by have := HN.out; omega)
        obtain ⟨q0, sx, cx, q1, qi⟩ := hia i HIL.out
        clear hia
        have hml := HTL.out i HIL.out
        obtain ⟨m, hm⟩ : ∃ m, m = (p.ms.getD i default).t.length := ⟨_, rfl⟩
        obtain ⟨fr, hf⟩ : ∃ fr, fr = (p.ms.getD i default).fr := ⟨_, rfl⟩
        rw [← hf] at q0
        rw [← hm] at q1 hml
        have hm65 : (m : Int) ≤ 65536 := by omega
        have HM := Lib.hid hm
        have HF := Lib.hid hf
        have QI := Lib.hid qi
        have HRB := Lib.hid HR.out.2
        have HRC : Hid (c = met who t (flat (p.ms.take i) ++ rowT p.ms i (nK i msg at_ 0))) := Lib.hid (by
          have := HR.out.1
          rw [upto_in hmi] at this
          have e : rowT p.ms i (nK i msg at_ 0) = [] := by
            have : nK i msg at_ 0 = 0 := by unfold nK; split <;> omega
            rw [this]; rfl
          rw [e, List.append_nil]; exact this)
        have HMI := Lib.hid hmi
        clear hm hf qi hml hmi HR
        go_wp2_with fail
        go_loopg [11, 13] m (fun q u11 u13 wx => ∃ k d : Nat, k + q = m ∧ u11 = .int .i64 d ∧ u13 = .int .i64 k ∧ wx = wr ∧ Aside (d = met who t (flat (p.ms.take i) ++ rowT p.ms i (nK i msg at_ k))))
        case atStart => exact ⟨0, c, by omega, rfl, rfl, rfl, HRC.out⟩
        case round =>
          obtain ⟨k, d, hkq, rfl, rfl, rfl, hd⟩ := hrel
          have HD := Lib.hid hd.out
          clear hd
          have hd65 : (d : Int) ≤ 65536 := by
            have h1 := HD.out
            have h2 := met_len who t (flat (p.ms.take i) ++ rowT p.ms i (nK i msg at_ k))
            have h3 := pre_len HIL.out (nK i msg at_ k)
            have h4 := HFL.out
            omega
          by_cases hkl : k < m
          · have hk2 : (k : Int) < m := by omega
            obtain ⟨g2, o2, rfl, hk⟩ := QI.out (by have := HM.out; omega)
            have hx := hk k (by have := HM.out; omega)
            clear hk
            obtain ⟨x, hxx⟩ : ∃ x, x = (p.ms.getD i default).t.getD k 0 := ⟨_, rfl⟩
            rw [← hxx] at hx
            have HNX : Hid (rowT p.ms i (k + 1) = rowT p.ms i k ++ [(fr, x)]) := Lib.hid (by rw [rowT_next (by have := HM.out; omega), ← hxx, ← HF.out])
            clear hxx
            by_cases hA : i < msg
            · have hA2 : (i : Int) < msg := by omega
              have HC := Lib.hid (nK_next (i := i) (msg := msg) (at_ := at_) (k := k) (.inl hA))
              have HSS : Hid (met who t (flat (p.ms.take i) ++ rowT p.ms i (nK i msg at_ (k + 1))) = d + if hitB who t (fr, x) then 1 else 0) := Lib.hid (by rw [HC.out.2, HNX.out, ← List.append_assoc, met_add, met_one, HD.out, HC.out.1])
              by_cases hxt : x = t
              · have hxb : (x == t) = true := by simpa using hxt
                by_cases hw2 : who = 2
                · have HS : Hid (d + 1 = met who t (flat (p.ms.take i) ++ rowT p.ms i (nK i msg at_ (k + 1)))) := Lib.hid (by rw [HSS.out, if_pos (by simp [hitB, hxt, hw2])])
                  have hwb : (who == 2) = true := by simpa using hw2
                  clear hxt hw2
                  go_wp2_with fail
                  go_roundg (m - (k + 1))
                  case measure => omega
                  case rel => exact ⟨k + 1, d + 1, by omega, by go_num, by go_num, rfl, (show Aside _ from HS.out)⟩
                · have hwb : (who == 2) = false := by simpa using hw2
                  by_cases hfw : fr = who
                  · have HS : Hid (d + 1 = met who t (flat (p.ms.take i) ++ rowT p.ms i (nK i msg at_ (k + 1)))) := Lib.hid (by rw [HSS.out, if_pos (by simp [hitB, hxt, hfw])])
                    have hfb : (fr == who) = true := by simpa using hfw
                    clear hxt hw2 hfw
                    go_wp2_with fail
                    go_roundg (m - (k + 1))
                    case measure => omega
                    case rel => exact ⟨k + 1, d + 1, by omega, by go_num, by go_num, rfl, (show Aside _ from HS.out)⟩
                  · have HS : Hid (d = met who t (flat (p.ms.take i) ++ rowT p.ms i (nK i msg at_ (k + 1)))) := Lib.hid (by rw [HSS.out, if_neg (by simp [hitB, hw2, hfw])]; omega)
                    have hfb : (fr == who) = false := by simpa using hfw
                    clear hxt hw2 hfw
                    go_wp2_with fail
                    go_roundg (m - (k + 1))
                    case measure => omega
                    case rel => exact ⟨k + 1, d, by omega, rfl, by go_num, rfl, (show Aside _ from HS.out)⟩
              · have hxb : (x == t) = false := by simpa using hxt
                have HS : Hid (d = met who t (flat (p.ms.take i) ++ rowT p.ms i (nK i msg at_ (k + 1)))) := Lib.hid (by rw [HSS.out, if_neg (by simp [hitB, hxt])]; omega)
                clear hxt
                go_wp2_with fail
                go_roundg (m - (k + 1))
                case measure => omega
                case rel => exact ⟨k + 1, d, by omega, rfl, by go_num, rfl, (show Aside _ from HS.out)⟩
            · have hA2 : ¬ (i : Int) < msg := by omega
              by_cases hB : k < at_
              · have hB2 : (k : Int) < at_ := by omega
                have HC := Lib.hid (nK_next (i := i) (msg := msg) (at_ := at_) (k := k) (.inr hB))
                have HSS : Hid (met who t (flat (p.ms.take i) ++ rowT p.ms i (nK i msg at_ (k + 1))) = d + if hitB who t (fr, x) then 1 else 0) := Lib.hid (by rw [HC.out.2, HNX.out, ← List.append_assoc, met_add, met_one, HD.out, HC.out.1])
                by_cases hxt : x = t
                · have hxb : (x == t) = true := by simpa using hxt
                  by_cases hw2 : who = 2
                  · have HS : Hid (d + 1 = met who t (flat (p.ms.take i) ++ rowT p.ms i (nK i msg at_ (k + 1)))) := Lib.hid (by rw [HSS.out, if_pos (by simp [hitB, hxt, hw2])])
                    have hwb : (who == 2) = true := by simpa using hw2
                    clear hxt hw2
                    go_wp2_with fail
                    go_roundg (m - (k + 1))
                    case measure => omega
                    case rel => exact ⟨k + 1, d + 1, by omega, by go_num, by go_num, rfl, (show Aside _ from HS.out)⟩
                  · have hwb : (who == 2) = false := by simpa using hw2
                    by_cases hfw : fr = who
                    · have HS : Hid (d + 1 = met who t (flat (p.ms.take i) ++ rowT p.ms i (nK i msg at_ (k + 1)))) := Lib.hid (by rw [HSS.out, if_pos (by simp [hitB, hxt, hfw])])
                      have hfb : (fr == who) = true := by simpa using hfw
                      clear hxt hw2 hfw
                      go_wp2_with fail
                      go_roundg (m - (k + 1))
                      case measure => omega
                      case rel => exact ⟨k + 1, d + 1, by omega, by go_num, by go_num, rfl, (show Aside _ from HS.out)⟩
                    · have HS : Hid (d = met who t (flat (p.ms.take i) ++ rowT p.ms i (nK i msg at_ (k + 1)))) := Lib.hid (by rw [HSS.out, if_neg (by simp [hitB, hw2, hfw])]; omega)
                      have hfb : (fr == who) = false := by simpa using hfw
                      clear hxt hw2 hfw
                      go_wp2_with fail
                      go_roundg (m - (k + 1))
                      case measure => omega
                      case rel => exact ⟨k + 1, d, by omega, rfl, by go_num, rfl, (show Aside _ from HS.out)⟩
                · have hxb : (x == t) = false := by simpa using hxt
                  have HS : Hid (d = met who t (flat (p.ms.take i) ++ rowT p.ms i (nK i msg at_ (k + 1)))) := Lib.hid (by rw [HSS.out, if_neg (by simp [hitB, hxt])]; omega)
                  clear hxt
                  go_wp2_with fail
                  go_roundg (m - (k + 1))
                  case measure => omega
                  case rel => exact ⟨k + 1, d, by omega, rfl, by go_num, rfl, (show Aside _ from HS.out)⟩
              · have hB2 : ¬ (k : Int) < at_ := by omega
                have HS : Hid (d = met who t (flat (p.ms.take i) ++ rowT p.ms i (nK i msg at_ (k + 1)))) := Lib.hid (by rw [nK_no hA hB]; exact HD.out)
                go_wp2_with fail
                go_roundg (m - (k + 1))
                case measure => omega
                case rel => exact ⟨k + 1, d, by omega, rfl, by go_num, rfl, (show Aside _ from HS.out)⟩
          · have hk2 : ¬ (k : Int) < m := by omega
            have HE : Hid (d = met who t (upto p.ms msg at_ (i + 1))) := Lib.hid (by
              rw [upto_row HMI.out HIL.out, HD.out]
              have : k = (p.ms.getD i default).t.length := by have := HM.out; omega
              rw [this])
            go_wp2_with fail
            go_roundg (n - (i + 1))
            case measure => omega
            case rel => exact ⟨i + 1, d, by omega, rfl, by go_num, rfl, (show _ ∧ _ from ⟨HE.out, by have := HMI.out; omega⟩)⟩
      · have hm2 : ¬ (i : Int) ≤ msg := by omega
        have HE : Hid (c = met who t (ahd p.ms msg at_)) := Lib.hid (by rw [HR.out.1, upto_past hmi])
        go_wp2_with fail
        go_ret
        exact ⟨by rw [HE.out]; rfl, HW.out⟩
    · have hi2 : ¬ (i : Int) < n := by omega
      have HE : Hid (c = met who t (ahd p.ms msg at_)) := Lib.hid (by
        have : i = p.ms.length := by have := HN.out; omega
        rw [HR.out.1, this, upto_end])
      go_wp2_with fail
      go_ret
      exact ⟨by rw [HE.out]; rfl, HW.out⟩

set_option maxRecDepth 100000 in
set_option maxHeartbeats 2000000 in
theorem told_any (x : Sl) (p : Pt) (r t : Int) (hr : r = 0 ∨ r = 1) (msg at_ : Nat) (w : World) (hp : PatA w x p) (hl0 : p.p0.length ≤ 65536) (hl1 : p.p1.length ≤ 65536) (hml : p.ms.length ≤ 65536) (htl : ∀ i, i < p.ms.length → (p.ms.getD i default).t.length ≤ 65536) (hfl : (flat p.ms).length ≤ 65536) (hat : at_ ≤ 65536) (hmg : msg ≤ 65536) :
    Calls Tryd.prog 44 #[patV x p, .int .i64 r, .int .i64 t, .int .i64 msg, .int .i64 at_] w fun e w' => e = .returned (.bool (tld p r t (ahd p.ms msg at_))) ∧ Below w.heap.size w w' := by
  have HMT := Lib.hid (fun wx (hb : Below w.heap.size w wx) => met_any x p r t msg at_ wx (hp.keep hb) hml htl hfl hat hmg)
  obtain ⟨s0, c0, s1, c1, s2, c2⟩ := x
  have HB : Hid (Below w.heap.size w (w.alloc (.cells #[.string ⟨p.nm.toArray⟩, .slice s0 p.p0.length c0, .slice s1 p.p1.length c1, .slice s2 p.ms.length c2] 43))) := Lib.hid ((Below.refl _ _).alloc (Nat.le_refl _) _)
  have hbx := heap_alloc_new w (.cells #[.string ⟨p.nm.toArray⟩, .slice s0 p.p0.length c0, .slice s1 p.p1.length c1, .slice s2 p.ms.length c2] 43)
  have HI0 := Lib.hid (hp.i0.keep HB.out)
  have HI1 := Lib.hid (hp.i1.keep HB.out)
  unfold patV at HMT ⊢
  simp only at HMT HI0 HI1 ⊢
  generalize p.ms.length = n at HMT HI0 HI1 HB hbx ⊢
  obtain ⟨n0, hn0⟩ : ∃ n, n = p.p0.length := ⟨_, rfl⟩
  obtain ⟨n1, hn1⟩ : ∃ n, n = p.p1.length := ⟨_, rfl⟩
  rw [← hn0] at HMT HI0 HI1 HB hbx hl0 ⊢
  rw [← hn1] at HMT HI0 HI1 HB hbx hl1 ⊢
  have HN0 := Lib.hid hn0
  have HN1 := Lib.hid hn1
  have hz0 : (n0 : Int) ≤ 65536 := by omega
  have hz1 : (n1 : Int) ≤ 65536 := by omega
  obtain ⟨v, hv⟩ : ∃ v, v = met r t (ahd p.ms msg at_) := ⟨_, rfl⟩
  rw [← hv] at HMT
  have HT : Hid (tld p r t (ahd p.ms msg at_) = ((prw p r).contains t || decide ((v : Int) > 0))) := Lib.hid (by unfold tld; rw [← hv]; congr 1; rw [Bool.eq_iff_iff]; simp)
  clear hn0 hn1 hv hl0 hl1 hml htl hfl hat hmg hp
  rcases hr with rfl | rfl
  · have HP : Hid (prw p 0 = p.p0) := Lib.hid (by unfold prw; simp)
    go_enter Tryd.func44, Tryd.ntmps44
    go_wp2_with fail
    generalize w.alloc (.cells #[.string ⟨p.nm.toArray⟩, .slice s0 n0 c0, .slice s1 n1 c1, .slice s2 n c2] 43) = W1 at *
    obtain ⟨b0, b1, b2, b3, -⟩ := box4c hbx
    clear hbx
    go_loopg [11] n0 (fun q u wr => ∃ i : Nat, i + q = n0 ∧ u = .int .i64 i ∧ wr = W1 ∧ Aside (∀ j, j < i → p.p0.getD j 0 ≠ t))
    case atStart => exact ⟨0, by omega, rfl, rfl, fun j h => by omega⟩
    case round =>
      obtain ⟨i, hiq, rfl, rfl, hno⟩ := hrel
      have HNO := Lib.hid hno.out; clear hno
      by_cases hlt : i < n0
      · obtain ⟨g, o, rfl, hia⟩ := HI0.out (by have := HN0.out; omega)
        have hx := hia i (by have := HN0.out; omega)
        clear hia
        obtain ⟨x, hxx⟩ : ∃ x, x = p.p0.getD i 0 := ⟨_, rfl⟩
        rw [← hxx] at hx
        have HX := Lib.hid hxx; clear hxx
        have hi2 : (i : Int) < n0 := by omega
        by_cases he : x = t
        · have HE : Hid (tld p 0 t (ahd p.ms msg at_) = true) := Lib.hid (by rw [HT.out, HP.out, contains_at (i := i) (by have := HN0.out; omega) (he.symm.trans HX.out)]; rfl)
          have hb : (x == t) = true := by simpa using he
          clear he
          go_wp2_with fail
          go_ret
          exact ⟨by rw [HE.out]; rfl, HB.out⟩
        · have HE := Lib.hid he
          have hb : (x == t) = false := by simpa using he
          clear he
          go_wp2_with fail
          go_roundg (n0 - (i + 1))
          case measure => omega
          case rel => exact ⟨i + 1, by omega, by go_num, rfl, (show Aside _ from fun j hj => by
            by_cases e : j = i
            · subst e; intro e2; exact HE.out (by rw [HX.out]; exact e2)
            · exact HNO.out j (by omega))⟩
      · have hi2 : ¬ (i : Int) < n0 := by omega
        have HE : Hid (tld p 0 t (ahd p.ms msg at_) = decide ((v : Int) > 0)) := Lib.hid (by
          rw [HT.out, HP.out, contains_no (fun j hj => HNO.out j (by have := HN0.out; omega))]; simp)
        go_wp2_with (go_at_call 45; refine (HMT.out _ HB.out).mono ?_; rintro e w1 ⟨rfl, hb1⟩; have HB1 := Lib.hid (HB.out.trans (hb1.mono HB.out.size)); clear hb1)
        go_ret
        exact ⟨by rw [HE.out]; simp, HB1.out⟩
  · have HP : Hid (prw p 1 = p.p1) := Lib.hid (by unfold prw; simp)
    go_enter Tryd.func44, Tryd.ntmps44
    go_wp2_with fail
    generalize w.alloc (.cells #[.string ⟨p.nm.toArray⟩, .slice s0 n0 c0, .slice s1 n1 c1, .slice s2 n c2] 43) = W1 at *
    obtain ⟨b0, b1, b2, b3, -⟩ := box4c hbx
    clear hbx
    go_loopg [11] n1 (fun q u wr => ∃ i : Nat, i + q = n1 ∧ u = .int .i64 i ∧ wr = W1 ∧ Aside (∀ j, j < i → p.p1.getD j 0 ≠ t))
    case atStart => exact ⟨0, by omega, rfl, rfl, fun j h => by omega⟩
    case round =>
      obtain ⟨i, hiq, rfl, rfl, hno⟩ := hrel
      have HNO := Lib.hid hno.out; clear hno
      by_cases hlt : i < n1
      · obtain ⟨g, o, rfl, hia⟩ := HI1.out (by have := HN1.out; omega)
        have hx := hia i (by have := HN1.out; omega)
        clear hia
        obtain ⟨x, hxx⟩ : ∃ x, x = p.p1.getD i 0 := ⟨_, rfl⟩
        rw [← hxx] at hx
        have HX := Lib.hid hxx; clear hxx
        have hi2 : (i : Int) < n1 := by omega
        by_cases he : x = t
        · have HE : Hid (tld p 1 t (ahd p.ms msg at_) = true) := Lib.hid (by rw [HT.out, HP.out, contains_at (i := i) (by have := HN1.out; omega) (he.symm.trans HX.out)]; rfl)
          have hb : (x == t) = true := by simpa using he
          clear he
          go_wp2_with fail
          go_ret
          exact ⟨by rw [HE.out]; rfl, HB.out⟩
        · have HE := Lib.hid he
          have hb : (x == t) = false := by simpa using he
          clear he
          go_wp2_with fail
          go_roundg (n1 - (i + 1))
          case measure => omega
          case rel => exact ⟨i + 1, by omega, by go_num, rfl, (show Aside _ from fun j hj => by
            by_cases e : j = i
            · subst e; intro e2; exact HE.out (by rw [HX.out]; exact e2)
            · exact HNO.out j (by omega))⟩
      · have hi2 : ¬ (i : Int) < n1 := by omega
        have HE : Hid (tld p 1 t (ahd p.ms msg at_) = decide ((v : Int) > 0)) := Lib.hid (by
          rw [HT.out, HP.out, contains_no (fun j hj => HNO.out j (by have := HN1.out; omega))]; simp)
        go_wp2_with (go_at_call 45; refine (HMT.out _ HB.out).mono ?_; rintro e w1 ⟨rfl, hb1⟩; have HB1 := Lib.hid (HB.out.trans (hb1.mono HB.out.size)); clear hb1)
        go_ret
        exact ⟨by rw [HE.out]; simp, HB1.out⟩
end Go.Proofs.YtahbbojhdkillaaDoor
