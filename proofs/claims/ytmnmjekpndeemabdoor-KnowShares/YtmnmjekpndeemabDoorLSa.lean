/- The walk of KnowShares: what the attacker's own name shares with a secret. -/
import Derived.Test.YtmnmjekpndeemabDoorYg
import Derived.Test.YtmnmjekpndeemabDoorQl
namespace Go.Proofs.YtmnmjekpndeemabDoor
open Go.RowKit Go.Maps

theorem sn_name (L : List Nd) (n : Int) : right L ⟨1, n, 0, 0, 0⟩ = true := by
  rw [right_iff]; exact ⟨by simp [many], by simp [partsOk, partOk, many], by simp [numOk], by simp [lastOk]⟩
theorem sn_ne {d x : Nd} {L : List Nd} (h : x ≠ d) : ix d (x :: L) = (ix d L).map (· + 1) := by rw [ix, if_neg h]
theorem sn_k {x y : Nd} (h : x.k ≠ y.k) : x ≠ y := fun e => h (by rw [e])
theorem sn_n {x y : Nd} (h : x.n ≠ y.n) : x ≠ y := fun e => h (by rw [e])
def s2L (n : Int) : List Nd := [zN, ⟨1, n, 0, 0, 0⟩]
def s3L (n m : Int) : List Nd := [zN, ⟨1, n, 0, 0, 0⟩, ⟨1, m, 0, 0, 0⟩]
def s4L (n m : Int) : List Nd := [zN, ⟨1, n, 0, 0, 0⟩, ⟨1, m, 0, 0, 0⟩, ⟨2, 0, 1, 0, 0⟩]
def s5L (n m : Int) : List Nd := [zN, ⟨1, n, 0, 0, 0⟩, ⟨1, m, 0, 0, 0⟩, ⟨2, 0, 1, 0, 0⟩, ⟨3, 0, 1, 2, 0⟩]
theorem s_mk1 (n : Int) : mkL 20 [zN] ⟨1, n, 0, 0, 0⟩ = s2L n ∧ mkR 20 [zN] ⟨1, n, 0, 0, 0⟩ = 1 ∧ mkE 20 [zN] ⟨1, n, 0, 0, 0⟩ = 0 := mk_new (sn_name _ _) (by rw [sn_ne (sn_k (by simp [zN]))]; rfl) (by simp)
theorem s_mk2 {n m : Int} (h : n < m) : mkL 20 (s2L n) ⟨1, m, 0, 0, 0⟩ = s3L n m ∧ mkR 20 (s2L n) ⟨1, m, 0, 0, 0⟩ = 2 ∧ mkE 20 (s2L n) ⟨1, m, 0, 0, 0⟩ = 0 := mk_new (sn_name _ _) (by unfold s2L; rw [sn_ne (sn_k (by simp [zN])), sn_ne (sn_n (by simp; omega))]; rfl) (by simp [s2L])
theorem s_mk3 (n m : Int) : mkL 20 (s3L n m) ⟨2, 0, 1, 0, 0⟩ = s4L n m ∧ mkR 20 (s3L n m) ⟨2, 0, 1, 0, 0⟩ = 3 ∧ mkE 20 (s3L n m) ⟨2, 0, 1, 0, 0⟩ = 0 := mk_new (by rw [right_iff]; exact ⟨by simp [many], by simp [partsOk, partOk, many, s3L, hasB], by simp [numOk], by simp [lastOk]⟩) (by unfold s3L; rw [sn_ne (sn_k (by simp [zN])), sn_ne (sn_k (by simp)), sn_ne (sn_k (by simp))]; rfl) (by simp [s3L])
theorem s_cmp {n m : Int} (h : n < m) : cmp (s4L n m) 2 1 = 1 := by
  have e : top (nd (s4L n m) 2) (nd (s4L n m) 1) = 1 := by
    show orZ [cmpZ 1 1, cmpZ m n] = 1
    rw [cmpZ_eq, cmpZ_gt h]; rfl
  rw [cmp_top (by decide) (by rfl) (by rw [e]; decide), e]
theorem s_shN {n m : Int} (h : n < m) : shN (s4L n m) 2 3 = ⟨3, 0, 1, 2, 0⟩ := by
  unfold shN
  rw [show nd (s4L n m) 3 = ⟨2, 0, 1, 0, 0⟩ from rfl]
  simp [s_cmp h]
theorem s_sh {n m : Int} (h : n < m) (hw : WF (s4L n m)) : shL 20 (s4L n m) 2 3 = s5L n m ∧ shR 20 (s4L n m) 2 3 = 4 ∧ shE 20 (s4L n m) 2 3 = 0 := by
  have hb : both (s4L n m) 2 3 = true := rfl
  have hr := shN_right hw hb
  rw [s_shN h] at hr
  have hm := mk_new (lim := 20) hr (by unfold s4L; rw [sn_ne (sn_k (by simp [zN])), sn_ne (sn_k (by simp)), sn_ne (sn_k (by simp)), sn_ne (sn_k (by simp))]; rfl) (by simp [s4L])
  unfold shL shR shE
  rw [if_pos hb, if_pos hb, if_pos hb, s_shN h]
  exact hm
theorem s_has {n m : Int} {r : Int} (h : hasB (s5L n m).length r = true) : r = 0 ∨ r = 1 ∨ r = 2 ∨ r = 3 ∨ r = 4 := by
  have := hasB_iff.1 h
  simp [s5L] at this
  omega
theorem s_shut (n m : Int) (S : Int → Prop) : Shut (s5L n m) S := by
  intro r hr _
  rcases s_has hr with rfl | rfl | rfl | rfl | rfl <;> exact ⟨fun h => absurd (show (_ : Int) = 8 from h) (by simp [nd, s5L, zN]), fun h => absurd (show (_ : Int) = 7 from h) (by simp [nd, s5L, zN])⟩
theorem s_cl {n m : Int} {K : Int → Prop} {r : Int} : cl (s5L n m) K r ↔ K r := ⟨fun h => cl_least (s_shut n m K) (fun _ h => h) h, cl_in⟩
theorem s_can1 {n m : Int} (hn : n < 4294967296) {K : Int → Prop} : Can (s5L n m) K 1 ↔ K 1 := ⟨can_name (L := s5L n m) (r := 1) rfl hn, fun h => .known rfl h⟩
theorem s_can2 {n m : Int} (hm : 4294967296 ≤ m) (K : Int → Prop) : Can (s5L n m) K 2 := .own rfl rfl hm
theorem s_can3 {n m : Int} (hw : WF (s5L n m)) (hn : n < 4294967296) {K : Int → Prop} : Can (s5L n m) K 3 ↔ K 3 ∨ K 1 := by
  constructor
  · intro h
    rcases can_pub hw (p := 3) (x := 1) rfl h with e | e
    · exact .inl e
    · exact .inr ((s_can1 hn).1 e)
  · rintro (h | h)
    · exact .known rfl h
    · exact .parts (r := 3) rfl (by show ¬ (2 : Int) = 0; decide) (by show ¬ (2 : Int) = 1; decide) (by show ¬ (2 : Int) = 3; decide) (by show ¬ (2 : Int) = 9; decide) ((s_can1 hn).2 h) (can_zero hw K) (can_zero hw K)
theorem s_can4 {n m : Int} (hw : WF (s5L n m)) (hn : n < 4294967296) (hm : 4294967296 ≤ m) {K : Int → Prop} (h4 : ¬ K 4) : Can (s5L n m) K 4 ↔ K 3 ∨ K 1 := by
  have one : ∀ {p : Int}, hasB (s5L n m).length p = true → nd (s5L n m) p = ⟨2, 0, 1, 0, 0⟩ → p = 3 := fun hp hn => by
    rcases s_has hp with rfl | rfl | rfl | rfl | rfl
    · exact absurd (congrArg Nd.k hn) (by show ¬ (0 : Int) = 2; decide)
    · exact absurd (congrArg Nd.k hn) (by show ¬ (1 : Int) = 2; decide)
    · exact absurd (congrArg Nd.k hn) (by show ¬ (1 : Int) = 2; decide)
    · rfl
    · exact absurd (congrArg Nd.k hn) (by show ¬ (3 : Int) = 2; decide)
  constructor
  · intro h
    cases h with
    | known _ h => exact absurd h h4
    | free _ h => exact absurd h (by show ¬ ((3 : Int) = 0 ∨ (3 : Int) = 9); decide)
    | own _ h => exact absurd h (by show ¬ (3 : Int) = 1; decide)
    | dh _ _ ha _ => exact .inr ((s_can1 hn).1 ha)
    | dhA _ _ ha _ _ _ => exact .inr ((s_can1 hn).1 ha)
    | dhB _ _ _ hp hpk hpn => exact .inl (one hp hpn ▸ hpk)
    | parts _ _ _ h => exact absurd rfl h
  · rintro (h | h)
    · exact .dhB (r := 4) (p := 3) rfl rfl (s_can2 hm K) rfl h rfl
    · exact .dh (r := 4) rfl rfl ((s_can1 hn).2 h) (s_can2 hm K)

/-- What is known behind what is heard, and had. -/
def sK (hears has : Bool) (y : Int) : Prop := (hears = true ∧ y = 3) ∨ (has = true ∧ y = 1)
theorem sK_n (hears has : Bool) : ¬ sK hears has 4 := by unfold sK; simp
end Go.Proofs.YtmnmjekpndeemabDoor
