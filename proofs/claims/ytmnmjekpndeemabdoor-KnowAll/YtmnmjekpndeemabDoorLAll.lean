/- The walk of KnowAll: who learns all names can make all. -/
import Derived.Test.YtmnmjekpndeemabDoorYg
namespace Go.Proofs.YtmnmjekpndeemabDoor
open Go.RowKit Go.Maps

/-- Where all names are known, all can be made. -/
theorem can_all {L : List Nd} (hL : WF L) {K : Int → Prop} (hK : ∀ x, hasB L.length x = true → (nd L x).k = 1 → K x) : ∀ (n : Nat) (r : Int), r.toNat < n → hasB L.length r = true → Can L K r
  | 0, _, h, _ => absurd h (by omega)
  | n + 1, r, hn, hr => by
    obtain ⟨h0, h1⟩ := hasB_iff.1 hr
    obtain ⟨pa, pb, pc⟩ := nd_has hL hr
    have hin := hL.nd_parts h0 h1
    have part : ∀ p, inAt p r.toNat → hasB L.length p = true → Can L K p := fun p hp hb => by
      rcases hp.2 with e | e
      · exact can_all hL hK n p (by have := hp.1; omega) hb
      · rw [e]; exact can_zero hL K
    by_cases k0 : (nd L r).k = 0 ∨ (nd L r).k = 9
    · exact .free hr k0
    · by_cases k1 : (nd L r).k = 1
      · exact .known hr (hK r hr k1)
      · by_cases k3 : (nd L r).k = 3
        · exact .dh hr k3 (part _ hin.1 pa) (part _ hin.2.1 pb)
        · exact .parts hr (fun e => k0 (.inl e)) k1 k3 (fun e => k0 (.inr e)) (part _ hin.1 pa) (part _ hin.2.1 pb) (part _ hin.2.2 pc)

set_option maxRecDepth 100000 in
set_option maxHeartbeats 1000000 in
theorem all_long (s : Option Addr) (n c : Nat) (hn : 30 < n) (_hm : n ≤ maxLen) (w : World) (hs : Shp w) : Calls Tryd.prog 4 #[.slice s n c] w fun e w' => e = .returned (.bool true) ∧ Below w.heap.size w w' := by
  have HA := Lib.hid (awake_any w hs)
  clear hs
  have hn' : (30 : Int) < (n : Int) := by omega
  go_enter Tryd.func4, Tryd.ntmps4
  go_wp2_with (go_at_call 6; refine HA.out.mono ?_; rintro e w1 ⟨rfl, hb1⟩)
  go_ret
  exact ⟨rfl, hb1⟩

set_option maxRecDepth 100000 in
set_option maxHeartbeats 8000000 in
theorem all_good (s : Option Addr) (c : Nat) (ns : List Nd) (hn : ns.length ≤ 30) (w : World) (hs : Shp w) (hB : BuiltAt w (.slice s ns.length c) ns) : Calls Tryd.prog 4 #[.slice s ns.length c] w fun e w' => e = .returned (.bool true) ∧ Below w.heap.size w w' := by
  obtain ⟨L, HBu⟩ : ∃ L : List Nd, Hid (Calls Tryd.prog 11 #[.int .i64 100, .slice s ns.length c] w fun e w' => ∃ b g bm cap gr capr, e = .returned (.tuple #[.pointer (some ⟨b, 0, none⟩), .agg #[.int .i64 100, .slice (some ⟨gr, 0, none⟩) L.length capr], .bool true]) ∧ Pair w w' b g bm cap gr capr 100 L) := ⟨bld 100 ns, Lib.hid (hB 100 100 (by decide) w (Below.refl _ _))⟩
  have HAw := Lib.hid (fun w1 (h : Below w.heap.size w w1) => awake_any w1 (hs.below h))
  clear hs hB
  have hn' : (ns.length : Int) ≤ 30 := by omega
  go_enter Tryd.func4, Tryd.ntmps4
  go_wp2_with (first
    | (go_at_call 11; refine HBu.out.mono ?_; rintro e w1 ⟨b, g, bm, cap, gr, capr, rfl, hP⟩)
    | (go_at_call 12; refine (ky_new hP).mono ?_; rintro e w2 ⟨bk, mk, rfl, hK2⟩; have z1 := hK2.z1; have HK2 := Lib.hid hK2; clear hK2))
  have hL100 : L.length ≤ 100 := HK2.out.len
  clear hP z1
  generalize w1.heap.size = pb at *
  go_loopg [7, 8, 29] L.length (fun q _ _ u29 wr => ∃ k : Nat, k + q = L.length ∧ u29 = .int .i64 k ∧ ∃ hv hs K, Ky w wr pb gr capr bk b g bm cap 100 L mk hv hs K ∧ hs.length ≤ k ∧ ∀ j : Nat, j < k → (nd L j).k = 1 → K j = true)
  case atStart => exact ⟨0, by omega, rfl, _, _, _, HK2.out, by simp, fun j hj => by omega⟩
  case round =>
    obtain ⟨k, hkq, rfl, hv, hs, K, hKy, hhs, hKn⟩ := hrel
    by_cases hlt : k < L.length
    · obtain ⟨ri0, ri1, ri2, ri3, ri4⟩ := hKy.row k hlt
      have hhas : hasB L.length (k : Int) = true := hasB_iff.2 ⟨by omega, by omega⟩
      have hgr : gr < wr.heap.size := hKy.ag.lt
      obtain ⟨d, hd⟩ : ∃ d, d = L.getD k zN := ⟨_, rfl⟩
      have hnd : nd L (k : Int) = d := by rw [hd]; rfl
      rw [← hd] at ri0 ri1 ri2 ri3 ri4
      have hlt' : (k : Int) < L.length := by omega
      have HKY := Lib.hid hKy
      have HKN := Lib.hid hKn
      have HND := Lib.hid hnd
      have HHA := Lib.hid hhas
      clear hKy hKn hd hnd hhas
      by_cases k1 : d.k = 1
      · have HLE : Hid (∀ w1, Below wr.heap.size wr w1 → Calls Tryd.prog 13 #[.pointer (some ⟨bk, 0, none⟩), .int .i64 (k : Int)] w1 (LPost w1 bk b g bm cap 100 L mk hv hs K (k : Int))) := Lib.hid (fun w1 hb => learn_any (HKY.out.keep hb).kx.kn (by omega) _ HHA.out)
        rw [k1] at ri0
        go_wp2_with (go_at_call 13; refine (HLE.out _ ((Below.refl _ _).alloc (Nat.le_refl _) _)).mono ?_; rintro e w3 ⟨hv3, K3, rfl, hN3, hC3, hL3⟩)
        go_roundg (L.length - (k + 1))
        case rel =>
          refine ⟨k + 1, by omega, by simp, hv3, hs ++ [(k : Int)], K3, (HKY.out.keep ((Below.refl _ _).alloc (Nat.le_refl _) _)).learn hN3 hL3, by simp; omega, fun j hj h1 => ?_⟩
          refine (hC3 _).2 (cl_in ?_)
          rcases Nat.lt_or_ge j k with e | e
          · exact .inl (HKN.out j e h1)
          · exact .inr (by omega)
        case measure => omega
      · go_wp2_with fail
        go_roundg (L.length - (k + 1))
        case rel =>
          refine ⟨k + 1, by omega, by simp, hv, hs, K, HKY.out.keep ((Below.refl _ _).alloc (Nat.le_refl _) _), by omega, fun j hj h1 => ?_⟩
          rcases Nat.lt_or_ge j k with e | e
          · exact HKN.out j e h1
          · obtain rfl : j = k := by omega
            rw [HND.out] at h1
            exact absurd h1 k1
        case measure => omega
    · obtain rfl : k = L.length := by omega
      have HKY := Lib.hid hKy
      have z1 := hKy.z1
      have HAL : Hid (∀ r, hasB L.length r = true → Can L (fun x => K x = true) r) := Lib.hid (fun r hr => can_all HKY.out.wf (fun x hx h1 => by
        obtain ⟨x0, x1⟩ := hasB_iff.1 hx
        obtain ⟨j, rfl⟩ : ∃ j : Nat, x = j := ⟨x.toNat, by omega⟩
        exact hKn j (by omega) h1) _ r (Nat.lt_succ_self _) hr)
      clear hKy hKn
      go_wp2_with fail
      go_loopg [9, 44] L.length (fun q _ u44 wv => ∃ k : Nat, k + q = L.length ∧ u44 = .int .i64 k ∧ Ky w wv pb gr capr bk b g bm cap 100 L mk hv hs K)
      case atStart => exact ⟨0, by omega, rfl, HKY.out⟩
      case round =>
        obtain ⟨k, hkq2, rfl, hKy⟩ := hrel
        by_cases hlt2 : k < L.length
        · have hhas : hasB L.length (k : Int) = true := hasB_iff.2 ⟨by omega, by omega⟩
          have HKZ := Lib.hid hKy
          have HCA := Lib.hid (can_any hKy.wf hKy.kx.kn (k : Int) hhas)
          have HTR := Lib.hid (HAL.out _ hhas)
          clear hKy hhas z1
          have hlt' : (k : Int) < L.length := by omega
          go_wp2_with (go_at_call 8; refine HCA.out.mono ?_; rintro e w4 ⟨d4, rfl, hd4, hN4, hP4⟩; have hd4' : d4 = true := hd4.2 HTR.out; subst hd4'; clear hd4)
          go_roundg (L.length - (k + 1))
          case rel => exact ⟨k + 1, by omega, by simp, HKZ.out.can hN4 hP4⟩
          case measure => omega
        · obtain rfl : k = L.length := by omega
          have HKZ := Lib.hid hKy
          have HA4 := Lib.hid (HAw.out _ hKy.kx.st.bel)
          clear hKy
          go_wp2_with (go_at_call 6; refine HA4.out.mono ?_; rintro e w5 ⟨rfl, hb5⟩)
          go_ret
          exact ⟨rfl, (HKZ.out.keep hb5).kx.st.bel⟩
end Go.Proofs.YtmnmjekpndeemabDoor
