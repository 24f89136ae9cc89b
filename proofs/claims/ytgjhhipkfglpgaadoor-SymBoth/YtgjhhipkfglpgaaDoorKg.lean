/- Layer 11: the walks of passed, Seal, Open. -/
import Derived.Test.YtgjhhipkfglpgaaDoorKf
namespace Go.Proofs.YtgjhhipkfglpgaaDoor
open Go.RowKit

/-- A function's state: an arena made since w0, in a call that w began. -/
structure Fs (w0 w wi : World) (b g0 g bm cap lim : Nat) (L : List Nd) : Prop where
  st : St w0 wi b g bm cap lim L
  gr : g = g0 ∨ w.heap.size ≤ g
  kp : Kept w wi b g0 bm
  le : w0.heap.size ≤ w.heap.size
section
variable {w0 w wi w' : World} {b g0 g bm cap lim : Nat} {L : List Nd}
theorem Fs.keep (h : Fs w0 w wi b g0 g bm cap lim L) (hb : Below wi.heap.size wi w') : Fs w0 w w' b g0 g bm cap lim L := ⟨h.st.keep hb, h.gr, h.kp.more hb, h.le⟩
theorem Fs.step (h : Fs w0 w wi b g0 g bm cap lim L) {g' cap' : Nat} {M : List Nd} (hA : St w0 w' b g' bm cap' lim M) (hg : g' = g ∨ wi.heap.size ≤ g') (hk : Kept wi w' b g bm) : Fs w0 w w' b g0 g' bm cap' lim M :=
  ⟨hA, grow_two h.kp.size h.gr hg, Kept.two h.kp hk h.gr, h.le⟩
theorem Fs.farp (h : Fs w0 w wi b g0 g bm cap lim L) {p : Nat} {vs : Array Value} {T : TypeId} (hp : wi.heap[p]? = some (.cells vs T (0, 0))) (h1 : T ≠ 72) (h2 : T ≠ 53) : b ≠ p ∧ g ≠ p ∧ bm ≠ p := by
  obtain ⟨q1, q2, q3⟩ := h.st.ar.far hp h1 h2
  exact ⟨Ne.symm q1, Ne.symm q2, Ne.symm q3⟩
theorem Fs.setp (h : Fs w0 w wi b g0 g bm cap lim L) {p j : Nat} (hf : b ≠ p ∧ g ≠ p ∧ bm ≠ p) (hw : w.heap.size ≤ p) (u : Value) : Fs w0 w (wi.setCell ⟨p, j, none⟩ u) b g0 g bm cap lim L :=
  ⟨h.st.set5 hf (Nat.le_trans h.le hw) u, h.gr, h.kp.setAt hw u, h.le⟩
theorem Fs.post (h : Fs w0 w wi b g0 g bm cap lim L) {v v' : Value} {M : List Nd} (e : v' = v ∧ M = L) : StPost w0 b g0 bm lim M v' w (.returned v) wi := by
  obtain ⟨rfl, rfl⟩ := e
  exact ⟨g, cap, rfl, h.st, h.gr, h.kp⟩
end
theorem St.mixHash {w0 wi : World} {b g bm cap lim : Nat} {L : List Nd} (h : St w0 wi b g bm cap lim L) (hs : Shp w0) (s : Sf) (x : Int) (h1 : i64ok s.h) (h2 : i64ok x) : Calls Tryd.prog 11 #[syV s, .pointer (some ⟨b, 0, none⟩), .int .i64 x] wi (StPost w0 b g bm lim (mhL lim L s x) (.tuple #[syV (mhS lim L s x), .int .i64 (mhE lim L s x)]) wi) :=
  (mixHash_any b g bm cap lim L s x wi h.ar (h.shp hs) h1 h2).mono fun _ _ hp => hp.st h
theorem St.cseal {w0 wi : World} {b g bm cap lim : Nat} {L : List Nd} (h : St w0 wi b g bm cap lim L) (hs : Shp w0) (c : Cf) (ad p : Int) (hn : u64ok c.n) : Calls Tryd.prog 26 #[cfV c, .pointer (some ⟨b, 0, none⟩), .int .i64 ad, .int .i64 p] wi (StPost w0 b g bm lim (slL lim L c ad p) (.tuple #[cfV (slC lim L c ad p), .int .i64 (slR lim L c ad p), .int .i64 (slE lim L c ad p)]) wi) := by
  refine (seal_any b g bm cap lim L c ad p wi h.ar (h.shp hs) hn).mono ?_
  rintro e w' ⟨g', cap', rfl, hA, hg, hk⟩
  exact ⟨g', cap', rfl, h.step hA hg hk, hg, hk⟩
theorem slR_ok {lim : Nat} {L : List Nd} {c : Cf} {ad p : Int} (h : L.length ≤ lim) (hm : lim ≤ 65536) (hp : i64ok p) : i64ok (slR lim L c ad p) := by
  unfold slR
  split
  · split
    · exact mkR_ok h hm
    · exact hp
  · simp [i64ok]
set_option maxRecDepth 100000 in
set_option maxHeartbeats 4000000 in
theorem passed_any (w0 : World) (b g bm cap lim : Nat) (L : List Nd) (s : Sf) (c : Cf) (x r : Int) (w : World) (hA : St w0 w b g bm cap lim L) (hsh : Shp w0) (hs : i64ok s.h) (hx : i64ok x) :
    Calls Tryd.prog 27 #[syV s, .pointer (some ⟨b, 0, none⟩), cfV c, .int .i64 x, .int .i64 r] w (StPost w0 b g bm lim (mhL lim L ⟨s.ck, s.h, c⟩ x) (.tuple #[syV (mhS lim L ⟨s.ck, s.h, c⟩ x), .int .i64 (if mhE lim L ⟨s.ck, s.h, c⟩ x = 0 then r else 0), .int .i64 (mhE lim L ⟨s.ck, s.h, c⟩ x)]) w) := by
  have HF0 : Hid (Fs w0 w w b g g bm cap lim L) := Lib.hid ⟨hA, .inl rfl, Kept.of (Below.refl _ _), hA.bel.size⟩
  have HMH := Lib.hid (fun (wi : World) (g2 cap2 : Nat) (h : St w0 wi b g2 bm cap2 lim L) => h.mixHash hsh ⟨s.ck, s.h, c⟩ x hs hx)
  have HZ : Hid (mhE lim L ⟨s.ck, s.h, c⟩ x ≠ 0 → mhS lim L ⟨s.ck, s.h, c⟩ x = sZ) := Lib.hid mh_cases.2
  unfold syV at HMH
  clear hA hsh hs hx
  generalize mhL lim L ⟨s.ck, s.h, c⟩ x = M at *
  generalize mhE lim L ⟨s.ck, s.h, c⟩ x = er at *
  generalize mhS lim L ⟨s.ck, s.h, c⟩ x = S2 at *
  obtain ⟨rr, hrr⟩ : ∃ rr, rr = if er = 0 then r else 0 := ⟨_, rfl⟩
  rw [← hrr]
  have HRR : Hid ((er = 0 → rr = r) ∧ (er ≠ 0 → rr = 0)) := Lib.hid ⟨fun h => by rw [hrr, if_pos h], fun h => by rw [hrr, if_neg h]⟩
  clear hrr
  unfold syV cfV
  go_enter Tryd.func27, Tryd.ntmps27
  have HB1 : Hid (Below w.heap.size w (((w.alloc (.cells #[.int .i64 s.ck, .int .i64 s.h, .int .i64 c.k, .bool c.h, .int .u64 c.n] 35)).alloc (.cells #[.int .i64 c.k, .bool c.h, .int .u64 c.n] 33)).alloc (.cells #[.int .i64 0, .int .i64 0, .int .i64 0, .bool false, .int .u64 0] 35))) := Lib.hid ((((Below.refl _ _).alloc (Nat.le_refl _) _).alloc (by simp) _).alloc (by simp <;> omega) _)
  have HX2 : Hid ((((w.alloc (.cells #[.int .i64 s.ck, .int .i64 s.h, .int .i64 c.k, .bool c.h, .int .u64 c.n] 35)).alloc (.cells #[.int .i64 c.k, .bool c.h, .int .u64 c.n] 33)).alloc (.cells #[.int .i64 0, .int .i64 0, .int .i64 0, .bool false, .int .u64 0] 35)).heap[w.heap.size]? = some (.cells #[.int .i64 s.ck, .int .i64 s.h, .int .i64 c.k, .bool c.h, .int .u64 c.n] 35 (0, 0))) := Lib.hid (by rw [Below.heap_alloc _ _ _ (by simp <;> omega)]; rw [Below.heap_alloc _ _ _ (by simp <;> omega)]; have q := heap_alloc_new w (.cells #[.int .i64 s.ck, .int .i64 s.h, .int .i64 c.k, .bool c.h, .int .u64 c.n] 35); exact q)
  have HX3 : Hid ((((w.alloc (.cells #[.int .i64 s.ck, .int .i64 s.h, .int .i64 c.k, .bool c.h, .int .u64 c.n] 35)).alloc (.cells #[.int .i64 c.k, .bool c.h, .int .u64 c.n] 33)).alloc (.cells #[.int .i64 0, .int .i64 0, .int .i64 0, .bool false, .int .u64 0] 35)).heap[w.heap.size + 1]? = some (.cells #[.int .i64 c.k, .bool c.h, .int .u64 c.n] 33 (0, 0))) := Lib.hid (by rw [Below.heap_alloc _ _ _ (by simp <;> omega)]; have q := heap_alloc_new (w.alloc (.cells #[.int .i64 s.ck, .int .i64 s.h, .int .i64 c.k, .bool c.h, .int .u64 c.n] 35)) (.cells #[.int .i64 c.k, .bool c.h, .int .u64 c.n] 33); rwa [World.size_alloc] at q)
  have HX4 : Hid ((((w.alloc (.cells #[.int .i64 s.ck, .int .i64 s.h, .int .i64 c.k, .bool c.h, .int .u64 c.n] 35)).alloc (.cells #[.int .i64 c.k, .bool c.h, .int .u64 c.n] 33)).alloc (.cells #[.int .i64 0, .int .i64 0, .int .i64 0, .bool false, .int .u64 0] 35)).heap[w.heap.size + 1 + 1]? = some (.cells #[.int .i64 0, .int .i64 0, .int .i64 0, .bool false, .int .u64 0] 35 (0, 0))) := Lib.hid (by have q := heap_alloc_new ((w.alloc (.cells #[.int .i64 s.ck, .int .i64 s.h, .int .i64 c.k, .bool c.h, .int .u64 c.n] 35)).alloc (.cells #[.int .i64 c.k, .bool c.h, .int .u64 c.n] 33)) (.cells #[.int .i64 0, .int .i64 0, .int .i64 0, .bool false, .int .u64 0] 35); rwa [World.size_alloc, World.size_alloc] at q)
  have HF5 := Lib.hid (HF0.out.keep HB1.out)
  have HL6 : Hid (w.heap.size ≤ w.heap.size) := Lib.hid HF0.out.kp.size
  clear HF0 HB1
  go_wp2_with fail
  generalize (((w.alloc (.cells #[.int .i64 s.ck, .int .i64 s.h, .int .i64 c.k, .bool c.h, .int .u64 c.n] 35)).alloc (.cells #[.int .i64 c.k, .bool c.h, .int .u64 c.n] 33)).alloc (.cells #[.int .i64 0, .int .i64 0, .int .i64 0, .bool false, .int .u64 0] 35)) = W7 at *
  go_at_call 11
  refine (HMH.out _ _ _ HF5.out.st).mono ?_
  rintro e w3 ⟨g3, cap3, rfl, hA, hg, hk⟩
  have HX9 := Lib.hid (HF5.out.st.ar.boxKept hk HX2.out (by decide) (by decide))
  have HX10 := Lib.hid (HF5.out.st.ar.boxKept hk HX3.out (by decide) (by decide))
  have HX11 := Lib.hid (HF5.out.st.ar.boxKept hk HX4.out (by decide) (by decide))
  have HF12 := Lib.hid (HF5.out.step hA hg hk)
  clear HX2 HX3 HX4 HF5 hA hg hk HMH
  by_cases her : er = 0
  · have ca0 : w3.cell? ⟨w.heap.size, 0, none⟩ = some (.int .i64 s.ck) := (cell_of_row _ _ 0 _ _ _ HX9.out).trans rfl
    have ca1 : w3.cell? ⟨w.heap.size, 1, none⟩ = some (.int .i64 s.h) := (cell_of_row _ _ 1 _ _ _ HX9.out).trans rfl
    have ca2 : w3.cell? ⟨w.heap.size, 2, none⟩ = some (.int .i64 c.k) := (cell_of_row _ _ 2 _ _ _ HX9.out).trans rfl
    have ca3 : w3.cell? ⟨w.heap.size, 3, none⟩ = some (.bool c.h) := (cell_of_row _ _ 3 _ _ _ HX9.out).trans rfl
    have ca4 : w3.cell? ⟨w.heap.size, 4, none⟩ = some (.int .u64 c.n) := (cell_of_row _ _ 4 _ _ _ HX9.out).trans rfl
    have la := lt_of_heap HX9.out
    have fa : ∀ j, w3.frozen? ⟨w.heap.size, j, none⟩ = false := fun j => frozen_of_row _ _ _ _ _ HX9.out
    have cz0 : w3.cell? ⟨w.heap.size + 1 + 1, 0, none⟩ = some (.int .i64 0) := (cell_of_row _ _ 0 _ _ _ HX11.out).trans rfl
    have cz1 : w3.cell? ⟨w.heap.size + 1 + 1, 1, none⟩ = some (.int .i64 0) := (cell_of_row _ _ 1 _ _ _ HX11.out).trans rfl
    have cz2 : w3.cell? ⟨w.heap.size + 1 + 1, 2, none⟩ = some (.int .i64 0) := (cell_of_row _ _ 2 _ _ _ HX11.out).trans rfl
    have cz3 : w3.cell? ⟨w.heap.size + 1 + 1, 3, none⟩ = some (.bool false) := (cell_of_row _ _ 3 _ _ _ HX11.out).trans rfl
    have cz4 : w3.cell? ⟨w.heap.size + 1 + 1, 4, none⟩ = some (.int .u64 0) := (cell_of_row _ _ 4 _ _ _ HX11.out).trans rfl
    have lz := lt_of_heap HX11.out
    have fz : ∀ j, w3.frozen? ⟨w.heap.size + 1 + 1, j, none⟩ = false := fun j => frozen_of_row _ _ _ _ _ HX11.out
    have HR := Lib.hid (HRR.out.1 her)
    clear HRR HZ
    subst her
    go_wp2_with fail
    refine bodyPost_ret (v := .tuple #[.agg #[.int .i64 S2.ck, .int .i64 S2.h, .int .i64 S2.c.k, .bool S2.c.h, .int .u64 S2.c.n], .int .i64 r, .int .i64 0]) (by simp [results, Tryd.results27, go_sem, cz0, cz1, cz2, cz3, cz4]) rfl ?_
    have hf0 := HF12.out.farp HX9.out (by decide) (by decide)
    have hf1 := HF12.out.farp HX11.out (by decide) (by decide)
    exact ((((((((((HF12.out.setp hf0 (Nat.le_refl _) _).setp hf0 (Nat.le_refl _) _).setp hf0 (Nat.le_refl _) _).setp hf0 (Nat.le_refl _) _).setp hf0 (Nat.le_refl _) _).setp hf1 (by omega) _).setp hf1 (by omega) _).setp hf1 (by omega) _).setp hf1 (by omega) _).setp hf1 (by omega) _).post (by rw [HR.out]; exact ⟨rfl, rfl⟩)
  · have hne : (er != 0) = true := by simpa using her
    have HS := Lib.hid (HZ.out her)
    have HR := Lib.hid (HRR.out.2 her)
    clear HZ her HRR
    have ca0 : w3.cell? ⟨w.heap.size, 0, none⟩ = some (.int .i64 s.ck) := (cell_of_row _ _ 0 _ _ _ HX9.out).trans rfl
    have ca1 : w3.cell? ⟨w.heap.size, 1, none⟩ = some (.int .i64 s.h) := (cell_of_row _ _ 1 _ _ _ HX9.out).trans rfl
    have ca2 : w3.cell? ⟨w.heap.size, 2, none⟩ = some (.int .i64 c.k) := (cell_of_row _ _ 2 _ _ _ HX9.out).trans rfl
    have ca3 : w3.cell? ⟨w.heap.size, 3, none⟩ = some (.bool c.h) := (cell_of_row _ _ 3 _ _ _ HX9.out).trans rfl
    have ca4 : w3.cell? ⟨w.heap.size, 4, none⟩ = some (.int .u64 c.n) := (cell_of_row _ _ 4 _ _ _ HX9.out).trans rfl
    have la := lt_of_heap HX9.out
    have fa : ∀ j, w3.frozen? ⟨w.heap.size, j, none⟩ = false := fun j => frozen_of_row _ _ _ _ _ HX9.out
    have cz0 : w3.cell? ⟨w.heap.size + 1 + 1, 0, none⟩ = some (.int .i64 0) := (cell_of_row _ _ 0 _ _ _ HX11.out).trans rfl
    have cz1 : w3.cell? ⟨w.heap.size + 1 + 1, 1, none⟩ = some (.int .i64 0) := (cell_of_row _ _ 1 _ _ _ HX11.out).trans rfl
    have cz2 : w3.cell? ⟨w.heap.size + 1 + 1, 2, none⟩ = some (.int .i64 0) := (cell_of_row _ _ 2 _ _ _ HX11.out).trans rfl
    have cz3 : w3.cell? ⟨w.heap.size + 1 + 1, 3, none⟩ = some (.bool false) := (cell_of_row _ _ 3 _ _ _ HX11.out).trans rfl
    have cz4 : w3.cell? ⟨w.heap.size + 1 + 1, 4, none⟩ = some (.int .u64 0) := (cell_of_row _ _ 4 _ _ _ HX11.out).trans rfl
    have lz := lt_of_heap HX11.out
    have fz : ∀ j, w3.frozen? ⟨w.heap.size + 1 + 1, j, none⟩ = false := fun j => frozen_of_row _ _ _ _ _ HX11.out
    go_wp2_with fail
    refine bodyPost_ret (v := .tuple #[.agg #[.int .i64 0, .int .i64 0, .int .i64 0, .bool false, .int .u64 0], .int .i64 0, .int .i64 er]) (by simp [results, Tryd.results27, go_sem, cz0, cz1, cz2, cz3, cz4]) rfl ?_
    have hf0 := HF12.out.farp HX9.out (by decide) (by decide)
    have hf1 := HF12.out.farp HX11.out (by decide) (by decide)
    exact ((((((((((HF12.out.setp hf0 (Nat.le_refl _) _).setp hf0 (Nat.le_refl _) _).setp hf0 (Nat.le_refl _) _).setp hf0 (Nat.le_refl _) _).setp hf0 (Nat.le_refl _) _).setp hf1 (by omega) _).setp hf1 (by omega) _).setp hf1 (by omega) _).setp hf1 (by omega) _).setp hf1 (by omega) _).post (by rw [HS.out, HR.out]; exact ⟨rfl, rfl⟩)
set_option maxRecDepth 100000 in
set_option maxHeartbeats 4000000 in
theorem seal11_any (w0 : World) (b g bm cap lim : Nat) (L : List Nd) (s : Sf) (x : Int) (w : World) (hA : St w0 w b g bm cap lim L) (hsh : Shp w0) (hs : s.ok) (hx : i64ok x) :
    Calls Tryd.prog 14 #[syV s, .pointer (some ⟨b, 0, none⟩), .int .i64 x] w (StPost w0 b g bm lim (seL lim L s x) (.tuple #[syV (seS lim L s x), .int .i64 (seR lim L s x), .int .i64 (seE lim L s x)]) w) := by
  have HF0 : Hid (Fs w0 w w b g g bm cap lim L) := Lib.hid ⟨hA, .inl rfl, Kept.of (Below.refl _ _), hA.bel.size⟩
  have HEL : Hid (seL lim L s x = if slE lim L s.c s.h x = 0 then mhL lim (slL lim L s.c s.h x) ⟨s.ck, s.h, slC lim L s.c s.h x⟩ (slR lim L s.c s.h x) else (slL lim L s.c s.h x)) := Lib.hid rfl
  have HEE : Hid (seE lim L s x = if slE lim L s.c s.h x = 0 then mhE lim (slL lim L s.c s.h x) ⟨s.ck, s.h, slC lim L s.c s.h x⟩ (slR lim L s.c s.h x) else slE lim L s.c s.h x) := Lib.hid rfl
  have HES : Hid (seS lim L s x = if slE lim L s.c s.h x = 0 then mhS lim (slL lim L s.c s.h x) ⟨s.ck, s.h, slC lim L s.c s.h x⟩ (slR lim L s.c s.h x) else sZ) := Lib.hid rfl
  have HER : Hid (seR lim L s x = if seE lim L s x = 0 then slR lim L s.c s.h x else 0) := Lib.hid rfl
  have HXK : Hid (i64ok (slR lim L s.c s.h x)) := Lib.hid (slR_ok hA.ar.len hA.ar.max hx)
  have HCS := Lib.hid (fun (wi : World) (g2 cap2 : Nat) (h : St w0 wi b g2 bm cap2 lim L) => h.cseal hsh s.c s.h x hs.2.2.2)
  have HSH := Lib.hid hsh
  have HSO := Lib.hid hs.2.1
  unfold cfV at HCS
  clear hA hsh hs hx
  generalize slL lim L s.c s.h x = M at *
  generalize slR lim L s.c s.h x = r at *
  generalize slE lim L s.c s.h x = e1 at *
  generalize slC lim L s.c s.h x = c' at *
  have HPS := Lib.hid (fun (wi : World) (g2 cap2 : Nat) (h : St w0 wi b g2 bm cap2 lim M) => passed_any w0 b g2 bm cap2 lim M s c' r r wi h HSH.out HSO.out HXK.out)
  unfold syV cfV at HPS
  generalize mhL lim M ⟨s.ck, s.h, c'⟩ r = M2 at *
  generalize mhE lim M ⟨s.ck, s.h, c'⟩ r = e2 at *
  generalize mhS lim M ⟨s.ck, s.h, c'⟩ r = S2 at *
  obtain ⟨rr, hrr⟩ : ∃ rr, rr = if e2 = 0 then r else 0 := ⟨_, rfl⟩
  rw [← hrr] at HPS
  have HRR := Lib.hid hrr
  clear hrr
  generalize seL lim L s x = ML at *
  generalize seE lim L s x = eL at *
  generalize seS lim L s x = SL at *
  generalize seR lim L s x = rL at *
  unfold syV
  go_enter Tryd.func14, Tryd.ntmps14
  have HB1 : Hid (Below w.heap.size w ((w.alloc (.cells #[.int .i64 s.ck, .int .i64 s.h, .int .i64 s.c.k, .bool s.c.h, .int .u64 s.c.n] 35)).alloc (.cells #[.int .i64 0, .int .i64 0, .int .i64 0, .bool false, .int .u64 0] 35))) := Lib.hid (((Below.refl _ _).alloc (Nat.le_refl _) _).alloc (by simp) _)
  have HX2 : Hid (((w.alloc (.cells #[.int .i64 s.ck, .int .i64 s.h, .int .i64 s.c.k, .bool s.c.h, .int .u64 s.c.n] 35)).alloc (.cells #[.int .i64 0, .int .i64 0, .int .i64 0, .bool false, .int .u64 0] 35)).heap[w.heap.size]? = some (.cells #[.int .i64 s.ck, .int .i64 s.h, .int .i64 s.c.k, .bool s.c.h, .int .u64 s.c.n] 35 (0, 0))) := Lib.hid (by rw [Below.heap_alloc _ _ _ (by simp <;> omega)]; have q := heap_alloc_new w (.cells #[.int .i64 s.ck, .int .i64 s.h, .int .i64 s.c.k, .bool s.c.h, .int .u64 s.c.n] 35); exact q)
  have HX3 : Hid (((w.alloc (.cells #[.int .i64 s.ck, .int .i64 s.h, .int .i64 s.c.k, .bool s.c.h, .int .u64 s.c.n] 35)).alloc (.cells #[.int .i64 0, .int .i64 0, .int .i64 0, .bool false, .int .u64 0] 35)).heap[w.heap.size + 1]? = some (.cells #[.int .i64 0, .int .i64 0, .int .i64 0, .bool false, .int .u64 0] 35 (0, 0))) := Lib.hid (by have q := heap_alloc_new (w.alloc (.cells #[.int .i64 s.ck, .int .i64 s.h, .int .i64 s.c.k, .bool s.c.h, .int .u64 s.c.n] 35)) (.cells #[.int .i64 0, .int .i64 0, .int .i64 0, .bool false, .int .u64 0] 35); rwa [World.size_alloc] at q)
  have HF4 := Lib.hid (HF0.out.keep HB1.out)
  have HL5 : Hid (w.heap.size ≤ w.heap.size) := Lib.hid HF0.out.kp.size
  clear HF0 HB1
  go_wp2_with fail
  generalize ((w.alloc (.cells #[.int .i64 s.ck, .int .i64 s.h, .int .i64 s.c.k, .bool s.c.h, .int .u64 s.c.n] 35)).alloc (.cells #[.int .i64 0, .int .i64 0, .int .i64 0, .bool false, .int .u64 0] 35)) = W6 at *
  go_at_call 26
  refine (HCS.out _ _ _ HF4.out.st).mono ?_
  rintro e w3 ⟨g3, cap3, rfl, hA, hg, hk⟩
  have HX8 := Lib.hid (HF4.out.st.ar.boxKept hk HX2.out (by decide) (by decide))
  have HX9 := Lib.hid (HF4.out.st.ar.boxKept hk HX3.out (by decide) (by decide))
  have HF10 := Lib.hid (HF4.out.step hA hg hk)
  clear HX2 HX3 HF4 hA hg hk HCS
  by_cases her : e1 = 0
  · rw [if_pos her] at HEL HEE HES
    rw [HEE.out, ← HRR.out] at HER
    subst her
    have HB11 : Hid (Below w3.heap.size w3 (w3.alloc (.cells #[.int .i64 c'.k, .bool c'.h, .int .u64 c'.n] 33))) := Lib.hid ((Below.refl _ _).alloc (Nat.le_refl _) _)
    have ca0 : w3.cell? ⟨w.heap.size, 0, none⟩ = some (.int .i64 s.ck) := (cell_of_row _ _ 0 _ _ _ HX8.out).trans rfl
    have ca1 : w3.cell? ⟨w.heap.size, 1, none⟩ = some (.int .i64 s.h) := (cell_of_row _ _ 1 _ _ _ HX8.out).trans rfl
    have ca2 : w3.cell? ⟨w.heap.size, 2, none⟩ = some (.int .i64 s.c.k) := (cell_of_row _ _ 2 _ _ _ HX8.out).trans rfl
    have ca3 : w3.cell? ⟨w.heap.size, 3, none⟩ = some (.bool s.c.h) := (cell_of_row _ _ 3 _ _ _ HX8.out).trans rfl
    have ca4 : w3.cell? ⟨w.heap.size, 4, none⟩ = some (.int .u64 s.c.n) := (cell_of_row _ _ 4 _ _ _ HX8.out).trans rfl
    have la := lt_of_heap HX8.out
    have fa : ∀ j, w3.frozen? ⟨w.heap.size, j, none⟩ = false := fun j => frozen_of_row _ _ _ _ _ HX8.out
    have cz0 : w3.cell? ⟨w.heap.size + 1, 0, none⟩ = some (.int .i64 0) := (cell_of_row _ _ 0 _ _ _ HX9.out).trans rfl
    have cz1 : w3.cell? ⟨w.heap.size + 1, 1, none⟩ = some (.int .i64 0) := (cell_of_row _ _ 1 _ _ _ HX9.out).trans rfl
    have cz2 : w3.cell? ⟨w.heap.size + 1, 2, none⟩ = some (.int .i64 0) := (cell_of_row _ _ 2 _ _ _ HX9.out).trans rfl
    have cz3 : w3.cell? ⟨w.heap.size + 1, 3, none⟩ = some (.bool false) := (cell_of_row _ _ 3 _ _ _ HX9.out).trans rfl
    have cz4 : w3.cell? ⟨w.heap.size + 1, 4, none⟩ = some (.int .u64 0) := (cell_of_row _ _ 4 _ _ _ HX9.out).trans rfl
    have lz := lt_of_heap HX9.out
    have fz : ∀ j, w3.frozen? ⟨w.heap.size + 1, j, none⟩ = false := fun j => frozen_of_row _ _ _ _ _ HX9.out
    have HX12 := Lib.hid (below_box HB11.out HX8.out)
    have HX13 := Lib.hid (below_box HB11.out HX9.out)
    have HX14 : Hid ((w3.alloc (.cells #[.int .i64 c'.k, .bool c'.h, .int .u64 c'.n] 33)).heap[w3.heap.size]? = some (.cells #[.int .i64 c'.k, .bool c'.h, .int .u64 c'.n] 33 (0, 0))) := Lib.hid (by have q := heap_alloc_new w3 (.cells #[.int .i64 c'.k, .bool c'.h, .int .u64 c'.n] 33); exact q)
    have HF15 := Lib.hid (HF10.out.keep HB11.out)
    have HL16 : Hid (w.heap.size ≤ w3.heap.size) := Lib.hid HF10.out.kp.size
    clear HX8 HX9 HF10 HB11
    go_wp2_with fail
    clear ca0 ca1 ca2 ca3 ca4 la fa cz0 cz1 cz2 cz3 cz4 lz fz
    generalize (w3.alloc (.cells #[.int .i64 c'.k, .bool c'.h, .int .u64 c'.n] 33)) = W19 at *
    generalize w3.heap.size = p20 at *
    go_at_call 27
    refine (HPS.out _ _ _ HF15.out.st).mono ?_
    rintro e w5 ⟨g5, cap5, rfl, hA, hg, hk⟩
    have HX21 := Lib.hid (HF15.out.st.ar.boxKept hk HX12.out (by decide) (by decide))
    have HX22 := Lib.hid (HF15.out.st.ar.boxKept hk HX13.out (by decide) (by decide))
    have HX23 := Lib.hid (HF15.out.st.ar.boxKept hk HX14.out (by decide) (by decide))
    have HF24 := Lib.hid (HF15.out.step hA hg hk)
    clear HX12 HX13 HX14 HF15 hA hg hk HPS
    have cz0 : w5.cell? ⟨w.heap.size + 1, 0, none⟩ = some (.int .i64 0) := (cell_of_row _ _ 0 _ _ _ HX22.out).trans rfl
    have cz1 : w5.cell? ⟨w.heap.size + 1, 1, none⟩ = some (.int .i64 0) := (cell_of_row _ _ 1 _ _ _ HX22.out).trans rfl
    have cz2 : w5.cell? ⟨w.heap.size + 1, 2, none⟩ = some (.int .i64 0) := (cell_of_row _ _ 2 _ _ _ HX22.out).trans rfl
    have cz3 : w5.cell? ⟨w.heap.size + 1, 3, none⟩ = some (.bool false) := (cell_of_row _ _ 3 _ _ _ HX22.out).trans rfl
    have cz4 : w5.cell? ⟨w.heap.size + 1, 4, none⟩ = some (.int .u64 0) := (cell_of_row _ _ 4 _ _ _ HX22.out).trans rfl
    have lz := lt_of_heap HX22.out
    have fz : ∀ j, w5.frozen? ⟨w.heap.size + 1, j, none⟩ = false := fun j => frozen_of_row _ _ _ _ _ HX22.out
    go_wp2_with fail
    refine bodyPost_ret (v := .tuple #[.agg #[.int .i64 S2.ck, .int .i64 S2.h, .int .i64 S2.c.k, .bool S2.c.h, .int .u64 S2.c.n], .int .i64 rr, .int .i64 e2]) (by simp [results, Tryd.results14, go_sem, cz0, cz1, cz2, cz3, cz4]) rfl ?_
    have hf0 := HF24.out.farp HX22.out (by decide) (by decide)
    exact (((((HF24.out.setp hf0 (by omega) _).setp hf0 (by omega) _).setp hf0 (by omega) _).setp hf0 (by omega) _).setp hf0 (by omega) _).post (by rw [HEL.out, HEE.out, HES.out, HER.out]; exact ⟨rfl, rfl⟩)
  · rw [if_neg her] at HEL HEE HES
    rw [HEE.out, if_neg her] at HER
    have hne : (e1 != 0) = true := by simpa using her
    clear her
    have ca0 : w3.cell? ⟨w.heap.size, 0, none⟩ = some (.int .i64 s.ck) := (cell_of_row _ _ 0 _ _ _ HX8.out).trans rfl
    have ca1 : w3.cell? ⟨w.heap.size, 1, none⟩ = some (.int .i64 s.h) := (cell_of_row _ _ 1 _ _ _ HX8.out).trans rfl
    have ca2 : w3.cell? ⟨w.heap.size, 2, none⟩ = some (.int .i64 s.c.k) := (cell_of_row _ _ 2 _ _ _ HX8.out).trans rfl
    have ca3 : w3.cell? ⟨w.heap.size, 3, none⟩ = some (.bool s.c.h) := (cell_of_row _ _ 3 _ _ _ HX8.out).trans rfl
    have ca4 : w3.cell? ⟨w.heap.size, 4, none⟩ = some (.int .u64 s.c.n) := (cell_of_row _ _ 4 _ _ _ HX8.out).trans rfl
    have la := lt_of_heap HX8.out
    have fa : ∀ j, w3.frozen? ⟨w.heap.size, j, none⟩ = false := fun j => frozen_of_row _ _ _ _ _ HX8.out
    have cz0 : w3.cell? ⟨w.heap.size + 1, 0, none⟩ = some (.int .i64 0) := (cell_of_row _ _ 0 _ _ _ HX9.out).trans rfl
    have cz1 : w3.cell? ⟨w.heap.size + 1, 1, none⟩ = some (.int .i64 0) := (cell_of_row _ _ 1 _ _ _ HX9.out).trans rfl
    have cz2 : w3.cell? ⟨w.heap.size + 1, 2, none⟩ = some (.int .i64 0) := (cell_of_row _ _ 2 _ _ _ HX9.out).trans rfl
    have cz3 : w3.cell? ⟨w.heap.size + 1, 3, none⟩ = some (.bool false) := (cell_of_row _ _ 3 _ _ _ HX9.out).trans rfl
    have cz4 : w3.cell? ⟨w.heap.size + 1, 4, none⟩ = some (.int .u64 0) := (cell_of_row _ _ 4 _ _ _ HX9.out).trans rfl
    have lz := lt_of_heap HX9.out
    have fz : ∀ j, w3.frozen? ⟨w.heap.size + 1, j, none⟩ = false := fun j => frozen_of_row _ _ _ _ _ HX9.out
    go_wp2_with fail
    refine bodyPost_ret (v := .tuple #[.agg #[.int .i64 0, .int .i64 0, .int .i64 0, .bool false, .int .u64 0], .int .i64 0, .int .i64 e1]) (by simp [results, Tryd.results14, go_sem, cz0, cz1, cz2, cz3, cz4, lz]) rfl ?_
    have hf0 := HF10.out.farp HX9.out (by decide) (by decide)
    exact ((((((HF10.out.setp hf0 (by omega) _).setp hf0 (by omega) _).setp hf0 (by omega) _).setp hf0 (by omega) _).setp hf0 (by omega) _).keep ((Below.refl _ _).alloc (Nat.le_refl _) _)).post (by rw [HEL.out, HEE.out, HES.out, HER.out]; exact ⟨rfl, rfl⟩)
set_option maxRecDepth 100000 in
set_option maxHeartbeats 4000000 in
theorem open11_any (w0 : World) (b g bm cap lim : Nat) (L : List Nd) (s : Sf) (x : Int) (w : World) (hA : St w0 w b g bm cap lim L) (hsh : Shp w0) (hs : s.ok) (hx : i64ok x) :
    Calls Tryd.prog 15 #[syV s, .pointer (some ⟨b, 0, none⟩), .int .i64 x] w (StPost w0 b g bm lim (onL lim L s x) (.tuple #[syV (onS lim L s x), .int .i64 (onR lim L s x), .int .i64 (onE lim L s x)]) w) := by
  have HF0 : Hid (Fs w0 w w b g g bm cap lim L) := Lib.hid ⟨hA, .inl rfl, Kept.of (Below.refl _ _), hA.bel.size⟩
  have HEL : Hid (onL lim L s x = if opE L s.c s.h x = 0 then mhL lim L ⟨s.ck, s.h, opC L s.c s.h x⟩ x else L) := Lib.hid rfl
  have HEE : Hid (onE lim L s x = if opE L s.c s.h x = 0 then mhE lim L ⟨s.ck, s.h, opC L s.c s.h x⟩ x else opE L s.c s.h x) := Lib.hid rfl
  have HES : Hid (onS lim L s x = if opE L s.c s.h x = 0 then mhS lim L ⟨s.ck, s.h, opC L s.c s.h x⟩ x else sZ) := Lib.hid rfl
  have HER : Hid (onR lim L s x = if onE lim L s x = 0 then opR L s.c s.h x else 0) := Lib.hid rfl
  have HXK := Lib.hid hx
  have HCS := Lib.hid (fun (wi : World) (g2 cap2 : Nat) (h : St w0 wi b g2 bm cap2 lim L) => open_any b g2 bm cap2 lim L s.c s.h x wi h.ar hs.2.2.2)
  have HSH := Lib.hid hsh
  have HSO := Lib.hid hs.2.1
  unfold OpenPost cfV at HCS
  clear hA hsh hs hx
  generalize opR L s.c s.h x = r at *
  generalize opE L s.c s.h x = e1 at *
  generalize opC L s.c s.h x = c' at *
  have HPS := Lib.hid (fun (wi : World) (g2 cap2 : Nat) (h : St w0 wi b g2 bm cap2 lim L) => passed_any w0 b g2 bm cap2 lim L s c' x r wi h HSH.out HSO.out HXK.out)
  unfold syV cfV at HPS
  generalize mhL lim L ⟨s.ck, s.h, c'⟩ x = M2 at *
  generalize mhE lim L ⟨s.ck, s.h, c'⟩ x = e2 at *
  generalize mhS lim L ⟨s.ck, s.h, c'⟩ x = S2 at *
  obtain ⟨rr, hrr⟩ : ∃ rr, rr = if e2 = 0 then r else 0 := ⟨_, rfl⟩
  rw [← hrr] at HPS
  have HRR := Lib.hid hrr
  clear hrr
  generalize onL lim L s x = ML at *
  generalize onE lim L s x = eL at *
  generalize onS lim L s x = SL at *
  generalize onR lim L s x = rL at *
  unfold syV
  go_enter Tryd.func15, Tryd.ntmps15
  have HB1 : Hid (Below w.heap.size w ((w.alloc (.cells #[.int .i64 s.ck, .int .i64 s.h, .int .i64 s.c.k, .bool s.c.h, .int .u64 s.c.n] 35)).alloc (.cells #[.int .i64 0, .int .i64 0, .int .i64 0, .bool false, .int .u64 0] 35))) := Lib.hid (((Below.refl _ _).alloc (Nat.le_refl _) _).alloc (by simp) _)
  have HX2 : Hid (((w.alloc (.cells #[.int .i64 s.ck, .int .i64 s.h, .int .i64 s.c.k, .bool s.c.h, .int .u64 s.c.n] 35)).alloc (.cells #[.int .i64 0, .int .i64 0, .int .i64 0, .bool false, .int .u64 0] 35)).heap[w.heap.size]? = some (.cells #[.int .i64 s.ck, .int .i64 s.h, .int .i64 s.c.k, .bool s.c.h, .int .u64 s.c.n] 35 (0, 0))) := Lib.hid (by rw [Below.heap_alloc _ _ _ (by simp <;> omega)]; have q := heap_alloc_new w (.cells #[.int .i64 s.ck, .int .i64 s.h, .int .i64 s.c.k, .bool s.c.h, .int .u64 s.c.n] 35); exact q)
  have HX3 : Hid (((w.alloc (.cells #[.int .i64 s.ck, .int .i64 s.h, .int .i64 s.c.k, .bool s.c.h, .int .u64 s.c.n] 35)).alloc (.cells #[.int .i64 0, .int .i64 0, .int .i64 0, .bool false, .int .u64 0] 35)).heap[w.heap.size + 1]? = some (.cells #[.int .i64 0, .int .i64 0, .int .i64 0, .bool false, .int .u64 0] 35 (0, 0))) := Lib.hid (by have q := heap_alloc_new (w.alloc (.cells #[.int .i64 s.ck, .int .i64 s.h, .int .i64 s.c.k, .bool s.c.h, .int .u64 s.c.n] 35)) (.cells #[.int .i64 0, .int .i64 0, .int .i64 0, .bool false, .int .u64 0] 35); rwa [World.size_alloc] at q)
  have HF4 := Lib.hid (HF0.out.keep HB1.out)
  have HL5 : Hid (w.heap.size ≤ w.heap.size) := Lib.hid HF0.out.kp.size
  clear HF0 HB1
  go_wp2_with fail
  generalize ((w.alloc (.cells #[.int .i64 s.ck, .int .i64 s.h, .int .i64 s.c.k, .bool s.c.h, .int .u64 s.c.n] 35)).alloc (.cells #[.int .i64 0, .int .i64 0, .int .i64 0, .bool false, .int .u64 0] 35)) = W6 at *
  go_at_call 28
  refine (HCS.out _ _ _ HF4.out.st).mono ?_
  rintro e w3 ⟨rfl, hb⟩
  have HX8 := Lib.hid (below_box hb HX2.out)
  have HX9 := Lib.hid (below_box hb HX3.out)
  have HF10 := Lib.hid (HF4.out.keep hb)
  clear HX2 HX3 HF4 hb HCS
  by_cases her : e1 = 0
  · rw [if_pos her] at HEL HEE HES
    rw [HEE.out, ← HRR.out] at HER
    subst her
    have HB11 : Hid (Below w3.heap.size w3 (w3.alloc (.cells #[.int .i64 c'.k, .bool c'.h, .int .u64 c'.n] 33))) := Lib.hid ((Below.refl _ _).alloc (Nat.le_refl _) _)
    have ca0 : w3.cell? ⟨w.heap.size, 0, none⟩ = some (.int .i64 s.ck) := (cell_of_row _ _ 0 _ _ _ HX8.out).trans rfl
    have ca1 : w3.cell? ⟨w.heap.size, 1, none⟩ = some (.int .i64 s.h) := (cell_of_row _ _ 1 _ _ _ HX8.out).trans rfl
    have ca2 : w3.cell? ⟨w.heap.size, 2, none⟩ = some (.int .i64 s.c.k) := (cell_of_row _ _ 2 _ _ _ HX8.out).trans rfl
    have ca3 : w3.cell? ⟨w.heap.size, 3, none⟩ = some (.bool s.c.h) := (cell_of_row _ _ 3 _ _ _ HX8.out).trans rfl
    have ca4 : w3.cell? ⟨w.heap.size, 4, none⟩ = some (.int .u64 s.c.n) := (cell_of_row _ _ 4 _ _ _ HX8.out).trans rfl
    have la := lt_of_heap HX8.out
    have fa : ∀ j, w3.frozen? ⟨w.heap.size, j, none⟩ = false := fun j => frozen_of_row _ _ _ _ _ HX8.out
    have cz0 : w3.cell? ⟨w.heap.size + 1, 0, none⟩ = some (.int .i64 0) := (cell_of_row _ _ 0 _ _ _ HX9.out).trans rfl
    have cz1 : w3.cell? ⟨w.heap.size + 1, 1, none⟩ = some (.int .i64 0) := (cell_of_row _ _ 1 _ _ _ HX9.out).trans rfl
    have cz2 : w3.cell? ⟨w.heap.size + 1, 2, none⟩ = some (.int .i64 0) := (cell_of_row _ _ 2 _ _ _ HX9.out).trans rfl
    have cz3 : w3.cell? ⟨w.heap.size + 1, 3, none⟩ = some (.bool false) := (cell_of_row _ _ 3 _ _ _ HX9.out).trans rfl
    have cz4 : w3.cell? ⟨w.heap.size + 1, 4, none⟩ = some (.int .u64 0) := (cell_of_row _ _ 4 _ _ _ HX9.out).trans rfl
    have lz := lt_of_heap HX9.out
    have fz : ∀ j, w3.frozen? ⟨w.heap.size + 1, j, none⟩ = false := fun j => frozen_of_row _ _ _ _ _ HX9.out
    have HX12 := Lib.hid (below_box HB11.out HX8.out)
    have HX13 := Lib.hid (below_box HB11.out HX9.out)
    have HX14 : Hid ((w3.alloc (.cells #[.int .i64 c'.k, .bool c'.h, .int .u64 c'.n] 33)).heap[w3.heap.size]? = some (.cells #[.int .i64 c'.k, .bool c'.h, .int .u64 c'.n] 33 (0, 0))) := Lib.hid (by have q := heap_alloc_new w3 (.cells #[.int .i64 c'.k, .bool c'.h, .int .u64 c'.n] 33); exact q)
    have HF15 := Lib.hid (HF10.out.keep HB11.out)
    have HL16 : Hid (w.heap.size ≤ w3.heap.size) := Lib.hid HF10.out.kp.size
    clear HX8 HX9 HF10 HB11
    go_wp2_with fail
    clear ca0 ca1 ca2 ca3 ca4 la fa cz0 cz1 cz2 cz3 cz4 lz fz
    generalize (w3.alloc (.cells #[.int .i64 c'.k, .bool c'.h, .int .u64 c'.n] 33)) = W19 at *
    generalize w3.heap.size = p20 at *
    go_at_call 27
    refine (HPS.out _ _ _ HF15.out.st).mono ?_
    rintro e w5 ⟨g5, cap5, rfl, hA, hg, hk⟩
    have HX21 := Lib.hid (HF15.out.st.ar.boxKept hk HX12.out (by decide) (by decide))
    have HX22 := Lib.hid (HF15.out.st.ar.boxKept hk HX13.out (by decide) (by decide))
    have HX23 := Lib.hid (HF15.out.st.ar.boxKept hk HX14.out (by decide) (by decide))
    have HF24 := Lib.hid (HF15.out.step hA hg hk)
    clear HX12 HX13 HX14 HF15 hA hg hk HPS
    have cz0 : w5.cell? ⟨w.heap.size + 1, 0, none⟩ = some (.int .i64 0) := (cell_of_row _ _ 0 _ _ _ HX22.out).trans rfl
    have cz1 : w5.cell? ⟨w.heap.size + 1, 1, none⟩ = some (.int .i64 0) := (cell_of_row _ _ 1 _ _ _ HX22.out).trans rfl
    have cz2 : w5.cell? ⟨w.heap.size + 1, 2, none⟩ = some (.int .i64 0) := (cell_of_row _ _ 2 _ _ _ HX22.out).trans rfl
    have cz3 : w5.cell? ⟨w.heap.size + 1, 3, none⟩ = some (.bool false) := (cell_of_row _ _ 3 _ _ _ HX22.out).trans rfl
    have cz4 : w5.cell? ⟨w.heap.size + 1, 4, none⟩ = some (.int .u64 0) := (cell_of_row _ _ 4 _ _ _ HX22.out).trans rfl
    have lz := lt_of_heap HX22.out
    have fz : ∀ j, w5.frozen? ⟨w.heap.size + 1, j, none⟩ = false := fun j => frozen_of_row _ _ _ _ _ HX22.out
    go_wp2_with fail
    refine bodyPost_ret (v := .tuple #[.agg #[.int .i64 S2.ck, .int .i64 S2.h, .int .i64 S2.c.k, .bool S2.c.h, .int .u64 S2.c.n], .int .i64 rr, .int .i64 e2]) (by simp [results, Tryd.results15, go_sem, cz0, cz1, cz2, cz3, cz4]) rfl ?_
    have hf0 := HF24.out.farp HX22.out (by decide) (by decide)
    exact (((((HF24.out.setp hf0 (by omega) _).setp hf0 (by omega) _).setp hf0 (by omega) _).setp hf0 (by omega) _).setp hf0 (by omega) _).post (by rw [HEL.out, HEE.out, HES.out, HER.out]; exact ⟨rfl, rfl⟩)
  · rw [if_neg her] at HEL HEE HES
    rw [HEE.out, if_neg her] at HER
    have hne : (e1 != 0) = true := by simpa using her
    clear her
    have ca0 : w3.cell? ⟨w.heap.size, 0, none⟩ = some (.int .i64 s.ck) := (cell_of_row _ _ 0 _ _ _ HX8.out).trans rfl
    have ca1 : w3.cell? ⟨w.heap.size, 1, none⟩ = some (.int .i64 s.h) := (cell_of_row _ _ 1 _ _ _ HX8.out).trans rfl
    have ca2 : w3.cell? ⟨w.heap.size, 2, none⟩ = some (.int .i64 s.c.k) := (cell_of_row _ _ 2 _ _ _ HX8.out).trans rfl
    have ca3 : w3.cell? ⟨w.heap.size, 3, none⟩ = some (.bool s.c.h) := (cell_of_row _ _ 3 _ _ _ HX8.out).trans rfl
    have ca4 : w3.cell? ⟨w.heap.size, 4, none⟩ = some (.int .u64 s.c.n) := (cell_of_row _ _ 4 _ _ _ HX8.out).trans rfl
    have la := lt_of_heap HX8.out
    have fa : ∀ j, w3.frozen? ⟨w.heap.size, j, none⟩ = false := fun j => frozen_of_row _ _ _ _ _ HX8.out
    have cz0 : w3.cell? ⟨w.heap.size + 1, 0, none⟩ = some (.int .i64 0) := (cell_of_row _ _ 0 _ _ _ HX9.out).trans rfl
    have cz1 : w3.cell? ⟨w.heap.size + 1, 1, none⟩ = some (.int .i64 0) := (cell_of_row _ _ 1 _ _ _ HX9.out).trans rfl
    have cz2 : w3.cell? ⟨w.heap.size + 1, 2, none⟩ = some (.int .i64 0) := (cell_of_row _ _ 2 _ _ _ HX9.out).trans rfl
    have cz3 : w3.cell? ⟨w.heap.size + 1, 3, none⟩ = some (.bool false) := (cell_of_row _ _ 3 _ _ _ HX9.out).trans rfl
    have cz4 : w3.cell? ⟨w.heap.size + 1, 4, none⟩ = some (.int .u64 0) := (cell_of_row _ _ 4 _ _ _ HX9.out).trans rfl
    have lz := lt_of_heap HX9.out
    have fz : ∀ j, w3.frozen? ⟨w.heap.size + 1, j, none⟩ = false := fun j => frozen_of_row _ _ _ _ _ HX9.out
    go_wp2_with fail
    refine bodyPost_ret (v := .tuple #[.agg #[.int .i64 0, .int .i64 0, .int .i64 0, .bool false, .int .u64 0], .int .i64 0, .int .i64 e1]) (by simp [results, Tryd.results15, go_sem, cz0, cz1, cz2, cz3, cz4, lz]) rfl ?_
    have hf0 := HF10.out.farp HX9.out (by decide) (by decide)
    exact ((((((HF10.out.setp hf0 (by omega) _).setp hf0 (by omega) _).setp hf0 (by omega) _).setp hf0 (by omega) _).setp hf0 (by omega) _).keep ((Below.refl _ _).alloc (Nat.le_refl _) _)).post (by rw [HEL.out, HEE.out, HES.out, HER.out]; exact ⟨rfl, rfl⟩)
end Go.Proofs.YtgjhhipkfglpgaaDoor
