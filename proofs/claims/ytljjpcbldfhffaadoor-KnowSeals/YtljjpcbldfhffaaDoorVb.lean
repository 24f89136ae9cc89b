/- Layer 3 in plain mathematics: the search as a machine; it ends, and finds what can be made. No program is named. -/
import Derived.Test.YtljjpcbldfhffaaDoorVa
namespace Go.Proofs.YtljjpcbldfhffaaDoor

inductive Thn
  | reach (r : Int)
  | learn (r : Int)
abbrev Clo := Thn × List Int
/-- What is known, and what was asked: whether it can be made, and what waits for it. -/
structure Sx where
  K : Int → Bool
  A : Int → Option (Bool × List Clo)
def Sx.put (s : Sx) (r : Int) (x : Bool × List Clo) : Sx := ⟨s.K, fun y => if y = r then some x else s.A y⟩
def Sx.know (s : Sx) (r : Int) : Sx := ⟨fun y => if y = r then true else s.K y, s.A⟩
def Sx.der (s : Sx) (r : Int) : Bool := match s.A r with
  | some (b, _) => b
  | none => false
def Sx.ws (s : Sx) (r : Int) : List Clo := match s.A r with
  | some (_, l) => l
  | none => []
def Sx.wait (s : Sx) (r : Int) (c : Clo) : Sx := s.put r (s.der r, s.ws r ++ [c])
inductive Op
  | ask (r : Int)
  | compose (r : Int)
  | when_ (t : Thn) (rs : List Int)
  | thn (t : Thn)
  | reach (r : Int)
  | learn (r : Int)

def whenR (ask : Int → Sx → Sx → Prop) (fin : Sx → Sx → Prop) (t : Thn) : List Int → Sx → Sx → Prop
  | [], s, s' => fin s s'
  | r :: rs, s, s' => ∃ s1, ask r s s1 ∧ (if s1.der r = true then whenR ask fin t rs s1 s' else s' = s1.wait r (t, rs))
def allR (f : Clo → Sx → Sx → Prop) : List Clo → Sx → Sx → Prop
  | [], s, s' => s' = s
  | c :: l, s, s' => ∃ s1, f c s s1 ∧ allR f l s1 s'
/-- How the machine goes, by depth. -/
def Run (L : List Nd) : Nat → Op → Sx → Sx → Prop
  | 0, _, _, _ => False
  | n + 1, .ask r, s, s' => match s.A r with
    | some _ => s' = s
    | none => if s.K r = true then s' = s.put r (true, []) else if hasB L.length r = true then Run L n (.compose r) (s.put r (false, [])) s' else s' = s.put r (false, [])
  | n + 1, .compose r, s, s' =>
    if (nd L r).k = 0 ∨ (nd L r).k = 9 then Run L n (.reach r) s s'
    else if (nd L r).k = 1 then (if 4294967296 ≤ (nd L r).n then Run L n (.reach r) s s' else s' = s)
    else if (nd L r).k = 3 then ∃ s1, Run L n (.when_ (.reach r) [(nd L r).a, pubR L (nd L r).b]) s s1 ∧ Run L n (.when_ (.reach r) [(nd L r).b, pubR L (nd L r).a]) s1 s'
    else Run L n (.when_ (.reach r) [(nd L r).a, (nd L r).b, (nd L r).c]) s s'
  | n + 1, .when_ t rs, s, s' => whenR (fun r => Run L n (.ask r)) (Run L n (.thn t)) t rs s s'
  | n + 1, .thn (.reach r), s, s' => Run L n (.reach r) s s'
  | n + 1, .thn (.learn r), s, s' => Run L n (.learn r) s s'
  | n + 1, .reach r, s, s' => match s.A r with
    | none => False
    | some (true, _) => s' = s
    | some (false, ws) => allR (fun c => Run L n (.when_ c.1 c.2)) ws (s.put r (true, ws)) s'
  | n + 1, .learn r, s, s' => if s.K r = true then s' = s else ∃ s1 s2, Run L n (.ask r) (s.know r) s1 ∧ Run L n (.reach r) s1 s2 ∧
    (if (nd L r).k = 8 then ∃ s3, Run L n (.learn (nd L r).a) s2 s3 ∧ Run L n (.learn (nd L r).b) s3 s'
     else if (nd L r).k = 7 then Run L n (.when_ (.learn (nd L r).c) [(nd L r).a]) s2 s' else s' = s2)

theorem whenR_mono {a a' : Int → Sx → Sx → Prop} {f f' : Sx → Sx → Prop} {t : Thn} (ha : ∀ r s s', a r s s' → a' r s s') (hf : ∀ s s', f s s' → f' s s') : ∀ (rs : List Int) (s s' : Sx), whenR a f t rs s s' → whenR a' f' t rs s s'
  | [], s, s', h => hf _ _ h
  | r :: rs, s, s', ⟨s1, h1, h2⟩ => ⟨s1, ha _ _ _ h1, by
    split at h2
    · rename_i e; rw [if_pos e]; exact whenR_mono ha hf rs _ _ h2
    · rename_i e; rw [if_neg e]; exact h2⟩
theorem allR_mono {f f' : Clo → Sx → Sx → Prop} (hf : ∀ c s s', f c s s' → f' c s s') : ∀ (l : List Clo) (s s' : Sx), allR f l s s' → allR f' l s s'
  | [], _, _, h => h
  | _ :: l, _, _, ⟨s1, h1, h2⟩ => ⟨s1, hf _ _ _ h1, allR_mono hf l _ _ h2⟩
theorem Run.succ {L : List Nd} : ∀ {n : Nat} {o : Op} {s s' : Sx}, Run L n o s s' → Run L (n + 1) o s s'
  | 0, _, _, _, h => h.elim
  | n + 1, .ask r, s, s', h => by
    unfold Run at h ⊢
    split
    · rename_i e; rw [e] at h; exact h
    · rename_i e
      rw [e] at h
      simp only at h
      split at h
      · rename_i e; rw [if_pos e]; exact h
      · rename_i e
        rw [if_neg e]
        split at h
        · rename_i e; rw [if_pos e]; exact Run.succ h
        · rename_i e; rw [if_neg e]; exact h
  | n + 1, .compose r, s, s', h => by
    unfold Run at h ⊢
    split at h
    · rename_i e; rw [if_pos e]; exact Run.succ h
    · rename_i e
      rw [if_neg e]
      split at h
      · rename_i e
        rw [if_pos e]
        split at h
        · rename_i e; rw [if_pos e]; exact Run.succ h
        · rename_i e; rw [if_neg e]; exact h
      · rename_i e
        rw [if_neg e]
        split at h
        · rename_i e
          rw [if_pos e]
          obtain ⟨s1, h1, h2⟩ := h
          exact ⟨s1, Run.succ h1, Run.succ h2⟩
        · rename_i e; rw [if_neg e]; exact Run.succ h
  | n + 1, .when_ t rs, s, s', h => by
    unfold Run at h ⊢
    exact whenR_mono (fun r s s' h => Run.succ h) (fun s s' h => Run.succ h) _ _ _ h
  | n + 1, .thn (.reach r), s, s', h => by unfold Run at h ⊢; exact Run.succ h
  | n + 1, .thn (.learn r), s, s', h => by unfold Run at h ⊢; exact Run.succ h
  | n + 1, .reach r, s, s', h => by
    unfold Run at h ⊢
    split
    · rename_i e; rw [e] at h; exact h
    · rename_i e; rw [e] at h; exact h
    · rename_i e; rw [e] at h; exact allR_mono (fun c s s' h => Run.succ h) _ _ _ h
  | n + 1, .learn r, s, s', h => by
    unfold Run at h ⊢
    split at h
    · rename_i e; rw [if_pos e]; exact h
    · rename_i e
      rw [if_neg e]
      obtain ⟨s1, s2, h1, h2, h3⟩ := h
      refine ⟨s1, s2, Run.succ h1, Run.succ h2, ?_⟩
      split at h3
      · rename_i e
        rw [if_pos e]
        obtain ⟨s3, h4, h5⟩ := h3
        exact ⟨s3, Run.succ h4, Run.succ h5⟩
      · rename_i e
        rw [if_neg e]
        split at h3
        · rename_i e; rw [if_pos e]; exact Run.succ h3
        · rename_i e; rw [if_neg e]; exact h3
theorem Run.mono {L : List Nd} {n m : Nat} (hm : n ≤ m) {o : Op} {s s' : Sx} (h : Run L n o s s') : Run L m o s s' := by
  induction m with
  | zero => obtain rfl : n = 0 := by omega
            exact h
  | succ m ih =>
    rcases Nat.lt_or_ge n (m + 1) with e | e
    · exact (ih (by omega)).succ
    · obtain rfl : n = m + 1 := by omega
      exact h
/-- The machine goes, at some depth. -/
def Goes (L : List Nd) (o : Op) (s s' : Sx) : Prop := ∃ n, Run L n o s s'
theorem goes_when {L : List Nd} {t : Thn} : ∀ {rs : List Int} {s s' : Sx}, whenR (fun r => Goes L (.ask r)) (Goes L (.thn t)) t rs s s' → Goes L (.when_ t rs) s s'
  | [], s, s', ⟨n, h⟩ => ⟨n + 1, h⟩
  | r :: rs, s, s', ⟨s1, ⟨n, h1⟩, h2⟩ => by
    by_cases e : s1.der r = true
    · rw [if_pos e] at h2
      obtain ⟨m, h3⟩ := goes_when h2
      cases m with
      | zero => exact h3.elim
      | succ m =>
        refine ⟨(n + m) + 1, s1, Run.mono (by omega) h1, ?_⟩
        rw [if_pos e]
        exact whenR_mono (fun r s s' h => Run.mono (by omega) h) (fun s s' h => Run.mono (by omega) h) _ _ _ h3
    · rw [if_neg e] at h2
      exact ⟨n + 1, s1, h1, by rw [if_neg e]; exact h2⟩
theorem all_goes {L : List Nd} : ∀ {l : List Clo} {s s' : Sx}, allR (fun c => Goes L (.when_ c.1 c.2)) l s s' → ∃ n, allR (fun c => Run L n (.when_ c.1 c.2)) l s s'
  | [], _, _, h => ⟨0, h⟩
  | c :: l, s, s', ⟨s1, ⟨n, h1⟩, h2⟩ => by
    obtain ⟨m, h3⟩ := all_goes h2
    exact ⟨n + m, s1, Run.mono (by omega) h1, allR_mono (fun c s s' h => Run.mono (by omega) h) _ _ _ h3⟩
end Go.Proofs.YtljjpcbldfhffaaDoor
