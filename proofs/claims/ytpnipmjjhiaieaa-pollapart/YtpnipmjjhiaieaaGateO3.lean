/-
  Contracts of package gate, over this seat's translation, all numbers as variables; the law's 'alive'.
-/
import Derived.Test.YtpnipmjjhiaieaaGateO2
namespace Go.Proofs.Ytpnipmjjhiaieaa
open Go.RowKit Go.Lib
set_option linter.unusedVariables false
section
variable {w w' : World} {b oo : Nat} {g : Gt}

theorem gtell_any (H : GAt w b oo g) (hm : 0 ≤ g.md ∧ g.md ≤ 2) (g' : Gt) (h m : Int) (e : tells g = (g', h, m)) : Calls Try.prog 47 #[.pointer (some ⟨b, oo, none⟩)] w fun e w' => e = .returned (.tuple #[.int .u64 h, .int .i64 m]) ∧ GAt w' b oo g' ∧ OnlyG b oo w w' := by
  unfold tells at e
  by_cases h0 : g.md = 0
  · rw [if_pos h0] at e
    by_cases ht : bits .and .i64 g.rd g.wt = 0
    · rw [if_pos ht] at e
      cases e
      have := gtell_level H h0 0 ht
      simpa using this
    · rw [if_neg ht] at e
      cases e
      have := gtell_level H h0 _ rfl
      rw [if_neg ht] at this
      exact this
  · rw [if_neg h0] at e
    by_cases ht : g.td = 0
    · rw [if_pos ht] at e
      cases e
      exact gtell_none H h0 ht
    · rw [if_neg ht] at e
      by_cases h1 : g.md = 1
      · rw [if_pos h1] at e
        cases e
        exact gtell_edge H h1 ht
      · rw [if_neg h1] at e
        cases e
        exact gtell_once H (by omega) ht

theorem gopen_v {r l h x m t : Int} (H : GAt w b oo ⟨false, r, l, h, x, m, t⟩) : Calls Try.prog 28 #[.pointer (some ⟨b, oo, none⟩)] w fun e w' => e = .returned (.bool true) ∧ GAt w' b oo ⟨true, 0, 0, 0, 0, 0, 0⟩ ∧ OnlyG b oo w w' := gopen_ok H rfl
theorem gopen_n {r l h x m t : Int} (H : GAt w b oo ⟨true, r, l, h, x, m, t⟩) : Calls Try.prog 28 #[.pointer (some ⟨b, oo, none⟩)] w fun e w' => e = .returned (.bool false) ∧ GAt w' b oo ⟨true, r, l, h, x, m, t⟩ ∧ OnlyG b oo w w' :=
  (gopen_no H rfl).mono fun e w' ⟨h1, h2⟩ => by subst h2; exact ⟨h1, H, OnlyG.refl ..⟩
theorem gwatch_v {r l h x m t : Int} (H : GAt w b oo ⟨true, r, l, h, x, m, t⟩) (h' x' m' t' : Int) (hx : 1 ≤ x' ∧ x' ≤ 7) (hm : 0 ≤ m' ∧ m' ≤ 2) (e : bits .and .i64 r x' = t') :
    Calls Try.prog 43 #[.pointer (some ⟨b, oo, none⟩), .int .u64 h', .int .i64 x', .int .i64 m'] w fun e w' => e = .returned (.bool true) ∧ GAt w' b oo ⟨true, r, l, h', x', m', t'⟩ ∧ OnlyG b oo w w' := by
  subst e; exact gwatch_ok H h' x' m' rfl hx hm
theorem gmeet_v {r l h x m t : Int} (H : GAt w b oo ⟨true, r, l, h, x, m, t⟩) (c r' t' : Int) (e1 : bits .or .i64 r (bits .and .i64 c 7) = r') (e2 : bits .or .i64 t (bits .and .i64 c x) = t') :
    Calls Try.prog 39 #[.pointer (some ⟨b, oo, none⟩), .int .i64 c] w fun e w' => e = .returned (.tuple #[]) ∧ GAt w' b oo ⟨true, r', l, h, x, m, t'⟩ ∧ OnlyG b oo w w' := by
  subst e1; subst e2; exact gmeet_on H c rfl
theorem gkeep_v {r l h x m t : Int} (H : GAt w b oo ⟨true, r, l, h, x, m, t⟩) (c l' : Int) (e1 : bits .or .i64 l (bits .and .i64 c 7) = l') :
    Calls Try.prog 36 #[.pointer (some ⟨b, oo, none⟩), .int .i64 c] w fun e w' => e = .returned (.tuple #[]) ∧ GAt w' b oo ⟨true, r, l', h, x, m, t⟩ ∧ OnlyG b oo w w' := by
  subst e1; exact gkeep_on H c rfl
theorem gkeep_n {r l h x m t : Int} (H : GAt w b oo ⟨false, r, l, h, x, m, t⟩) (c : Int) :
    Calls Try.prog 36 #[.pointer (some ⟨b, oo, none⟩), .int .i64 c] w fun e w' => e = .returned (.tuple #[]) ∧ GAt w' b oo ⟨false, r, l, h, x, m, t⟩ ∧ OnlyG b oo w w' :=
  (gkeep_off H c rfl).mono fun e w' ⟨h1, h2⟩ => by subst h2; exact ⟨h1, H, OnlyG.refl ..⟩
theorem gmeet_n {r l h x m t : Int} (H : GAt w b oo ⟨false, r, l, h, x, m, t⟩) (c : Int) :
    Calls Try.prog 39 #[.pointer (some ⟨b, oo, none⟩), .int .i64 c] w fun e w' => e = .returned (.tuple #[]) ∧ GAt w' b oo ⟨false, r, l, h, x, m, t⟩ ∧ OnlyG b oo w w' :=
  (gmeet_off H c rfl).mono fun e w' ⟨h1, h2⟩ => by subst h2; exact ⟨h1, H, OnlyG.refl ..⟩
theorem gflush_v {r l h x m t : Int} (H : GAt w b oo ⟨true, r, l, h, x, m, t⟩) (r' t' : Int) (e1 : bits .or .i64 r (bits .and .i64 l 7) = r') (e2 : bits .or .i64 t (bits .and .i64 l x) = t') :
    Calls Try.prog 40 #[.pointer (some ⟨b, oo, none⟩)] w fun e w' => e = .returned (.tuple #[]) ∧ GAt w' b oo ⟨true, r', 0, h, x, m, t'⟩ ∧ OnlyG b oo w w' := by
  subst e1; subst e2; exact gflush_on H rfl
theorem gack_v {o : Bool} {r l h x m t : Int} (H : GAt w b oo ⟨o, r, l, h, x, m, t⟩) (c a r' : Int) (e1 : bits .and .i64 r c = a) (e2 : bits .andNot .i64 r c = r') :
    Calls Try.prog 49 #[.pointer (some ⟨b, oo, none⟩), .int .i64 c] w fun e w' => e = .returned (.int .i64 a) ∧ GAt w' b oo ⟨o, r', l, h, x, m, t⟩ ∧ OnlyG b oo w w' := by
  subst e1; subst e2; exact gack_any H c
theorem gwants_v {o : Bool} {r l h x m t : Int} (H : GAt w b oo ⟨o, r, l, h, x, m, t⟩) (p : Bool) (e1 : decide (t ≠ 0) = p) :
    Calls Try.prog 60 #[.pointer (some ⟨b, oo, none⟩)] w fun e w' => e = .returned (.bool p) ∧ GAt w' b oo ⟨o, r, l, h, x, m, t⟩ ∧ OnlyG b oo w w' := by
  subst e1; exact (gwants_any H).mono fun e w' ⟨h1, h2⟩ => by subst h2; exact ⟨h1, H, OnlyG.refl ..⟩
theorem gunwatch_v {o : Bool} {r l h x m t : Int} (H : GAt w b oo ⟨o, r, l, h, x, m, t⟩) (p : Bool) (e1 : decide (x ≠ 0) = p) :
    Calls Try.prog 48 #[.pointer (some ⟨b, oo, none⟩)] w fun e w' => e = .returned (.bool p) ∧ GAt w' b oo ⟨o, r, l, 0, 0, 0, 0⟩ ∧ OnlyG b oo w w' := by
  subst e1; exact gunwatch_any H
theorem gclose_v {o : Bool} {r l h x m t : Int} (H : GAt w b oo ⟨o, r, l, h, x, m, t⟩) :
    Calls Try.prog 29 #[.pointer (some ⟨b, oo, none⟩)] w fun e w' => e = .returned (.bool o) ∧ GAt w' b oo ⟨false, 0, 0, 0, 0, 0, 0⟩ ∧ OnlyG b oo w w' := gclose_any H
theorem glook_v {o : Bool} {r l h x m t : Int} (H : GAt w b oo ⟨o, r, l, h, x, m, t⟩) :
    Calls Try.prog 42 #[.pointer (some ⟨b, oo, none⟩)] w fun e w' => e = .returned (.agg #[.bool o, .int .i64 r, .int .i64 l, .int .u64 h, .int .i64 x, .int .i64 m, .int .i64 t]) ∧ GAt w' b oo ⟨o, r, l, h, x, m, t⟩ ∧ OnlyG b oo w w' :=
  (glook_any H).mono fun e w' ⟨h1, h2⟩ => ⟨h1, H.kept h2, OnlyG.grew h2 H.l⟩
end
end Go.Proofs.Ytpnipmjjhiaieaa
