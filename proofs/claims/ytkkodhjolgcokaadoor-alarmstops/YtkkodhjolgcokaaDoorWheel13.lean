/-
  A wheel as an object: its time, and what each alarm is set for.
-/
import Derived.Test.YtkkodhjolgcokaaDoorWheel12
namespace Go.Proofs.YtkkodhjolgcokaaDoor
open Go.RowKit Go.Lib
set_option linter.unusedVariables false

/-- A wheel whose blocks lie from lo on, below hi: S k is what alarm k is set for. -/
def Wl (w : World) (lo hi wb n now : Nat) (S : Nat → Option (Nat × Nat)) : Prop :=
  ∃ ab lb A L C pl, WhMem w wb ab lb n now A L C ∧ WInv n A L C S pl ∧ (∀ k v, k < n → S k = some v → pl k = slotN now v.1) ∧ n ≤ 4096 ∧ (lo ≤ wb ∧ lo ≤ ab ∧ lo ≤ lb) ∧ (wb < hi ∧ ab < hi ∧ lb + 5 ≤ hi) ∧ ∀ k, n ≤ k → S k = none

section
variable {w w' : World} {lo hi wb n now : Nat} {S : Nat → Option (Nat × Nat)}

theorem Wl.kept (H : Wl w lo hi wb n now S) (k : w.grownBy w' none) : Wl w' lo hi wb n now S := by
  obtain ⟨ab, lb, A, L, C, pl, M, I, P, h⟩ := H
  exact ⟨ab, lb, A, L, C, pl, M.kept k, I, P, h⟩
theorem Wl.only {l h : Nat} (H : Wl w lo hi wb n now S) (k : Only l h w w') (hd : hi ≤ l ∨ h ≤ lo) : Wl w' lo hi wb n now S := by
  obtain ⟨ab, lb, A, L, C, pl, M, I, P, hn, a, b, c⟩ := H
  exact ⟨ab, lb, A, L, C, pl, M.only k (by omega) (by omega) (by omega), I, P, hn, a, b, c⟩

theorem wl_set (H : Wl w lo hi wb n now S) (k t u : Nat) (hk : k < n) (hS : S k = none) (ht : t < 18446744073709551616) (hu : u < 18446744073709551616) :
    Calls Tryd.prog 25 #[.pointer (some ⟨wb, 0, none⟩), .int .i64 k, .int .u64 t, .int .u64 u] w fun e w' => e = .returned (.bool true) ∧ Only lo hi w w' ∧ Wl w' lo hi wb n now (upS S k (some (t, u))) := by
  obtain ⟨ab, lb, A, L, C, pl, M, I, P, hn, a, b, c⟩ := H
  have hb64 := bitLen64 ht M.bd.1
  have hrl := rowN_le now t ht M.bd.1 hb64
  have hsl := slotN_lt hrl
  have hdv : slotN now t / 64 = rowN now t := by unfold slotN; have := digN_lt (rowN now t) t; omega
  have IS := I.set (k := k) (i := slotN now t) (t, u) hk hS hsl
  rw [hdv] at IS
  refine (wset_ok k t u lo hi M ht hu hb64 hk (fun j hj h => ?_) (Nat.lt_of_lt_of_le (I.lt hk hS (by omega)) hn) a b).mono fun e w' ⟨he, ho, hm⟩ => ⟨he, ho, ab, lb, _, _, _, _, hm, IS, fun k' v' hk' hv' => ?_, hn, a, b, fun k' hk' => ?_⟩
  · obtain ⟨v, hv⟩ := (I.is j hj k h).2.1
    rw [hS] at hv; cases hv
  · by_cases e : k' = k
    · subst e
      simp only [upS, if_true] at hv'
      injection hv' with hv'
      subst hv'
      simp [upP]
    · simp only [upS, if_neg e] at hv'
      simp only [upP, if_neg e]
      exact P k' v' hk' hv'
  · have e : k' ≠ k := by omega
    simp only [upS, if_neg e]
    exact c k' hk'
theorem wl_set_no (H : Wl w lo hi wb n now S) (k : Int) (t u : Nat) (hk : (k < 0 ∨ (n : Int) ≤ k) ∨ ∃ v, S k.toNat = some v) (ht : t < 18446744073709551616) :
    Calls Tryd.prog 25 #[.pointer (some ⟨wb, 0, none⟩), .int .i64 k, .int .u64 t, .int .u64 u] w fun e w' => e = .returned (.bool false) ∧ w.grownBy w' none := by
  obtain ⟨ab, lb, A, L, C, pl, M, I, P, hn, a, b, c⟩ := H
  refine wset_no k t u M ht (bitLen64 ht M.bd.1) ?_
  rcases hk with h | ⟨v, hv⟩
  · exact Or.inl h
  · rcases Nat.lt_or_ge k.toNat n with h1 | h1
    · obtain ⟨_, hp, hm⟩ := I.on k.toNat v h1 hv
      exact Or.inr ⟨_, hp, hm⟩
    · rw [c _ h1] at hv; cases hv
theorem wl_unset (H : Wl w lo hi wb n now S) (k : Nat) (v : Nat × Nat) (hk : k < n) (hS : S k = some v) :
    Calls Tryd.prog 24 #[.pointer (some ⟨wb, 0, none⟩), .int .i64 k] w fun e w' => e = .returned (.bool true) ∧ Only lo hi w w' ∧ Wl w' lo hi wb n now (upS S k none) := by
  obtain ⟨ab, lb, A, L, C, pl, M, I, P, hn, a, b, c⟩ := H
  obtain ⟨_, hp, hm⟩ := I.on k v hk hS
  have hC := I.le (r := pl k / 64) (by omega)
  refine (wunset_ok k (pl k) lo hi M hp hm ⟨I.pos hp hm, by omega⟩ a b).mono fun e w' ⟨he, ho, hm'⟩ => ⟨he, ho, ab, lb, _, _, _, pl, hm', I.unset hp hm, fun k' v' hk' hv' => ?_, hn, a, b, fun k' hk' => ?_⟩
  · by_cases e : k' = k
    · subst e; simp [upS] at hv'
    · simp only [upS, if_neg e] at hv'; exact P k' v' hk' hv'
  · by_cases e : k' = k
    · subst e; simp [upS]
    · simp only [upS, if_neg e]; exact c k' hk'
end
end Go.Proofs.YtkkodhjolgcokaaDoor
