/-
  WheelTurns: in whichever order alarms are set, they are told in the same order; the first that is told is for the time that First tells.
-/
import Derived.Test.YtpabnhiaafnjpaaWheelSame
namespace Go.Proofs.Ytpabnhiaafnjpaa
open Go.RowKit Go.Lib
set_option linter.unusedVariables false
theorem low62 (n : Nat) (h : n < 18446744073709551616) : bits .and .u64 (n : Int) 4611686018427387903 = ((n % 4611686018427387904 : Nat) : Int) := by
  have := u64_low 62 n (by decide) h
  simpa using this
theorem low2 (n : Nat) (h : n < 18446744073709551616) : bits .and .u64 (n : Int) 3 = ((n % 4 : Nat) : Int) := by
  have := u64_low 2 n (by decide) h
  simpa using this
/-- The last m of n alarms are set. -/
def topF (f : Nat → Nat × Nat) (n m : Nat) : Nat → Option (Nat × Nat) := fun k => if n ≤ k + m ∧ k < n then some (f k) else none
theorem topF_step (f : Nat → Nat × Nat) (n m : Nat) (hm : m < n) : upS (topF f n m) (n - 1 - m) (some (f (n - 1 - m))) = topF f n (m + 1) := by
  funext k
  unfold upS topF
  by_cases h : k = n - 1 - m
  · subst h; rw [if_pos rfl, if_pos (by omega)]
  · rw [if_neg h]
    by_cases h2 : n ≤ k + m ∧ k < n
    · rw [if_pos h2, if_pos (by omega)]
    · rw [if_neg h2, if_neg (by omega)]
theorem topF_all (f : Nat → Nat × Nat) (n : Nat) : topF f n n = setF f n := by
  funext k
  unfold topF setF
  by_cases h : k < n
  · rw [if_pos ⟨by omega, h⟩, if_pos h]
  · rw [if_neg (by omega), if_neg h]
/-- Of some alarms one is for the least time. -/
theorem least_in (f : Nat → Nat × Nat) : ∀ n, 0 < n → ∃ k, k < n ∧ ∀ j, j < n → (f k).1 ≤ (f j).1
  | 0, h => absurd h (by omega)
  | 1, _ => ⟨0, by omega, fun j hj => by obtain rfl : j = 0 := (by omega); exact Nat.le_refl _⟩
  | n + 2, _ => by
    obtain ⟨k, hk, h⟩ := least_in f (n + 1) (by omega)
    by_cases hc : (f k).1 ≤ (f (n + 1)).1
    · refine ⟨k, by omega, fun j hj => ?_⟩
      by_cases e : j = n + 1
      · subst e; exact hc
      · exact h j (by omega)
    · refine ⟨n + 1, by omega, fun j hj => ?_⟩
      by_cases e : j = n + 1
      · subst e; exact Nat.le_refl _
      · have := h j (by omega); omega
/-- Two wheels, one behind the other. -/
structure TW (W w : World) (l1 h1 b1 l2 h2 b2 n na nb : Nat) (A B : Nat → Option (Nat × Nat)) : Prop where
  a : Wl w l1 h1 b1 n na A
  b : Wl w l2 h2 b2 n nb B
  gw : W.grownBy w none
  o : W.heap.size ≤ l1 ∧ l1 ≤ h1 ∧ h1 ≤ l2 ∧ l2 ≤ h2 ∧ h2 ≤ w.heap.size
section
variable {W w w' : World} {l1 h1 b1 l2 h2 b2 n na nb : Nat} {A B : Nat → Option (Nat × Nat)}
theorem TW.kept (H : TW W w l1 h1 b1 l2 h2 b2 n na nb A B) (k : w.grownBy w' none) : TW W w' l1 h1 b1 l2 h2 b2 n na nb A B :=
  ⟨H.a.kept k, H.b.kept k, H.gw.trans k, by have := H.o; have := k.size; omega⟩
theorem TW.on_a {nc : Nat} {C : Nat → Option (Nat × Nat)} (H : TW W w l1 h1 b1 l2 h2 b2 n na nb A B) (k : Only l1 h1 w w') (h : Wl w' l1 h1 b1 n nc C) : TW W w' l1 h1 b1 l2 h2 b2 n nc nb C B :=
  ⟨h, H.b.only k (Or.inr H.o.2.2.1), Only.on H.gw k H.o.1, by have := H.o; have := k.size; omega⟩
theorem TW.on_b {nc : Nat} {C : Nat → Option (Nat × Nat)} (H : TW W w l1 h1 b1 l2 h2 b2 n na nb A B) (k : Only l2 h2 w w') (h : Wl w' l2 h2 b2 n nc C) : TW W w' l1 h1 b1 l2 h2 b2 n na nc A C :=
  ⟨H.a.only k (Or.inl H.o.2.2.1), h, Only.on H.gw k (by have := H.o; omega), by have := H.o; have := k.size; omega⟩
end
end Go.Proofs.Ytpabnhiaafnjpaa
