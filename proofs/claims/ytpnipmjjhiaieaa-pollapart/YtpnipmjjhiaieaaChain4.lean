/-
  Contracts of package chain, over this seat's translation: All and New.
-/
import Derived.Test.YtpnipmjjhiaieaaChain3
import Derived.Test.YtpnipmjjhiaieaaInts
namespace Go.Proofs.Ytpnipmjjhiaieaa
open Go.RowKit Go.Lib

/-- What stands at the j-th place behind a list's knot: a number, or the knot again. -/
def ringAt (n i : Nat) (l : List Nat) (j : Nat) : Nat := if h : j < l.length then l[j] else n + i
theorem ringAt_in (n i : Nat) (l : List Nat) (j : Nat) (h : j < l.length) : ringAt n i l j = l[j] := by simp [ringAt, h]
theorem ringAt_end (n i : Nat) (l : List Nat) : ringAt n i l l.length = n + i := by simp [ringAt]
theorem ringAt_get (n i : Nat) (l : List Nat) (j : Nat) (h : j ≤ l.length) : ((n + i) :: l ++ [n + i])[j + 1]'(by simp; omega) = ringAt n i l j := by
  by_cases hj : j < l.length
  · rw [ringAt_in _ _ _ _ hj]; simp [hj]
  · have : j = l.length := by omega
    subst this
    rw [ringAt_end]; simp

section
variable {w : World} {lo n m : Nat} {L : Nat → List Nat}

end
end Go.Proofs.Ytpnipmjjhiaieaa
