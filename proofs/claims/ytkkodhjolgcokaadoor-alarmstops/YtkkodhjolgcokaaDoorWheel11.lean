/-
  Contracts of package wheel, over this seat's translation: least.
-/
import Derived.Test.YtkkodhjolgcokaaDoorWheel10
namespace Go.Proofs.YtkkodhjolgcokaaDoor
open Go.RowKit Go.Lib
set_option linter.unusedVariables false

/-- The least time of the first so many of some alarms. -/
def minT (A : Nat → Nat × Nat) (F : List Nat) : Nat → Nat
  | 0 => (A (F.getD 0 0)).1
  | j + 1 => min (minT A F j) (A (F.getD (j + 1) 0)).1

section
variable {w : World} {wb ab lb n now : Nat} {A : Nat → Nat × Nat} {L : Nat → List Nat} {C : Nat → Nat}

end
end Go.Proofs.YtkkodhjolgcokaaDoor
