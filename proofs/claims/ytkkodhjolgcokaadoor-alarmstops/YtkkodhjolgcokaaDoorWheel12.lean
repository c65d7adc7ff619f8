/-
  Contracts of package wheel, over this seat's translation: First.
-/
import Derived.Test.YtkkodhjolgcokaaDoorWheel11
namespace Go.Proofs.YtkkodhjolgcokaaDoor
open Go.RowKit Go.Lib
set_option linter.unusedVariables false

section
variable {w : World} {wb ab lb n now : Nat} {A : Nat → Nat × Nat} {L : Nat → List Nat} {C : Nat → Nat} {S : Nat → Option (Nat × Nat)} {pl : Nat → Nat}

theorem WInv.row_none (I : WInv n A L C S pl) {r : Nat} (hr : r < 12) (h0 : C r = 0) : ∀ i, r * 64 ≤ i → i < r * 64 + 64 → L i = [] := fun i h1 h2 => by
  have h3 := I.cnt r hr
  rw [h0] at h3
  have h4 : flatL L r 64 = [] := List.length_eq_zero_iff.1 h3.symm
  rcases hq : L i with _ | ⟨x, l⟩
  · rfl
  · have : x ∈ flatL L r 64 := (flat_mem 64).2 ⟨i - r * 64, by omega, by rw [show r * 64 + (i - r * 64) = i by omega, hq]; simp⟩
    rw [h4] at this; cases this

end
end Go.Proofs.YtkkodhjolgcokaaDoor
