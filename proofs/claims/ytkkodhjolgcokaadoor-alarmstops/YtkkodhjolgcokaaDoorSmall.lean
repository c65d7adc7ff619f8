/-
  Small laws on worlds that have only grown, and on endings. (For a seat without package bits, whose texts have them; no condition.)
-/
import Derived.Test.YtkkodhjolgcokaaDoorRing
namespace Go.Proofs.YtkkodhjolgcokaaDoor
open Go.RowKit Go.Lib

theorem grow_drawC (w : World) (row : Option Nat) (m : Nat) : w.grownBy (w.drewN m) row := ⟨rfl, rfl, rfl, Nat.le_refl _, fun _ _ _ => rfl⟩
theorem grow_onC {W w w' : World} {g : Nat} (h : W.grownBy w none) (k : w.grownBy w' (some g)) (hg : W.heap.size ≤ g) : W.grownBy w' none :=
  ⟨k.os.trans h.os, k.tape.trans h.tape, k.output.trans h.output, Nat.le_trans h.size k.size, fun i hi _ => (k.block i (Nat.lt_of_lt_of_le hi h.size) (by intro e; cases e; omega)).trans (h.block i hi (by simp))⟩
theorem grow_toC {W w w' : World} (h : W.grownBy w none) (k : w.grownBy w' none) : W.grownBy w' none := h.trans k
theorem grow_refl (w : World) : w.grownBy w none := ⟨rfl, rfl, rfl, Nat.le_refl _, fun _ _ _ => rfl⟩
theorem ret_intC {k : IntKind} {a b : Int} (h : a = b) : Ending.returned (.int k a) = .returned (.int k b) := by rw [h]
theorem ret_boolC {a b : Bool} (h : a = b) : Ending.returned (.bool a) = .returned (.bool b) := by rw [h]

end Go.Proofs.YtkkodhjolgcokaaDoor
