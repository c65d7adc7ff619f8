/-
  Contracts of package bits as its callers use them, and of the statements' first test 'alive', over this seat's translation.
-/
import Derived.Test.YtkkodhjolgcokaaDoorBit2
import Derived.Maps.Range
import Derived.Maps.RangeWalk
namespace Go.Proofs.YtkkodhjolgcokaaDoor
open Go.RowKit Go.Lib

theorem TabAt.kept {w w' : World} (h : TabAt w) (hg : w.grownBy w' none) : TabAt w' := fun j hj =>
  (hg.cell_far ⟨0, j, none⟩ (by
    have hc := h j hj
    unfold World.cell? at hc
    simp only at hc
    refine Decidable.byContradiction fun hn => ?_
    rw [Array.getElem?_eq_none (by simpa using hn)] at hc
    cases hc) (by simp)).trans (h j hj)

/-- What is turned in a block that is new leaves all that was as it was. -/
theorem grow_on {W w w' : World} {g : Nat} (h : W.grownBy w none) (k : w.grownBy w' (some g)) (hg : W.heap.size ≤ g) : W.grownBy w' none :=
  h.andThen k (fun j e => by cases e; exact Or.inl hg)
theorem grow_to {W w w' : World} (h : W.grownBy w none) (k : w.grownBy w' none) : W.grownBy w' none := h.trans k

theorem new_made (size : Int) (n : Nat) (hn : clampN size = n) (w : World) :
    Calls Tryd.prog 34 #[.int .i64 size] w fun e w' => ∃ b g, e = .returned (.pointer (some ⟨b, 0, none⟩)) ∧ w.heap.size ≤ b ∧ w.heap.size ≤ g ∧ w.grownBy w' none ∧ SetAt w' b g n (fun _ => false) :=
  (new_any size w).mono fun e w' ⟨h1, h2, h3⟩ => ⟨_, _, h1, by omega, by omega, h2, hn ▸ h3⟩

theorem least_some {f : FuncId} {args : Array Value} {P : Nat → Bool} {n k : Nat} {w : World} (c : Calls Tryd.prog f args w (LeastPost P n k w)) (p : Nat) (h1 : k ≤ p) (h2 : p < n) (h3 : P p = true) (h4 : ∀ q, k ≤ q → q < p → P q = false) :
    Calls Tryd.prog f args w fun e w' => e = .returned (.tuple #[.int .i64 p, .bool true]) ∧ w = w' :=
  c.mono fun e w' hp => by
    obtain ⟨hw, ⟨p', a1, a2, a3, a4, he⟩ | ⟨a1, he⟩⟩ := hp
    · refine ⟨?_, hw⟩
      rcases Nat.lt_trichotomy p' p with h | h | h
      · rw [h4 p' a1 h] at a3; cases a3
      · rw [he, h]
      · rw [a4 p h1 h] at h3; cases h3
    · rw [a1 p h1 h2] at h3; cases h3
theorem least_none {f : FuncId} {args : Array Value} {P : Nat → Bool} {n k : Nat} {w : World} (c : Calls Tryd.prog f args w (LeastPost P n k w)) (h : ∀ q, k ≤ q → q < n → P q = false) :
    Calls Tryd.prog f args w fun e w' => e = .returned (.tuple #[.int .i64 0, .bool false]) ∧ w = w' :=
  c.mono fun e w' hp => by
    obtain ⟨hw, ⟨p', a1, a2, a3, a4, he⟩ | ⟨a1, he⟩⟩ := hp
    · rw [h p' a1 a2] at a3; cases a3
    · exact ⟨he, hw⟩


end Go.Proofs.YtkkodhjolgcokaaDoor
