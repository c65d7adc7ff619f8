/-
  The order of alarms is a total one; what the library's sort makes of a row of their numbers.
-/
import Derived.Test.YtkkodhjolgcokaaDoorWheelTo1
import Derived.Sort.OwnSortedInts
namespace Go.Proofs.YtkkodhjolgcokaaDoor
open Go.RowKit Go.Lib Go.Sort
set_option linter.unusedVariables false
/-- An alarm stands ahead of another one. -/
def ltA (A : Nat → Nat × Nat) (a b : Nat) : Prop := (A a).1 < (A b).1 ∨ ((A a).1 = (A b).1 ∧ ((A a).2 < (A b).2 ∨ ((A a).2 = (A b).2 ∧ a < b)))
theorem ord_neg (A : Nat → Nat × Nat) (a b : Nat) : ordA A a b < 0 ↔ ltA A a b := by
  unfold ordA ltA orI cmpI
  by_cases h1 : (A a).1 < (A b).1
  · rw [if_pos (show ((A a).1 : Int) < (A b).1 by omega)]; simp; omega
  · rw [if_neg (show ¬ ((A a).1 : Int) < (A b).1 by omega)]
    by_cases h2 : (A b).1 < (A a).1
    · rw [if_pos (show ((A b).1 : Int) < (A a).1 by omega)]; simp; omega
    · rw [if_neg (show ¬ ((A b).1 : Int) < (A a).1 by omega)]
      by_cases h3 : (A a).2 < (A b).2
      · rw [if_pos (show ((A a).2 : Int) < (A b).2 by omega)]; simp; omega
      · rw [if_neg (show ¬ ((A a).2 : Int) < (A b).2 by omega)]
        by_cases h4 : (A b).2 < (A a).2
        · rw [if_pos (show ((A b).2 : Int) < (A a).2 by omega)]; simp; omega
        · rw [if_neg (show ¬ ((A b).2 : Int) < (A a).2 by omega)]
          by_cases h5 : a < b
          · rw [if_pos (show (a : Int) < b by omega)]; simp; omega
          · rw [if_neg (show ¬ (a : Int) < b by omega)]
            by_cases h6 : b < a
            · rw [if_pos (show (b : Int) < a by omega)]; simp; omega
            · rw [if_neg (show ¬ (b : Int) < a by omega)]; simp; omega
/-- The alarms' numbers as values. -/
def encF (n : Nat) (x : Fin n) : Value := .int .i64 (x.val : Int)
def cfF (A : Nat → Nat × Nat) (n : Nat) (x y : Fin n) : Int := ordA A x.val y.val
theorem lt_F (A : Nat → Nat × Nat) (n : Nat) (x y : Fin n) : Go.Proofs.ltOf (cfF A n) x y = true ↔ ltA A x.val y.val := by
  unfold Go.Proofs.ltOf cfF
  rw [decide_eq_true_iff]
  exact ord_neg A x.val y.val
theorem lt_F' (A : Nat → Nat × Nat) (n : Nat) (x y : Fin n) : Go.Proofs.ltOf (cfF A n) x y = false ↔ ¬ ltA A x.val y.val := by
  rw [← lt_F A n x y]
  simp
theorem swo_F (A : Nat → Nat × Nat) (n : Nat) : SWO (Go.Proofs.ltOf (cfF A n)) where
  irrefl x := by rw [lt_F']; unfold ltA; omega
  trans x y z h1 h2 := by rw [lt_F] at *; unfold ltA at *; omega
  ntrans x y z h1 h2 := by rw [lt_F'] at *; unfold ltA at *; omega
theorem tot_F (A : Nat → Nat × Nat) (n : Nat) (x y : Fin n) (h1 : Go.Proofs.ltOf (cfF A n) x y = false) (h2 : Go.Proofs.ltOf (cfF A n) y x = false) : x = y := by
  rw [lt_F'] at *
  unfold ltA at *
  apply Fin.ext
  omega
/-- A list of numbers below n, as such. -/
def finL (n : Nat) (l : List Nat) (h : ∀ k ∈ l, k < n) : List (Fin n) := l.attach.map fun k => ⟨k.1, h k.1 k.2⟩
theorem finL_val (n : Nat) (l : List Nat) (h : ∀ k ∈ l, k < n) : (finL n l h).map Fin.val = l := by
  unfold finL
  rw [List.map_map]
  exact List.attach_map_subtype_val l
/-- The numbers in their order. -/
def ordered (A : Nat → Nat × Nat) (n : Nat) (l : List Nat) (h : ∀ k ∈ l, k < n) : List Nat := ((finL n l h).mergeSort fun x y => !(Go.Proofs.ltOf (cfF A n)) y x).map Fin.val
theorem ordered_perm (A : Nat → Nat × Nat) (n : Nat) (l : List Nat) (h : ∀ k ∈ l, k < n) : (ordered A n l h).Perm l := by
  unfold ordered
  have := (List.mergeSort_perm (finL n l h) fun x y => !(Go.Proofs.ltOf (cfF A n)) y x).map Fin.val
  rwa [finL_val] at this
theorem ordered_sorted (A : Nat → Nat × Nat) (n : Nat) (l : List Nat) (h : ∀ k ∈ l, k < n) : (ordered A n l h).Pairwise fun a b => ¬ ltA A b a := by
  unfold ordered
  rw [List.pairwise_map]
  have := List.pairwise_mergeSort (le := fun x y : Fin n => !(Go.Proofs.ltOf (cfF A n)) y x) (fun a b c h1 h2 => by
    simp only [Bool.not_eq_true'] at *
    rw [lt_F'] at *
    unfold ltA at *
    omega) (fun a b => by
    by_cases hh : ltA A b.val a.val
    · have : ¬ ltA A a.val b.val := by unfold ltA at *; omega
      rw [(lt_F' A n a b).2 this]; simp
    · rw [(lt_F' A n b a).2 hh]; simp) (finL n l h)
  refine this.imp ?_
  intro a b hab
  simp only [Bool.not_eq_true'] at hab
  exact (lt_F' A n b a).1 hab
end Go.Proofs.YtkkodhjolgcokaaDoor
