/-
  Two rows of the same alarms, each in their order, are one; what one wheel's To tells, another's does.
-/
import Derived.Test.YtpabnhiaafnjpaaTicksWalk
namespace Go.Proofs.Ytpabnhiaafnjpaa
open Go.RowKit Go.Lib
set_option linter.unusedVariables false
theorem sorted_eq {V : Nat → Nat × Nat} {R1 R2 : List Nat} (hp : R1.Perm R2) (h1 : R1.Pairwise fun a b => ¬ ltA V b a) (h2 : R2.Pairwise fun a b => ¬ ltA V b a) : R1 = R2 :=
  hp.eq_of_pairwise (fun a b _ _ hab hba => by unfold ltA at *; omega) h1 h2
theorem due_eq {S : Nat → Option (Nat × Nat)} {n t : Nat} {R1 R2 : List Nat} (d1 : R1.Nodup) (d2 : R2.Nodup) (m1 : ∀ k, k ∈ R1 ↔ dueS S n t k) (m2 : ∀ k, k ∈ R2 ↔ dueS S n t k)
    (h1 : R1.Pairwise fun a b => ¬ ltA (valS S) b a) (h2 : R2.Pairwise fun a b => ¬ ltA (valS S) b a) : R1 = R2 :=
  sorted_eq ((List.perm_ext_iff_of_nodup d1 d2).2 fun k => (m1 k).trans (m2 k).symm) h1 h2
end Go.Proofs.Ytpabnhiaafnjpaa
