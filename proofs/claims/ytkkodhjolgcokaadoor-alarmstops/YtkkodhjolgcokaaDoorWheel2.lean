/-
  Contracts of package wheel, over this seat's translation: how a wheel lies in memory; Now, At.
-/
import Derived.Test.YtkkodhjolgcokaaDoorWheel1
import Derived.BigQuiet
namespace Go.Proofs.YtkkodhjolgcokaaDoor
open Go.RowKit Go.Lib

/-- A wheel: its struct in block wb (now, the alarms, the links, twelve counts), its alarms in block ab, its links from block lb on. -/
structure WhMem (w : World) (wb ab lb n now : Nat) (A : Nat → Nat × Nat) (L : Nat → List Nat) (C : Nat → Nat) : Prop where
  c0 : w.cell? ⟨wb, 0, none⟩ = some (.int .u64 (now : Nat))
  c1 : w.cell? ⟨wb, 1, none⟩ = some (.slice (some ⟨ab, 0, none⟩) n n)
  c2 : w.cell? ⟨wb, 2, none⟩ = some (.pointer (some ⟨lb + 4, 0, none⟩))
  c3 : ∀ r, r < 12 → w.cell? ⟨wb, 3 + r, none⟩ = some (.int .i64 (C r : Nat))
  fw : ∀ j, w.frozen? ⟨wb, j, none⟩ = false
  a0 : ∀ k, k < n → w.cell? ⟨ab, k * 2, none⟩ = some (.int .u64 ((A k).1 : Nat)) ∧ w.cell? ⟨ab, k * 2 + 1, none⟩ = some (.int .u64 ((A k).2 : Nat))
  fa : ∀ j, w.frozen? ⟨ab, j, none⟩ = false
  links : LinksAt w lb n 768 L
  bd : now < 18446744073709551616 ∧ ∀ k, k < n → (A k).1 < 18446744073709551616 ∧ (A k).2 < 18446744073709551616
  d : wb ≠ ab ∧ (wb < lb ∨ lb + 5 ≤ wb) ∧ (ab < lb ∨ lb + 5 ≤ ab)
  l : wb < w.heap.size ∧ ab < w.heap.size
section
variable {w w' : World} {wb ab lb n now : Nat} {A : Nat → Nat × Nat} {L : Nat → List Nat} {C : Nat → Nat}
theorem WhMem.only {lo hi : Nat} (H : WhMem w wb ab lb n now A L C) (k : Only lo hi w w') (h1 : wb < lo ∨ hi ≤ wb) (h2 : ab < lo ∨ hi ≤ ab) (h3 : lb + 5 ≤ lo ∨ hi ≤ lb) : WhMem w' wb ab lb n now A L C :=
  ⟨(k.cell ⟨wb, 0, none⟩ H.l.1 h1).trans H.c0, (k.cell ⟨wb, 1, none⟩ H.l.1 h1).trans H.c1, (k.cell ⟨wb, 2, none⟩ H.l.1 h1).trans H.c2, fun r hr => (k.cell ⟨wb, 3 + r, none⟩ H.l.1 h1).trans (H.c3 r hr), fun j => (k.frozen ⟨wb, j, none⟩ H.l.1 h1).trans (H.fw j), fun q hq => ⟨(k.cell ⟨ab, q * 2, none⟩ H.l.2 h2).trans (H.a0 q hq).1, (k.cell ⟨ab, q * 2 + 1, none⟩ H.l.2 h2).trans (H.a0 q hq).2⟩, fun j => (k.frozen ⟨ab, j, none⟩ H.l.2 h2).trans (H.fa j), H.links.kept k h3, H.bd, H.d, ⟨Nat.lt_of_lt_of_le H.l.1 k.size, Nat.lt_of_lt_of_le H.l.2 k.size⟩⟩
theorem WhMem.kept (H : WhMem w wb ab lb n now A L C) (k : w.grownBy w' none) : WhMem w' wb ab lb n now A L C :=
  H.only (Only.of_none (lo := 0) (hi := 0) k) (Or.inr (Nat.zero_le _)) (Or.inr (Nat.zero_le _)) (Or.inr (Nat.zero_le _))



end
end Go.Proofs.YtkkodhjolgcokaaDoor
