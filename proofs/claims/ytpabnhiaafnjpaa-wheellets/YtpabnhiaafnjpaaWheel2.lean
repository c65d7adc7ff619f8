/-
  Contracts of package wheel, over this seat's translation: how a wheel lies in memory; Now, At.
-/
import Derived.Test.YtpabnhiaafnjpaaWheel1
import Derived.BigQuiet
namespace Go.Proofs.Ytpabnhiaafnjpaa
open Go.RowKit Go.Lib
set_option maxRecDepth 100000

/-- A wheel: its struct in block wb (now, the alarms, the links, twelve counts), its alarms in block ab, its links from block lb on. -/
structure WhMem (w : World) (wb ab lb n now : Nat) (A : Nat → Nat × Nat) (L : Nat → List Nat) (C : Nat → Nat) : Prop where
  c0 : w.cell? ⟨wb, 0, none⟩ = some (.int .u64 (now : Nat))
  c1 : w.cell? ⟨wb, 1, none⟩ = some (.slice (some ⟨ab, 0, none⟩) n n)
  c2 : w.cell? ⟨wb, 2, none⟩ = some (.pointer (some ⟨lb + 4, 0, none⟩))
  c3 : ∀ r, r < 12 → w.cell? ⟨wb, 3 + r, none⟩ = some (.int .i64 (C r : Nat))
  fw : ∀ j, w.frozen? ⟨wb, j, none⟩ = false
  a0 : ∀ k, k < n → w.cell? ⟨ab, k * 2, none⟩ = some (.int .u64 ((A k).1 : Nat)) ∧ w.cell? ⟨ab, k * 2 + 1, none⟩ = some (.int .u64 ((A k).2 : Nat))
  fa : ∀ j, w.frozen? ⟨ab, j, none⟩ = false
  links : LinksAt w lb n 768 L
  bd : now < 18446744073709551616 ∧ ∀ k, k < n → (A k).1 < 18446744073709551616 ∧ (A k).2 < 18446744073709551616
  d : wb ≠ ab ∧ (wb < lb ∨ lb + 5 ≤ wb) ∧ (ab < lb ∨ lb + 5 ≤ ab)
  l : wb < w.heap.size ∧ ab < w.heap.size
section
variable {w w' : World} {wb ab lb n now : Nat} {A : Nat → Nat × Nat} {L : Nat → List Nat} {C : Nat → Nat}
theorem WhMem.only {lo hi : Nat} (H : WhMem w wb ab lb n now A L C) (k : Only lo hi w w') (h1 : wb < lo ∨ hi ≤ wb) (h2 : ab < lo ∨ hi ≤ ab) (h3 : lb + 5 ≤ lo ∨ hi ≤ lb) : WhMem w' wb ab lb n now A L C :=
  ⟨(k.cell ⟨wb, 0, none⟩ H.l.1 h1).trans H.c0, (k.cell ⟨wb, 1, none⟩ H.l.1 h1).trans H.c1, (k.cell ⟨wb, 2, none⟩ H.l.1 h1).trans H.c2, fun r hr => (k.cell ⟨wb, 3 + r, none⟩ H.l.1 h1).trans (H.c3 r hr), fun j => (k.frozen ⟨wb, j, none⟩ H.l.1 h1).trans (H.fw j), fun q hq => ⟨(k.cell ⟨ab, q * 2, none⟩ H.l.2 h2).trans (H.a0 q hq).1, (k.cell ⟨ab, q * 2 + 1, none⟩ H.l.2 h2).trans (H.a0 q hq).2⟩, fun j => (k.frozen ⟨ab, j, none⟩ H.l.2 h2).trans (H.fa j), H.links.kept k h3, H.bd, H.d, ⟨Nat.lt_of_lt_of_le H.l.1 k.size, Nat.lt_of_lt_of_le H.l.2 k.size⟩⟩
theorem WhMem.kept (H : WhMem w wb ab lb n now A L C) (k : w.grownBy w' none) : WhMem w' wb ab lb n now A L C :=
  H.only (Only.of_none (lo := 0) (hi := 0) k) (Or.inr (Nat.zero_le _)) (Or.inr (Nat.zero_le _)) (Or.inr (Nat.zero_le _))

theorem wnow_any (H : WhMem w wb ab lb n now A L C) : Calls Try.prog 25 #[.pointer (some ⟨wb, 0, none⟩)] w fun e w' => e = .returned (.int .u64 (now : Nat)) ∧ w = w' := by
  have c0 := H.c0
  clear H
  go_enter Try.func25, Try.ntmps25
  go_wp2
  go_ret
  exact ⟨rfl, rfl⟩

set_option maxHeartbeats 1000000 in
theorem wat_no (k : Int) (H : WhMem w wb ab lb n now A L C) (hk : ∀ i, i < 768 → ∀ x ∈ L i, (x : Int) ≠ k) :
    Calls Try.prog 21 #[.pointer (some ⟨wb, 0, none⟩), .int .i64 k] w fun e w' => e = .returned (.tuple #[.int .u64 0, .int .u64 0, .bool false]) ∧ w = w' := by
  have CO := Lib.hid (on_none k H.links hk)
  have c2 := H.c2
  clear H
  go_enter Try.func21, Try.ntmps21
  go_wp2_with fail
  refine (CO.out).mono ?_
  rintro e w' ⟨rfl, rfl⟩
  go_wp2
  go_ret3
  exact ⟨rfl, rfl⟩

set_option maxHeartbeats 2000000 in
theorem wat_in (k i : Nat) (H : WhMem w wb ab lb n now A L C) (hi : i < 768) (hk : k ∈ L i) :
    Calls Try.prog 21 #[.pointer (some ⟨wb, 0, none⟩), .int .i64 k] w fun e w' => e = .returned (.tuple #[.int .u64 ((A k).1 : Nat), .int .u64 ((A k).2 : Nat), .bool true]) ∧ w.grownBy w' none := by
  have CO := Lib.hid (on_some k i H.links hi hk)
  have hkn := H.links.bound i hi k hk
  have c2 := H.c2
  have c1 := H.c1
  obtain ⟨b0, b1⟩ := H.a0 k hkn
  have q1 : (k : Int) < (n : Int) := by omega
  have q0 : ¬ (k : Int) < 0 := by omega
  clear H
  generalize (A k).1 = x at *
  generalize (A k).2 = y at *
  go_enter Try.func21, Try.ntmps21
  go_wp2_with fail
  refine (CO.out).mono ?_
  rintro e w' ⟨rfl, rfl⟩
  go_wp2_with fail
  go_quiet (fail)
  go_wp2
  go_ret3
  exact ⟨rfl, ⟨rfl, rfl, rfl, Nat.le_refl _, fun _ _ _ => rfl⟩⟩
end
end Go.Proofs.Ytpabnhiaafnjpaa
