/-
  What a call on a book may turn: its struct's block, and its lines' row.
-/
import Derived.Test.YtchookgdajkipaaFrame
namespace Go.Proofs.Ytchookgdajkipaa
open Go.RowKit Go.Lib

/-- From w to w' nothing has turned but blocks bb and (if there is one) o. -/
structure Off (bb : Nat) (o : Option Nat) (w w' : World) : Prop where
  os : w'.os = w.os
  tape : w'.tape = w.tape
  output : w'.output = w.output
  size : w.heap.size ≤ w'.heap.size
  block : ∀ k, k < w.heap.size → k ≠ bb → some k ≠ o → w'.heap[k]? = w.heap[k]?

section
variable {w w' w2 : World} {bb : Nat} {o : Option Nat}
theorem Off.of_none (h : w.grownBy w' none) : Off bb o w w' := ⟨h.os, h.tape, h.output, h.size, fun k hk _ _ => h.block k hk (by simp)⟩
theorem Off.trans (h : Off bb o w w') (k : Off bb o w' w2) : Off bb o w w2 :=
  ⟨k.os.trans h.os, k.tape.trans h.tape, k.output.trans h.output, Nat.le_trans h.size k.size, fun i hi h1 h2 => (k.block i (Nat.lt_of_lt_of_le hi h.size) h1 h2).trans (h.block i hi h1 h2)⟩
theorem Off.of_some {r : Nat} (h : w.grownBy w' (some r)) : Off bb (some r) w w' := ⟨h.os, h.tape, h.output, h.size, fun k hk _ h2 => h.block k hk h2⟩
theorem Off.set (w : World) (j : Nat) (u : Value) : Off bb o w (w.setCell ⟨bb, j, none⟩ u) :=
  ⟨rfl, rfl, rfl, by simp [World.setCell], fun k _ h1 _ => Below.heap_setCell w ⟨bb, j, none⟩ u k h1⟩
theorem Off.setRow {r : Nat} (w : World) (j : Nat) (u : Value) : Off bb (some r) w (w.setCell ⟨r, j, none⟩ u) :=
  ⟨rfl, rfl, rfl, by simp [World.setCell], fun k _ _ h2 => Below.heap_setCell w ⟨r, j, none⟩ u k (fun e => h2 (by rw [e]))⟩
theorem Off.grown {W : World} {B : Nat} (h : W.grownBy w none) (k : Off bb o w w') (hb : W.heap.size ≤ bb) (ho : ∀ r, o = some r → W.heap.size ≤ r) : W.grownBy w' none :=
  ⟨k.os.trans h.os, k.tape.trans h.tape, k.output.trans h.output, Nat.le_trans h.size k.size, fun i hi _ => (k.block i (Nat.lt_of_lt_of_le hi h.size) (by omega) (fun e => by have := ho i e.symm; omega)).trans (h.block i hi (by simp))⟩

end
theorem ret_i {a b : Int} (h : a = b) : Ending.returned (.int .i64 a) = .returned (.int .i64 b) := by rw [h]
def upd (M : Nat → Int) (p : Nat) (x : Int) : Nat → Int := fun j => if j = p then x else M j

theorem Off.newRow {bb : Nat} {w : World} {o : Option Nat} {w1 : World} {r : Nat} (h : Off bb o w w1) (hr : w.heap.size ≤ r ∨ o = some r) (j : Nat) (u : Value) : Off bb o w (w1.setCell ⟨r, j, none⟩ u) :=
  ⟨h.os, h.tape, h.output, by simp [World.setCell]; exact h.size, fun k hk h1 h2 => (Below.heap_setCell w1 ⟨r, j, none⟩ u k (fun e => by
    have e : k = r := e
    rcases hr with hr | hr
    · omega
    · exact h2 (by rw [hr, e]))).trans (h.block k hk h1 h2)⟩

theorem grown_set (w : World) (b j : Nat) (u : Value) : w.grownBy (w.setCell ⟨b, j, none⟩ u) (some b) :=
  ⟨rfl, rfl, rfl, by simp [World.setCell], fun k _ hk => Below.heap_setCell w ⟨b, j, none⟩ u k (fun e => hk (by have e : k = b := e; rw [e]))⟩
/-- A book's lines with one put in at p. -/
def insK {α : Type} (K : Nat → α) (p : Nat) (x : α) : Nat → α := fun j => if j < p then K j else if j = p then x else K (j - 1)

theorem _root_.Go.World.grownBy.into_new {W a b : World} {o : Option Nat} (h : W.grownBy a none) (k : a.grownBy b o) (ho : ∀ x, o = some x → W.heap.size ≤ x) : W.grownBy b none :=
  ⟨k.os.trans h.os, k.tape.trans h.tape, k.output.trans h.output, Nat.le_trans h.size k.size, fun i hi _ => (k.block i (Nat.lt_of_lt_of_le hi h.size) (fun e => by have := ho i e.symm; omega)).trans (h.block i hi (by simp))⟩


/-- Two books have nothing in common. -/
structure Apt (bb : Nat) (v : Value) (b2 : Nat) (v2 : Value) : Prop where
  a : bb ≠ b2
  b : some b2 ≠ v.ownBlock
  c : v2.ownBlock ≠ some bb
  d : v2.ownBlock = none ∨ v2.ownBlock ≠ v.ownBlock
theorem Apt.symm {bb b2 : Nat} {v v2 : Value} (h : Apt bb v b2 v2) : Apt b2 v2 bb v :=
  ⟨h.a.symm, fun e => h.c e.symm, fun e => h.b e.symm, by
    rcases h.d with h | h
    · cases hv : v.ownBlock with
      | none => exact Or.inl rfl
      | some r => exact Or.inr (by rw [h]; intro e; cases e)
    · exact Or.inr h.symm⟩
/-- .. and have nothing in common where one of them has got a new row. -/
theorem Apt.new {bb b2 : Nat} {v v2 v' : Value} {w : World} (h : Apt bb v b2 v2) (hv : v'.ownBlock = v.ownBlock ∨ ∃ r, v'.ownBlock = some r ∧ w.heap.size ≤ r) (h1 : b2 < w.heap.size) (h2 : ∀ r, v2.ownBlock = some r → r < w.heap.size) : Apt bb v' b2 v2 := by
  rcases hv with hv | ⟨r, hv, hr⟩
  · exact ⟨h.a, by rw [hv]; exact h.b, h.c, by rw [hv]; exact h.d⟩
  · refine ⟨h.a, by rw [hv]; intro e; cases e; omega, h.c, ?_⟩
    cases h3 : v2.ownBlock with
    | none => exact Or.inl rfl
    | some q => have := h2 q h3; exact Or.inr (by rw [hv]; intro e; cases e; omega)
end Go.Proofs.Ytchookgdajkipaa
