/-
  wire.parse, the plain part, and its box; over this seat's translation.
-/
import Derived.Test.YtcnojgkolpdomaaDoorWire1
import Derived.Deep.RegionHeld3
namespace Go.Proofs.YtcnojgkolpdomaaDoor
open Go.RowKit Go.Lib
set_option linter.unusedVariables false

/-- What bytes tell, whether it is right or not. -/
def pE (F : List Nat) : En × Bool :=
  if F.getD 0 0 = 0 ∧ F.length = 3 then (⟨0, 0, (F.getD 1 0 + 256 * F.getD 2 0 : Nat), zC, 0, 0⟩, true)
  else if F.getD 0 0 = 1 ∧ 2 ≤ F.length then (⟨1, (F.getD 1 0 : Nat), 0, (cr (F.drop 2)).getD zC, 0, 0⟩, (cr (F.drop 2)).isSome)
  else if F.getD 0 0 = 2 ∧ F.length = 4 then (⟨2, (F.getD 1 0 : Nat), 0, zC, (F.getD 2 0 : Nat), (F.getD 3 0 : Nat)⟩, true)
  else (zE, false)
theorem pE_er (F : List Nat) : er F = if ((pE F).2 && okE (pE F).1) = true then some (pE F).1 else none := by
  by_cases h1 : F.getD 0 0 = 0 ∧ F.length = 3
  · have hr : rawE F = ⟨0, 0, (F.getD 1 0 + 256 * F.getD 2 0 : Nat), zC, 0, 0⟩ := by unfold rawE; exact if_pos ⟨h1.2, h1.1⟩
    have hp : pE F = (⟨0, 0, (F.getD 1 0 + 256 * F.getD 2 0 : Nat), zC, 0, 0⟩, true) := by unfold pE; exact if_pos h1
    unfold er; rw [hr, hp, Bool.true_and]
  · have n1 : ¬ (F.length = 3 ∧ F.getD 0 0 = 0) := fun h => h1 ⟨h.2, h.1⟩
    by_cases h2 : F.getD 0 0 = 1 ∧ 2 ≤ F.length
    · have n2 : ¬ (F.length = 4 ∧ F.getD 0 0 = 2) := fun h => by have := h2.1; have := h.2; omega
      have hp : pE F = (⟨1, (F.getD 1 0 : Nat), 0, (cr (F.drop 2)).getD zC, 0, 0⟩, (cr (F.drop 2)).isSome) := by unfold pE; rw [if_neg h1]; exact if_pos h2
      cases hc : cr (F.drop 2) with
      | none =>
        have hr : rawE F = zE := by unfold rawE; rw [if_neg n1, if_neg n2]; exact if_neg (by rw [hc]; simp)
        unfold er; rw [hr, hp, hc, zE_no]; simp
      | some x =>
        have hl := (cr_some hc).1
        rw [List.length_drop] at hl
        have hr : rawE F = ⟨1, (F.getD 1 0 : Nat), 0, (cr (F.drop 2)).getD zC, 0, 0⟩ := by unfold rawE; rw [if_neg n1, if_neg n2]; exact if_pos ⟨by omega, h2.1, by rw [hc]; rfl⟩
        unfold er; rw [hr, hp, hc]; simp
    · by_cases h3 : F.getD 0 0 = 2 ∧ F.length = 4
      · have hr : rawE F = ⟨2, (F.getD 1 0 : Nat), 0, zC, (F.getD 2 0 : Nat), (F.getD 3 0 : Nat)⟩ := by unfold rawE; rw [if_neg n1]; exact if_pos ⟨h3.2, h3.1⟩
        have hp : pE F = (⟨2, (F.getD 1 0 : Nat), 0, zC, (F.getD 2 0 : Nat), (F.getD 3 0 : Nat)⟩, true) := by unfold pE; rw [if_neg h1, if_neg h2]; exact if_pos h3
        unfold er; rw [hr, hp, Bool.true_and]
      · have hr : rawE F = zE := by unfold rawE; rw [if_neg n1, if_neg (fun h => h3 ⟨h.2, h.1⟩)]; exact if_neg (fun h => h2 ⟨h.2.1, by have := h.1; omega⟩)
        have hp : pE F = (zE, false) := by unfold pE; rw [if_neg h1, if_neg h2]; exact if_neg h3
        unfold er; rw [hr, hp, zE_no]; simp
theorem pE_sm {F : List Nat} (hB : isB F) : smC (pE F).1.call := by
  have sz : smC zC := ⟨by decide, by decide, by decide⟩
  unfold pE
  by_cases h1 : F.getD 0 0 = 0 ∧ F.length = 3
  · rw [if_pos h1]; exact sz
  · rw [if_neg h1]
    by_cases h2 : F.getD 0 0 = 1 ∧ 2 ≤ F.length
    · rw [if_pos h2]
      cases hc : cr (F.drop 2) with
      | none => exact sz
      | some x => exact (cb_cr (isB_drop hB 2) hc).2.2
    · rw [if_neg h2]
      by_cases h3 : F.getD 0 0 = 2 ∧ F.length = 4
      · rw [if_pos h3]; exact sz
      · rw [if_neg h3]; exact sz

/-- An entry's box of the call's own, still empty. -/
structure ResE (w wr : World) (X : Nat) : Prop where
  g : w.grownBy wr none
  sz : X < wr.heap.size
  xw : w.heap.size ≤ X
  r : ∀ i, i < 9 → wr.cell? ⟨X, i, none⟩ = zE.cells[i]?
  rf : ∀ i, wr.frozen? ⟨X, i, none⟩ = false
theorem ResE.kept {w wr w' : World} {X : Nat} (H : ResE w wr X) (k : wr.grownBy w' none) : ResE w w' X :=
  ⟨H.g.trans k, Nat.lt_of_lt_of_le H.sz k.size, H.xw, fun i hi => (k.cell_far ⟨X, i, none⟩ H.sz (by simp)).trans (H.r i hi), fun i => (k.frozen_far ⟨X, i, none⟩ H.sz (by simp)).trans (H.rf i)⟩
theorem rese_new {w wr : World} (g : w.grownBy wr none) : ResE w (wr.alloc (.cells #[.int .i64 0, .int .i64 0, .int .i64 0, .int .i64 0, .int .u64 0, .int .u64 0, .int .u64 0, .int .i64 0, .int .i64 0] 55)) wr.heap.size := by
  refine ⟨g.trans (World.grownBy_alloc wr _ none), by simp, g.size, fun i hi => ?_, fun i => by simp⟩
  rw [World.cell?_alloc_new]
  match i, hi with
  | 0, _ => rfl | 1, _ => rfl | 2, _ => rfl | 3, _ => rfl | 4, _ => rfl | 5, _ => rfl | 6, _ => rfl | 7, _ => rfl | 8, _ => rfl
/-- A world whose block X's nine cells have been written, one behind the other. -/
def put9 (w : World) (X : Nat) (v0 v1 v2 v3 v4 v5 v6 v7 v8 : Value) : World :=
  (((((((((w.setCell ⟨X, 0, none⟩ v0).setCell ⟨X, 1, none⟩ v1).setCell ⟨X, 2, none⟩ v2).setCell ⟨X, 3, none⟩ v3).setCell ⟨X, 4, none⟩ v4).setCell ⟨X, 5, none⟩ v5).setCell ⟨X, 6, none⟩ v6).setCell ⟨X, 7, none⟩ v7).setCell ⟨X, 8, none⟩ v8)
theorem put9_only (w : World) (X : Nat) (v0 v1 v2 v3 v4 v5 v6 v7 v8 : Value) : Only X (X + 1) w (put9 w X v0 v1 v2 v3 v4 v5 v6 v7 v8) := by
  have k : ∀ (i : Nat) (w5 : World) (v5 : Value), Only X (X + 1) w5 (w5.setCell ⟨X, i, none⟩ v5) := fun i w5 v5 => Only.set w5 ⟨X, i, none⟩ v5 (Nat.le_refl _) (Nat.lt_succ_self _)
  exact ((((((((k 0 _ _).trans (k 1 _ _)).trans (k 2 _ _)).trans (k 3 _ _)).trans (k 4 _ _)).trans (k 5 _ _)).trans (k 6 _ _)).trans (k 7 _ _)).trans (k 8 _ _)
theorem put9_at {w : World} {X : Nat} (v0 v1 v2 v3 v4 v5 v6 v7 v8 : Value) (h : ∀ i, i < 9 → ∃ u, w.cell? ⟨X, i, none⟩ = some u) (i : Nat) (hi : i < 9) : (put9 w X v0 v1 v2 v3 v4 v5 v6 v7 v8).cell? ⟨X, i, none⟩ = [v0, v1, v2, v3, v4, v5, v6, v7, v8][i]? := by
  have ot : ∀ (w5 : World) (i j : Nat) (v5 : Value), i ≠ j → (w5.setCell ⟨X, i, none⟩ v5).cell? ⟨X, j, none⟩ = w5.cell? ⟨X, j, none⟩ := fun w5 i j v5 hij => World.cell?_setCell_other _ _ _ _ (by intro h; injection h with _ h; exact hij h)
  have sm : ∀ (w5 : World) (i : Nat) (v5 : Value), (∃ u, w5.cell? ⟨X, i, none⟩ = some u) → (w5.setCell ⟨X, i, none⟩ v5).cell? ⟨X, i, none⟩ = some v5 := fun w5 i v5 ⟨u, hu⟩ => World.cell?_setCell_same _ _ _ hu
  unfold put9
  match i, hi with
  | 0, _ => rw [ot _ 8 0 _ (by decide), ot _ 7 0 _ (by decide), ot _ 6 0 _ (by decide), ot _ 5 0 _ (by decide), ot _ 4 0 _ (by decide), ot _ 3 0 _ (by decide), ot _ 2 0 _ (by decide), ot _ 1 0 _ (by decide), sm _ 0 _ (h 0 (by decide))]; rfl
  | 1, _ => rw [ot _ 8 1 _ (by decide), ot _ 7 1 _ (by decide), ot _ 6 1 _ (by decide), ot _ 5 1 _ (by decide), ot _ 4 1 _ (by decide), ot _ 3 1 _ (by decide), ot _ 2 1 _ (by decide), sm _ 1 _ (by rw [ot _ 0 1 _ (by decide)]; exact h 1 (by decide))]; rfl
  | 2, _ => rw [ot _ 8 2 _ (by decide), ot _ 7 2 _ (by decide), ot _ 6 2 _ (by decide), ot _ 5 2 _ (by decide), ot _ 4 2 _ (by decide), ot _ 3 2 _ (by decide), sm _ 2 _ (by rw [ot _ 1 2 _ (by decide), ot _ 0 2 _ (by decide)]; exact h 2 (by decide))]; rfl
  | 3, _ => rw [ot _ 8 3 _ (by decide), ot _ 7 3 _ (by decide), ot _ 6 3 _ (by decide), ot _ 5 3 _ (by decide), ot _ 4 3 _ (by decide), sm _ 3 _ (by rw [ot _ 2 3 _ (by decide), ot _ 1 3 _ (by decide), ot _ 0 3 _ (by decide)]; exact h 3 (by decide))]; rfl
  | 4, _ => rw [ot _ 8 4 _ (by decide), ot _ 7 4 _ (by decide), ot _ 6 4 _ (by decide), ot _ 5 4 _ (by decide), sm _ 4 _ (by rw [ot _ 3 4 _ (by decide), ot _ 2 4 _ (by decide), ot _ 1 4 _ (by decide), ot _ 0 4 _ (by decide)]; exact h 4 (by decide))]; rfl
  | 5, _ => rw [ot _ 8 5 _ (by decide), ot _ 7 5 _ (by decide), ot _ 6 5 _ (by decide), sm _ 5 _ (by rw [ot _ 4 5 _ (by decide), ot _ 3 5 _ (by decide), ot _ 2 5 _ (by decide), ot _ 1 5 _ (by decide), ot _ 0 5 _ (by decide)]; exact h 5 (by decide))]; rfl
  | 6, _ => rw [ot _ 8 6 _ (by decide), ot _ 7 6 _ (by decide), sm _ 6 _ (by rw [ot _ 5 6 _ (by decide), ot _ 4 6 _ (by decide), ot _ 3 6 _ (by decide), ot _ 2 6 _ (by decide), ot _ 1 6 _ (by decide), ot _ 0 6 _ (by decide)]; exact h 6 (by decide))]; rfl
  | 7, _ => rw [ot _ 8 7 _ (by decide), sm _ 7 _ (by rw [ot _ 6 7 _ (by decide), ot _ 5 7 _ (by decide), ot _ 4 7 _ (by decide), ot _ 3 7 _ (by decide), ot _ 2 7 _ (by decide), ot _ 1 7 _ (by decide), ot _ 0 7 _ (by decide)]; exact h 7 (by decide))]; rfl
  | 8, _ => rw [sm _ 8 _ (by rw [ot _ 7 8 _ (by decide), ot _ 6 8 _ (by decide), ot _ 5 8 _ (by decide), ot _ 4 8 _ (by decide), ot _ 3 8 _ (by decide), ot _ 2 8 _ (by decide), ot _ 1 8 _ (by decide), ot _ 0 8 _ (by decide)]; exact h 8 (by decide))]; rfl
end Go.Proofs.YtcnojgkolpdomaaDoor
