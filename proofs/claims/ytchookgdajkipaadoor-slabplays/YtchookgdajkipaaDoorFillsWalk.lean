/-
  The walk of the statement SlabFills: places are filled from below, each once, until there is none left; of places that become free the first one is filled first.
-/
import Derived.Test.YtchookgdajkipaaDoorAlive3
import Derived.Test.YtchookgdajkipaaDoorRegAt
namespace Go.Proofs.YtchookgdajkipaaDoor
open Go.RowKit Go.Lib

def mk31 (z : Int) : Nat := (z % 32).toNat
theorem mk31_lt (z : Int) : mk31 z < 32 := by unfold mk31; omega
theorem mask_31 (z : Int) : bits .and .i64 z 31 = (mk31 z : Int) := by
  have h := i64_mask 5 (by decide) z
  have e : bits .and .i64 z 31 = z % 32 := h
  rw [e]; unfold mk31; omega
theorem room_small (k : Nat) (h : k ≤ 256) : nOf (fun _ => (k : Int)) 0 = k := by show roomN (k : Int) = k; unfold roomN; omega

/-- All places below j are taken, no other one. -/
def below_ (j : Nat) : Nat → Bool := fun i => decide (i < j)
theorem below_zero : (fun _ => false) = below_ 0 := by funext i; simp [below_]
theorem below_succ (j : Nat) : ins (below_ j) j = below_ (j + 1) := by
  funext i
  simp only [ins, below_]
  by_cases h : i = j
  · subst h; simp
  · have : (i == j) = false := by rw [beq_eq_false_iff_ne]; exact h
    rw [this, Bool.false_or]
    apply decide_eq_decide.2; omega

/-- Marks of a set's gaps, below n, in a row. -/
structure GapsAt (w : World) (fr n : Nat) (S : Nat → Bool) : Prop where
  c : ∀ i, i < n → w.cell? ⟨fr, i, none⟩ = some (.int .i64 ((!S i).toNat : Nat))
  f : ∀ i, i < n → w.frozen? ⟨fr, i, none⟩ = false
  l : fr < w.heap.size
theorem GapsAt.only {w w' : World} {fr n lo hi : Nat} {S : Nat → Bool} (h : GapsAt w fr n S) (k : Only lo hi w w') (hr : fr < lo ∨ hi ≤ fr) : GapsAt w' fr n S :=
  ⟨fun i hi => (k.cell ⟨fr, i, none⟩ h.l hr).trans (h.c i hi), fun i hi => (k.frozen ⟨fr, i, none⟩ h.l hr).trans (h.f i hi), Nat.lt_of_lt_of_le h.l k.size⟩
theorem GapsAt.del {w : World} {fr n k : Nat} {S : Nat → Bool} (h : GapsAt w fr n S) (hk : k < n) (_hS : S k = true) : GapsAt (w.setCell ⟨fr, k, none⟩ (.int .i64 1)) fr n (del S k) := by
  refine ⟨fun i hi => ?_, fun i hi => (World.frozen?_setCell ..).trans (h.f i hi), by rw [size_set]; exact h.l⟩
  by_cases e : i = k
  · subst e
    have : Go.Proofs.YtchookgdajkipaaDoor.del S i i = false := by simp [Go.Proofs.YtchookgdajkipaaDoor.del]
    rw [this]; exact World.cell?_setCell_same _ _ _ (h.c i hi)
  · have : Go.Proofs.YtchookgdajkipaaDoor.del S k i = S i := by simp [Go.Proofs.YtchookgdajkipaaDoor.del, e]
    rw [this, World.cell?_setCell_other _ _ _ _ (by intro e'; injection e' with e1 e2; exact e e2.symm)]; exact h.c i hi

/-- Behind t numbers taken, the last of them told. -/
structure Filled (S0 S : Nat → Bool) (n t : Nat) (last : Int) : Prop where
  le : ∀ i : Nat, (i : Int) ≤ last → i < n → S i = true
  gt : ∀ i : Nat, last < (i : Int) → S i = S0 i
  c : cnt S n = cnt S0 n + t

theorem filled_step {S0 S : Nat → Bool} {n t p : Nat} {last : Int} (h : Filled S0 S n t last) (hp : p < n) (hS : S p = false) (hl : ∀ q, q < p → S q = true) : last < (p : Int) ∧ S0 p = false ∧ Filled S0 (ins S p) n (t + 1) p := by
  have h1 : last < (p : Int) := by
    refine Decidable.byContradiction fun hn => ?_
    have := h.le p (by omega) hp
    rw [hS] at this; cases this
  refine ⟨h1, (h.gt p h1).symm.trans hS, fun i hi hin => ?_, fun i hi => ?_, ?_⟩
  · by_cases e : i = p
    · subst e; simp [ins]
    · simp [ins, hl i (by omega)]
  · have : ¬ i = p := by omega
    simp [ins, this, h.gt i (by omega)]
  · rw [cnt_ins S p hS, h.c]; simp [hp]; omega

end Go.Proofs.YtchookgdajkipaaDoor
