/-
  What the statements of layer 9 share: the slots that came in, whose they are, how many.
-/
import Derived.Test.YtacdmolkagcafaaAlive9
namespace Go.Proofs.Ytacdmolkagcafaa
open Go.RowKit Go.Lib
set_option linter.unusedVariables false

theorem SlAt.of {W : World} {sa : Option Addr} {len sb off : Nat} {zs : Nat → Nat → Int} (hs : 0 < len → sa = some ⟨sb, off, none⟩ ∧ sb < W.heap.size) (hz : ∀ j, j < len → ∀ i, i < 2 → W.cell? ⟨sb, off + j * 2 + i, none⟩ = some (.int .i64 (zs j i))) : SlAt W sa sb off len zs :=
  ⟨fun h => (hs h).1, fun j hj => hz j hj 0 (by omega), fun j hj => hz j hj 1 (by omega)⟩

theorem turns_right {n : Nat} {Z : Nat → Nat → Int} {tn who : Int} (h : RightP n Z tn) (h0 : 0 ≤ who) (h1 : who < tn) : ∃ P E m, TurnsOf (fun i => Z i 0) (fun i => (Z i 1).toNat) n who P E m := by
  obtain ⟨j, hj, hz⟩ := h.2.2.2.2 who.toNat (by omega)
  have hw : Z j 0 = who := by omega
  refine turns_of who (by omega) (fun i hi => by have := h.2.2.2.1 i hi; omega) ?_
  have h3 := own_lt (O := fun i => Z i 0) (n := n) (who := who) (i := j) (j := n) (by rw [Nat.mod_eq_of_lt hj]; exact hw) hj
  omega

/-- How many of the first k are a tenant's, and what they come to. -/
def mineN (Z : Nat → Nat → Int) (who : Int) (k : Nat) : Nat := sumN (fun j => if Z j 0 = who then 1 else 0) k
theorem mine_own (Z : Nat → Nat → Int) (who : Int) (n : Nat) : ownN (fun i => Z i 0) n who n = mineN Z who n := ownN_low _ n who n (Nat.le_refl _)
theorem mine_le (Z : Nat → Nat → Int) (who : Int) (n : Nat) : mineN Z who n ≤ n := by
  have := sumN_le (fun j => if Z j 0 = who then 1 else 0) 1 n (fun i _ => by split <;> omega)
  unfold mineN; omega
theorem mine_yes {Z : Nat → Nat → Int} {who : Int} {k : Nat} (h : Z k 0 = who) : mineN Z who (k + 1) = mineN Z who k + 1 := by
  show mineN Z who k + (if Z k 0 = who then 1 else 0) = _
  rw [if_pos h]
theorem mine_no {Z : Nat → Nat → Int} {who : Int} {k : Nat} (h : ¬ Z k 0 = who) : mineN Z who (k + 1) = mineN Z who k := by
  show mineN Z who k + (if Z k 0 = who then 1 else 0) = _
  rw [if_neg h]; rfl

/-- What a tenant's slots come to. -/
def lensN (Z : Nat → Nat → Int) (who : Int) (k : Nat) : Nat := sumN (fun j => if Z j 0 = who then (Z j 1).toNat else 0) k
theorem lens_yes {Z : Nat → Nat → Int} {who : Int} {k : Nat} (h : Z k 0 = who) : lensN Z who (k + 1) = lensN Z who k + (Z k 1).toNat := by
  show lensN Z who k + (if Z k 0 = who then (Z k 1).toNat else 0) = _
  rw [if_pos h]
theorem lens_no {Z : Nat → Nat → Int} {who : Int} {k : Nat} (h : ¬ Z k 0 = who) : lensN Z who (k + 1) = lensN Z who k := by
  show lensN Z who k + (if Z k 0 = who then (Z k 1).toNat else 0) = _
  rw [if_neg h]; rfl
theorem lens_le {Z : Nat → Nat → Int} {tn : Int} {n : Nat} (h : okS Z tn n) (who : Int) (k : Nat) (hk : k ≤ n) : lensN Z who k ≤ k * 1000 :=
  sumN_le _ 1000 k (fun i hi => by have := h i (by omega); split <;> omega)

theorem TurnsOf.sum {O : Nat → Int} {L : Nat → Nat} {n : Nat} {who : Int} {P E m : Nat → Nat} (T : TurnsOf O L n who P E m) : ∀ N, sumN (fun r => E r - P r) (ownN O n who N) = sumN (fun i => if O (i % n) = who then L (i % n) else 0) N
  | 0 => rfl
  | N + 1 => by
    have ih := TurnsOf.sum T N
    rw [ownN_succ]
    show _ = sumN (fun i => if O (i % n) = who then L (i % n) else 0) N + (if O (N % n) = who then L (N % n) else 0)
    by_cases h : O (N % n) = who
    · rw [if_pos h, if_pos h]
      show sumN (fun r => E r - P r) (ownN O n who N) + (E (ownN O n who N) - P (ownN O n who N)) = _
      obtain ⟨h1, h2⟩ := T.is N h
      rw [ih, h1, h2, begN_succ]; omega
    · rw [if_neg h, if_neg h, Nat.add_zero, Nat.add_zero, ih]
theorem TurnsOf.window {Z : Nat → Nat → Int} {n : Nat} {who : Int} {P E m : Nat → Nat} (T : TurnsOf (fun i => Z i 0) (fun i => (Z i 1).toNat) n who P E m) (t : Nat) : sumN (fun r => E (m t + r) - P (m t + r)) (mineN Z who n) = lensN Z who n := by
  have h1 := T.sum n
  have h2 := sumN_window (fun r => E r - P r) (ownN (fun i => Z i 0) n who n) (fun r => by show E (r + _) - P (r + _) = _; rw [T.t.perE, T.t.perP]; omega) (m t)
  rw [mine_own] at h1 h2
  rw [h2, h1]
  exact sumN_congr n fun i hi => by rw [Nat.mod_eq_of_lt hi]
theorem TurnsOf.len_le {O : Nat → Int} {L : Nat → Nat} {n : Nat} {who : Int} {P E m : Nat → Nat} (T : TurnsOf O L n who P E m) (hn : 0 < n) (hL : ∀ i, i < n → L i ≤ 1000) (r : Nat) : E r - P r ≤ 1000 := by
  obtain ⟨i, _, _, h1, h2⟩ := T.at r
  rw [h1, h2, begN_succ]
  have := hL (i % n) (Nat.mod_lt _ hn)
  omega
end Go.Proofs.Ytacdmolkagcafaa
