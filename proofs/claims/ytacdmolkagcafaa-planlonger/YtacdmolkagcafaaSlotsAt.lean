/-
  Whose tick it is, cycle by cycle.
-/
import Derived.Test.YtacdmolkagcafaaSlots9
namespace Go.Proofs.Ytacdmolkagcafaa
open Go.RowKit Go.Lib
set_option linter.unusedVariables false

theorem at_time {a : Array Value} {O : Nat → Int} {L : Nat → Nat} {n C : Nat} (h : PlV a O L n C) (hn : 0 < n) (x i : Nat) (hx : x + 1 < 18446744073709551616) (h1 : begN L n i ≤ x) (h2 : x < begN L n (i + 1)) (w : World) :
    Calls Try.prog 13 #[.agg a, .int .u64 ((x + 1 : Nat) : Int)] w fun e w' => e = .returned (.tuple #[.int .i64 (O (i % n)), .bool (decide (x + 1 = begN L n (i + 1)))]) ∧ w.grownBy w' none := by
  have hj : i % n < n := Nat.mod_lt _ hn
  have hi : i = i % n + i / n * n := by have := Nat.mod_add_div i n; rw [Nat.mul_comm n] at this; omega
  have e1 : begN L n i = sumN L (i % n) + i / n * C := by
    rw [h.hC, ← begN_low L n (i % n) (by omega), ← begN_on, ← hi]
  have e2 : begN L n (i + 1) = sumN L (i % n + 1) + i / n * C := by
    rw [h.hC, ← begN_low L n (i % n + 1) (by omega), ← begN_on]
    congr 1; omega
  have e3 : sumN L (i % n + 1) ≤ C := by rw [h.hC]; exact sumN_mono L (by omega)
  have e4 : x % C = x - i / n * C := by
    have : x = (x - i / n * C) + i / n * C := by omega
    rw [this, Nat.add_mul_mod_self_right, Nat.mod_eq_of_lt (by omega)]
    omega
  have := at_slot h x (i % n) (x - i / n * C) hx e4.symm hj (by omega) (by omega) w
  refine this.mono fun e w' ⟨he, k⟩ => ⟨?_, k⟩
  rw [he]
  have hd : decide (x - i / n * C + 1 = sumN L (i % n + 1)) = decide (x + 1 = begN L n (i + 1)) := decide_eq_decide.2 (by rw [e2]; omega)
  rw [hd]
end Go.Proofs.Ytacdmolkagcafaa
