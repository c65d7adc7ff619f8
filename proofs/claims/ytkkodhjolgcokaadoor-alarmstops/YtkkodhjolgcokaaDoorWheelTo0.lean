/-
  cmp.Compare, cmp.Or: what the wheel's order calls.
-/
import Derived.Test.YtkkodhjolgcokaaDoorWheel15
import Derived.LoopTactic
namespace Go.Proofs.YtkkodhjolgcokaaDoor
open Go.RowKit Go.Lib
set_option maxRecDepth 100000
set_option linter.unusedVariables false
/-- How two numbers stand. -/
def cmpI (x y : Int) : Int := if x < y then -1 else if y < x then 1 else 0
theorem cmp_u64 (x y : Nat) (w : World) : Calls Tryd.prog 51 #[.int .u64 (x : Nat), .int .u64 (y : Nat)] w fun e w' => e = .returned (.int .i64 (cmpI x y)) ∧ w = w' := by
  have C : ∀ z : Nat, ∀ w : World, Calls Tryd.prog 72 #[.int .u64 (z : Nat)] w fun e w' => e = .returned (.bool false) ∧ w = w' := fun z w => by
    go_enter Tryd.func72, Tryd.ntmps72
    go_wp2
    go_ret
    exact ⟨by simp, rfl⟩
  have CC := Lib.hid C
  clear C
  by_cases h1 : x < y
  · have e : cmpI x y = -1 := by unfold cmpI; rw [if_pos (by omega)]
    rw [e]
    have q1 : (x : Int) < (y : Int) := by omega
    clear e
    go_enter Tryd.func51, Tryd.ntmps51
    go_wp2_with fail
    refine (CC.out _ _).mono ?_
    rintro e w' ⟨rfl, rfl⟩
    go_wp2_with fail
    refine (CC.out _ _).mono ?_
    rintro e w' ⟨rfl, rfl⟩
    go_wp2
    go_ret
    exact ⟨rfl, rfl⟩
  · by_cases h2 : y < x
    · have e : cmpI x y = 1 := by unfold cmpI; rw [if_neg (by omega), if_pos (by omega)]
      rw [e]
      have q1 : ¬ (x : Int) < (y : Int) := by omega
      have q2 : (y : Int) < (x : Int) := by omega
      clear e
      go_enter Tryd.func51, Tryd.ntmps51
      go_wp2_with fail
      refine (CC.out _ _).mono ?_
      rintro e w' ⟨rfl, rfl⟩
      go_wp2_with fail
      refine (CC.out _ _).mono ?_
      rintro e w' ⟨rfl, rfl⟩
      go_wp2
      go_ret
      exact ⟨rfl, rfl⟩
    · have e : cmpI x y = 0 := by unfold cmpI; rw [if_neg (by omega), if_neg (by omega)]
      rw [e]
      have q1 : ¬ (x : Int) < (y : Int) := by omega
      have q2 : ¬ (y : Int) < (x : Int) := by omega
      clear e
      go_enter Tryd.func51, Tryd.ntmps51
      go_wp2_with fail
      refine (CC.out _ _).mono ?_
      rintro e w' ⟨rfl, rfl⟩
      go_wp2_with fail
      refine (CC.out _ _).mono ?_
      rintro e w' ⟨rfl, rfl⟩
      go_wp2
      go_ret
      exact ⟨rfl, rfl⟩
theorem cmp_int (x y : Int) (w : World) : Calls Tryd.prog 52 #[.int .i64 x, .int .i64 y] w fun e w' => e = .returned (.int .i64 (cmpI x y)) ∧ w = w' := by
  have C : ∀ z : Int, ∀ w : World, Calls Tryd.prog 73 #[.int .i64 z] w fun e w' => e = .returned (.bool false) ∧ w = w' := fun z w => by
    go_enter Tryd.func73, Tryd.ntmps73
    go_wp2
    go_ret
    exact ⟨by simp, rfl⟩
  have CC := Lib.hid C
  clear C
  by_cases h1 : x < y
  · have e : cmpI x y = -1 := by unfold cmpI; rw [if_pos (by omega)]
    rw [e]
    clear e
    go_enter Tryd.func52, Tryd.ntmps52
    go_wp2_with fail
    refine (CC.out _ _).mono ?_
    rintro e w' ⟨rfl, rfl⟩
    go_wp2_with fail
    refine (CC.out _ _).mono ?_
    rintro e w' ⟨rfl, rfl⟩
    go_wp2
    go_ret
    exact ⟨rfl, rfl⟩
  · by_cases h2 : y < x
    · have e : cmpI x y = 1 := by unfold cmpI; rw [if_neg (by omega), if_pos (by omega)]
      rw [e]
      clear e
      go_enter Tryd.func52, Tryd.ntmps52
      go_wp2_with fail
      refine (CC.out _ _).mono ?_
      rintro e w' ⟨rfl, rfl⟩
      go_wp2_with fail
      refine (CC.out _ _).mono ?_
      rintro e w' ⟨rfl, rfl⟩
      go_wp2
      go_ret
      exact ⟨rfl, rfl⟩
    · have e : cmpI x y = 0 := by unfold cmpI; rw [if_neg (by omega), if_neg (by omega)]
      rw [e]
      clear e
      go_enter Tryd.func52, Tryd.ntmps52
      go_wp2_with fail
      refine (CC.out _ _).mono ?_
      rintro e w' ⟨rfl, rfl⟩
      go_wp2_with fail
      refine (CC.out _ _).mono ?_
      rintro e w' ⟨rfl, rfl⟩
      go_wp2
      go_ret
      exact ⟨rfl, rfl⟩
/-- The first that isn't zero. -/
def orI (a b c : Int) : Int := if a ≠ 0 then a else if b ≠ 0 then b else c
set_option maxHeartbeats 2000000 in
theorem or_three (a b c : Int) (r : Nat) (w : World) (h0 : w.cell? ⟨r, 0, none⟩ = some (.int .i64 a)) (h1 : w.cell? ⟨r, 1, none⟩ = some (.int .i64 b)) (h2 : w.cell? ⟨r, 2, none⟩ = some (.int .i64 c)) :
    Calls Tryd.prog 50 #[.slice (some ⟨r, 0, none⟩) 3 3] w fun e w' => e = .returned (.int .i64 (orI a b c)) ∧ w = w' := by
  by_cases qa : a = 0
  · subst qa
    by_cases qb : b = 0
    · subst qb
      by_cases qc : c = 0
      · subst qc
        go_enter Tryd.func50, Tryd.ntmps50
        go_wp2_with fail
        refine wp_loop_rounds 4 ?_
        rw [rounds_succ]
        go_wp2_with fail
        rw [rounds_succ]
        go_wp2_with fail
        rw [rounds_succ]
        go_wp2_with fail
        rw [rounds_succ]
        go_wp2
        go_ret
        exact ⟨rfl, rfl⟩
      · have e1 : (c == 0) = false := by simpa using qc
        have e2 : decide (c = 0) = false := by simpa using qc
        go_enter Tryd.func50, Tryd.ntmps50
        go_wp2_with fail
        refine wp_loop_rounds 3 ?_
        rw [rounds_succ]
        go_wp2_with fail
        rw [rounds_succ]
        go_wp2_with fail
        rw [rounds_succ]
        go_wp2
        go_ret
        exact ⟨by simp [orI], rfl⟩
    · have e1 : (b == 0) = false := by simpa using qb
      have e2 : decide (b = 0) = false := by simpa using qb
      go_enter Tryd.func50, Tryd.ntmps50
      go_wp2_with fail
      refine wp_loop_rounds 2 ?_
      rw [rounds_succ]
      go_wp2_with fail
      rw [rounds_succ]
      go_wp2
      go_ret
      exact ⟨by simp [orI, qb], rfl⟩
  · have e1 : (a == 0) = false := by simpa using qa
    have e2 : decide (a = 0) = false := by simpa using qa
    go_enter Tryd.func50, Tryd.ntmps50
    go_wp2_with fail
    refine wp_loop_rounds 1 ?_
    rw [rounds_succ]
    go_wp2
    go_ret
    exact ⟨by simp [orI, qa], rfl⟩
end Go.Proofs.YtkkodhjolgcokaaDoor
