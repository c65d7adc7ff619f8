/-
  The walk of LedgerLowers, over this seat's translation: for all numbers it answers true, and leaves all that was as it was.
-/
import Derived.Test.YtchookgdajkipaaAlive6
import Derived.Test.YtchookgdajkipaaPlain
namespace Go.Proofs.Ytchookgdajkipaa
open Go.RowKit Go.Lib
set_option maxRecDepth 100000

theorem and1023 (r : Int) : bits .and .i64 r 1023 = r % 1024 := by
  have := i64_mask 10 (by decide) r
  simpa using this

set_option maxRecDepth 100000 in
set_option maxHeartbeats 8000000 in
theorem lowers_walk (x y z : Int) (w : World) :
    Calls Try.prog 5 #[.int .i64 x, .int .i64 y, .int .i64 z] w fun e w' => e = .returned (.bool true) ∧ w.grownBy w' none := by
  have C0 := Lib.hid (alive6 w)
  obtain ⟨limit, ha, ha1, ha2⟩ : ∃ a, bits .and .i64 x 1023 = a ∧ 0 ≤ a ∧ a < 1024 := ⟨_, rfl, by rw [and1023]; omega, by rw [and1023]; omega⟩
  obtain ⟨lower, hb, hb1, hb2⟩ : ∃ a, bits .and .i64 y 1023 = a ∧ 0 ≤ a ∧ a < 1024 := ⟨_, rfl, by rw [and1023]; omega, by rw [and1023]; omega⟩
  obtain ⟨back, hc, hc1, hc2⟩ : ∃ a, bits .and .i64 z 1023 = a ∧ 0 ≤ a ∧ a < 1024 := ⟨_, rfl, by rw [and1023]; omega, by rw [and1023]; omega⟩
  go_enter Try.func5, Try.ntmps5
  go_wp2_with fail
  refine C0.out.mono ?_
  rintro e w1 ⟨rfl, k1⟩
  have ka := World.grownBy_alloc w1 (.cells #[.slice none 0 0] 26) none
  have S0 := LS.bk_new w1 w1.heap.size (Nat.le_refl _)
  have hB : w.heap.size ≤ w1.heap.size := k1.size
  have G1 := k1.trans ka
  have CL := Lib.hid (LS.one_limit0 limit S0 (by omega) ⟨#[107]⟩)
  unfold LS.kv at *
  clear C0 k1 ka S0
  go_wp2_with fail
  generalize w1.alloc (.cells #[.slice none 0 0] 26) = w2 at *
  refine CL.out.mono ?_
  rintro e w3 ⟨⟨y0, rfl⟩, q1, vs, hv, S1⟩
  have em : max limit 0 = limit := by omega
  rw [em] at S1
  have hS : w.heap.size ≤ w1.heap.size ∧ ∀ r, vs.ownBlock = some r → w.heap.size ≤ r := ⟨hB, fun r h => Nat.le_trans hB (LS.Bk.rowlt S1 r h).1⟩
  have G2 := q1.grown_own G1 ⟨hB, fun r h => by cases h⟩
  clear CL q1 hv G1 em
  have CT := Lib.hid (LS.one_take limit S1 (by omega) (by omega))
  unfold LS.kv at *
  clear S1
  go_wp2_with fail
  refine CT.out.mono ?_
  rintro e w4 ⟨rfl, q2, S2⟩
  have G3 := q2.grown_own G2 hS
  rw [Int.zero_add] at S2
  clear CT q2 G2
  by_cases hl : 0 < limit
  · have CT := Lib.hid (LS.one_take_no 1 S2 (by omega))
    unfold LS.kv at *
    go_wp2_with fail
    refine CT.out.mono ?_
    rintro e w4' ⟨rfl, k4⟩
    have S2 := S2.kept k4
    have G3 := G3.trans k4
    clear CT k4
    have CL2 := Lib.hid (LS.one_limit lower S2 (by omega))
    unfold LS.kv at *
    clear S2
    go_wp2_with fail
    refine CL2.out.mono ?_
    rintro e w5 ⟨⟨y1, rfl⟩, q3, S3⟩
    have em : max lower 0 = lower := by omega
    rw [em] at S3
    have G4 := q3.grown_own G3 hS
    clear CL2 q3 G3 em
    by_cases hbk : back ≤ limit
    · have CG := Lib.hid (LS.one_give back S3 hc1 hbk)
      unfold LS.kv at *
      clear S3
      go_wp2_with fail
      refine CG.out.mono ?_
      rintro e w6 ⟨rfl, q4, S4⟩
      have G5 := q4.grown_own G4 hS
      clear CG q4 G4
      have CU := Lib.hid (LS.one_used S4)
      unfold LS.kv at *
      go_wp2_with fail
      refine CU.out.mono ?_
      rintro e w7 ⟨rfl, k7⟩
      have S5 := S4.kept k7
      have G6 := G5.trans k7
      clear CU S4 G5 k7
      have CF := Lib.hid (LS.one_left S5)
      unfold LS.kv at *
      go_wp2_with fail
      refine CF.out.mono ?_
      rintro e w8 ⟨rfl, k8⟩
      have S6 := S5.kept k8
      have G7 := G6.trans k8
      clear CF S5 G6 k8
      have CT2 := Lib.hid (LS.one_take_any 1 S6)
      have hlf : decide ((0 : Int) ≤ 1 ∧ 1 ≤ lower - (limit - back)) = decide ((limit - back) < lower) := decide_eq_decide.2 (by omega)
      rw [hlf] at CT2
      unfold LS.kv at *
      clear hlf
      by_cases hm : lower - (limit - back) < 0
      · have em2 : max (lower - (limit - back)) 0 = 0 := by omega
        go_wp2_with fail
        refine CT2.out.mono ?_
        rintro e w9 ⟨rfl, q9, _⟩
        have G8 := q9.grown_own G7 hS
        go_wp2
        go_ret
        exact ⟨by simp <;> omega, G8⟩
      · have em2 : max (lower - (limit - back)) 0 = lower - (limit - back) := by omega
        go_wp2_with fail
        refine CT2.out.mono ?_
        rintro e w9 ⟨rfl, q9, _⟩
        have G8 := q9.grown_own G7 hS
        go_wp2
        go_ret
        exact ⟨by simp <;> omega, G8⟩
    · have CG := Lib.hid (LS.one_give_no back S3 (by omega))
      unfold LS.kv at *
      go_wp2_with fail
      refine CG.out.mono ?_
      rintro e w6 ⟨rfl, q4⟩
      have S4 := S3.kept q4
      have G5 := G4.trans q4
      clear CG q4 G4 S3
      have CU := Lib.hid (LS.one_used S4)
      unfold LS.kv at *
      go_wp2_with fail
      refine CU.out.mono ?_
      rintro e w7 ⟨rfl, k7⟩
      have S5 := S4.kept k7
      have G6 := G5.trans k7
      clear CU S4 G5 k7
      have CF := Lib.hid (LS.one_left S5)
      unfold LS.kv at *
      go_wp2_with fail
      refine CF.out.mono ?_
      rintro e w8 ⟨rfl, k8⟩
      have S6 := S5.kept k8
      have G7 := G6.trans k8
      clear CF S5 G6 k8
      have CT2 := Lib.hid (LS.one_take_any 1 S6)
      have hlf : decide ((0 : Int) ≤ 1 ∧ 1 ≤ lower - limit) = decide (limit < lower) := decide_eq_decide.2 (by omega)
      rw [hlf] at CT2
      unfold LS.kv at *
      clear hlf
      by_cases hm : lower - limit < 0
      · have em2 : max (lower - limit) 0 = 0 := by omega
        go_wp2_with fail
        refine CT2.out.mono ?_
        rintro e w9 ⟨rfl, q9, _⟩
        have G8 := q9.grown_own G7 hS
        go_wp2
        go_ret
        exact ⟨by simp <;> omega, G8⟩
      · have em2 : max (lower - limit) 0 = lower - limit := by omega
        go_wp2_with fail
        refine CT2.out.mono ?_
        rintro e w9 ⟨rfl, q9, _⟩
        have G8 := q9.grown_own G7 hS
        go_wp2
        go_ret
        exact ⟨by simp <;> omega, G8⟩
  · have CL2 := Lib.hid (LS.one_limit lower S2 (by omega))
    unfold LS.kv at *
    clear S2
    go_wp2_with fail
    refine CL2.out.mono ?_
    rintro e w5 ⟨⟨y1, rfl⟩, q3, S3⟩
    have em : max lower 0 = lower := by omega
    rw [em] at S3
    have G4 := q3.grown_own G3 hS
    clear CL2 q3 G3 em
    by_cases hbk : back ≤ limit
    · have CG := Lib.hid (LS.one_give back S3 hc1 hbk)
      unfold LS.kv at *
      clear S3
      go_wp2_with fail
      refine CG.out.mono ?_
      rintro e w6 ⟨rfl, q4, S4⟩
      have G5 := q4.grown_own G4 hS
      clear CG q4 G4
      have CU := Lib.hid (LS.one_used S4)
      unfold LS.kv at *
      go_wp2_with fail
      refine CU.out.mono ?_
      rintro e w7 ⟨rfl, k7⟩
      have S5 := S4.kept k7
      have G6 := G5.trans k7
      clear CU S4 G5 k7
      have CF := Lib.hid (LS.one_left S5)
      unfold LS.kv at *
      go_wp2_with fail
      refine CF.out.mono ?_
      rintro e w8 ⟨rfl, k8⟩
      have S6 := S5.kept k8
      have G7 := G6.trans k8
      clear CF S5 G6 k8
      have CT2 := Lib.hid (LS.one_take_any 1 S6)
      have hlf : decide ((0 : Int) ≤ 1 ∧ 1 ≤ lower - (limit - back)) = decide ((limit - back) < lower) := decide_eq_decide.2 (by omega)
      rw [hlf] at CT2
      unfold LS.kv at *
      clear hlf
      by_cases hm : lower - (limit - back) < 0
      · have em2 : max (lower - (limit - back)) 0 = 0 := by omega
        go_wp2_with fail
        refine CT2.out.mono ?_
        rintro e w9 ⟨rfl, q9, _⟩
        have G8 := q9.grown_own G7 hS
        go_wp2
        go_ret
        exact ⟨by simp <;> omega, G8⟩
      · have em2 : max (lower - (limit - back)) 0 = lower - (limit - back) := by omega
        go_wp2_with fail
        refine CT2.out.mono ?_
        rintro e w9 ⟨rfl, q9, _⟩
        have G8 := q9.grown_own G7 hS
        go_wp2
        go_ret
        exact ⟨by simp <;> omega, G8⟩
    · have CG := Lib.hid (LS.one_give_no back S3 (by omega))
      unfold LS.kv at *
      go_wp2_with fail
      refine CG.out.mono ?_
      rintro e w6 ⟨rfl, q4⟩
      have S4 := S3.kept q4
      have G5 := G4.trans q4
      clear CG q4 G4 S3
      have CU := Lib.hid (LS.one_used S4)
      unfold LS.kv at *
      go_wp2_with fail
      refine CU.out.mono ?_
      rintro e w7 ⟨rfl, k7⟩
      have S5 := S4.kept k7
      have G6 := G5.trans k7
      clear CU S4 G5 k7
      have CF := Lib.hid (LS.one_left S5)
      unfold LS.kv at *
      go_wp2_with fail
      refine CF.out.mono ?_
      rintro e w8 ⟨rfl, k8⟩
      have S6 := S5.kept k8
      have G7 := G6.trans k8
      clear CF S5 G6 k8
      have CT2 := Lib.hid (LS.one_take_any 1 S6)
      have hlf : decide ((0 : Int) ≤ 1 ∧ 1 ≤ lower - limit) = decide (limit < lower) := decide_eq_decide.2 (by omega)
      rw [hlf] at CT2
      unfold LS.kv at *
      clear hlf
      by_cases hm : lower - limit < 0
      · have em2 : max (lower - limit) 0 = 0 := by omega
        go_wp2_with fail
        refine CT2.out.mono ?_
        rintro e w9 ⟨rfl, q9, _⟩
        have G8 := q9.grown_own G7 hS
        go_wp2
        go_ret
        exact ⟨by simp <;> omega, G8⟩
      · have em2 : max (lower - limit) 0 = lower - limit := by omega
        go_wp2_with fail
        refine CT2.out.mono ?_
        rintro e w9 ⟨rfl, q9, _⟩
        have G8 := q9.grown_own G7 hS
        go_wp2
        go_ret
        exact ⟨by simp <;> omega, G8⟩
end Go.Proofs.Ytchookgdajkipaa
