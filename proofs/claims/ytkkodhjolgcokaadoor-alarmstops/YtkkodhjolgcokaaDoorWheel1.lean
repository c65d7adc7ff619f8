/-
  Contracts of package wheel, over this seat's translation: listOf, digit, rowOf.
-/
import Derived.Test.YtkkodhjolgcokaaDoorChain5
import Derived.Test.YtkkodhjolgcokaaDoorShelf
import Derived.Laws.Bits64b
import Derived.Laws.Bits64
namespace Go.Proofs.YtkkodhjolgcokaaDoor
open Go.RowKit Go.Lib
set_option maxRecDepth 100000

/-- A time's bucket in a row. -/
def digN (row t : Nat) : Nat := if row = 0 then 0 else t / 2 ^ (6 * (row - 1)) % 64
/-- The row for a time, as it is now. -/
def rowN (now t : Nat) : Nat := if t ≤ now then 0 else (Lib.bitLen (t ^^^ now) + 5) / 6

theorem listOf_any (r b : Nat) (w : World) (hr : r ≤ 12) (hb : b < 64) : Calls Tryd.prog 44 #[.int .i64 r, .int .i64 b] w fun e w' => e = .returned (.int .i64 (r * 64 + b : Nat)) ∧ w = w' := by
  go_enter Tryd.func44, Tryd.ntmps44
  go_wp2
  go_ret
  exact ⟨ret_intC (by omega), rfl⟩

set_option maxHeartbeats 1000000 in
theorem digit_any (r t : Nat) (w : World) (hr : r ≤ 11) (ht : t < 18446744073709551616) : Calls Tryd.prog 45 #[.int .i64 r, .int .u64 t] w fun e w' => e = .returned (.int .i64 (digN r t : Nat)) ∧ w = w' := by
  unfold digN
  by_cases h0 : r = 0
  · subst h0
    go_enter Tryd.func45, Tryd.ntmps45
    go_wp2
    go_ret
    exact ⟨rfl, rfl⟩
  · have q0 : ((r : Int) == 0) = false := by rw [beq_eq_false_iff_ne]; omega
    have q1 : (0 : Int) ≤ 6 * ((r : Int) - 1) := by omega
    rw [if_neg h0]
    go_enter Tryd.func45, Tryd.ntmps45
    go_wp2
    go_ret
    refine ⟨ret_intC ?_, rfl⟩
    have e : (t : Int) / 2 ^ (6 * (r - 1)) = ((t / 2 ^ (6 * (r - 1)) : Nat) : Int) := by simp
    rw [e]
    generalize t / 2 ^ (6 * (r - 1)) = q
    rw [Int.tmod_eq_emod_of_nonneg (by omega)]
    unfold wrap64
    omega
theorem digN_lt (r t : Nat) : digN r t < 64 := by unfold digN; split <;> omega

theorem rowN_le (now t : Nat) (h : t < 18446744073709551616) (hn : now < 18446744073709551616) (hb : Lib.bitLen (t ^^^ now) ≤ 64) : rowN now t ≤ 11 := by unfold rowN; split <;> omega

set_option maxHeartbeats 1000000 in
theorem rowOf_any (wb now t : Nat) (w : World) (h0 : w.cell? ⟨wb, 0, none⟩ = some (.int .u64 (now : Nat))) (ht : t < 18446744073709551616) (hn : now < 18446744073709551616) (hb : Lib.bitLen (t ^^^ now) ≤ 64) : Calls Tryd.prog 42 #[.pointer (some ⟨wb, 0, none⟩), .int .u64 t] w fun e w' => e = .returned (.int .i64 (rowN now t : Nat)) ∧ w = w' := by
  unfold rowN
  by_cases h : t ≤ now
  · have q : (t : Int) ≤ (now : Int) := by omega
    rw [if_pos h]
    go_enter Tryd.func42, Tryd.ntmps42
    go_wp2
    go_ret
    exact ⟨rfl, rfl⟩
  · have q : ¬ (t : Int) ≤ (now : Int) := by omega
    have hx := bits_xor_u64_nat t now ht hn
    have hl : t ^^^ now < 18446744073709551616 := Nat.xor_lt_two_pow (n := 64) ht hn
    have CL := Lib.hid (Tryd.bits_Len64 ((t ^^^ now : Nat) : Int) w (by omega) (by omega))
    simp only [Int.toNat_natCast] at CL
    rw [if_neg h]
    generalize Lib.bitLen (t ^^^ now) = l at *
    generalize t ^^^ now = x at *
    go_enter Tryd.func42, Tryd.ntmps42
    go_wp2_with fail
    refine CL.out.mono ?_
    rintro e w' ⟨rfl, rfl⟩
    go_wp2
    go_ret
    exact ⟨ret_intC (by omega), rfl⟩
end Go.Proofs.YtkkodhjolgcokaaDoor
