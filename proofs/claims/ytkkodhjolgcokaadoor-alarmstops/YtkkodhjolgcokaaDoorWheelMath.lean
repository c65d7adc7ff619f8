/-
  The arithmetic of a wheel: which row and bucket a time has, and which stay as the time goes on.
-/
import Derived.Test.YtkkodhjolgcokaaDoorWheel4
namespace Go.Proofs.YtkkodhjolgcokaaDoor
set_option linter.unusedVariables false

theorem bitLenAux_le : ∀ (f x k : Nat), x < 2 ^ f → (Lib.bitLenAux f x ≤ k ↔ x < 2 ^ k)
  | 0, x, k, h => by
    have : x = 0 := by simpa using h
    subst this
    simp [Lib.bitLenAux, Nat.two_pow_pos]
  | f + 1, x, k, h => by
    unfold Lib.bitLenAux
    by_cases h0 : x = 0
    · subst h0; simp [Nat.two_pow_pos]
    · rw [if_neg h0]
      have hx : x / 2 < 2 ^ f := by rw [Nat.pow_succ] at h; omega
      cases k with
      | zero => simp; omega
      | succ k =>
        have ih := bitLenAux_le f (x / 2) k hx
        rw [Nat.pow_succ]
        constructor
        · intro h1; have := ih.1 (by omega); omega
        · intro h1; have := ih.2 (by omega); omega
theorem bitLen_le {x k : Nat} (h : x < 18446744073709551616) : Lib.bitLen x ≤ k ↔ x < 2 ^ k := bitLenAux_le 64 x k h
theorem xor_lt {a b : Nat} (k : Nat) : a ^^^ b < 2 ^ k ↔ a / 2 ^ k = b / 2 ^ k := by
  have e : (a ^^^ b) / 2 ^ k = (a / 2 ^ k) ^^^ (b / 2 ^ k) := by
    rw [← Nat.shiftRight_eq_div_pow, ← Nat.shiftRight_eq_div_pow, ← Nat.shiftRight_eq_div_pow, Nat.shiftRight_xor_distrib]
  rw [← Nat.div_eq_zero_iff_lt (Nat.two_pow_pos k), e]
  constructor
  · intro h
    apply Nat.eq_of_testBit_eq
    intro i
    have h1 := congrArg (fun x => x.testBit i) h
    simp only [Nat.testBit_xor, Nat.zero_testBit] at h1
    revert h1
    cases (a / 2 ^ k).testBit i <;> cases (b / 2 ^ k).testBit i <;> simp
  · intro h; rw [h, Nat.xor_self]
theorem xor_lt64 {a b : Nat} (ha : a < 18446744073709551616) (hb : b < 18446744073709551616) : a ^^^ b < 18446744073709551616 := Nat.xor_lt_two_pow (n := 64) ha hb
theorem bitLen64 {a b : Nat} (ha : a < 18446744073709551616) (hb : b < 18446744073709551616) : Lib.bitLen (a ^^^ b) ≤ 64 := (bitLen_le (xor_lt64 ha hb)).2 (xor_lt64 ha hb)

/-- The row, by the digits that stay. -/
theorem row_le {now t : Nat} (ht : t < 18446744073709551616) (hn : now < 18446744073709551616) (h : now < t) (r : Nat) : rowN now t ≤ r ↔ t / 2 ^ (6 * r) = now / 2 ^ (6 * r) := by
  unfold rowN
  rw [if_neg (by omega), ← xor_lt, ← bitLen_le (xor_lt64 ht hn)]
  omega
theorem row_zero {now t : Nat} (ht : t < 18446744073709551616) (hn : now < 18446744073709551616) : rowN now t = 0 ↔ t ≤ now := by
  constructor
  · intro h
    rcases Nat.lt_or_ge now t with h1 | h1
    · have := (row_le ht hn h1 0).1 (by omega)
      simp at this; omega
    · exact h1
  · intro h; unfold rowN; rw [if_pos h]
theorem div_more {a b : Nat} {i j : Nat} (h : a / 2 ^ i = b / 2 ^ i) (hij : i ≤ j) : a / 2 ^ j = b / 2 ^ j := by
  obtain ⟨d, rfl⟩ := Nat.exists_eq_add_of_le hij
  rw [Nat.pow_add, ← Nat.div_div_eq_div_mul, ← Nat.div_div_eq_div_mul, h]

/-- An alarm in a bucket that the time does not come to stays where it stands. -/
theorem slot_stays {now tg t : Nat} (ht : t < 18446744073709551616) (hto : tg < 18446744073709551616) (h1 : now < tg) (h2 : now < t)
    (h : rowN now tg < rowN now t ∨ (rowN now t = rowN now tg ∧ digN (rowN now tg) tg < digN (rowN now t) t)) : tg < t ∧ rowN tg t = rowN now t := by
  have hn : now < 18446744073709551616 := by omega
  have ltop := row_le hto hn h1
  have lrow := row_le ht hn h2
  have r0 : rowN now t ≠ 0 := fun e => by have := (row_zero ht hn).1 e; omega
  generalize hR : rowN now t = R at *
  generalize hT : rowN now tg = T at *
  have e1 := (lrow R).1 (Nat.le_refl _)
  have e2 := (ltop T).1 (Nat.le_refl _)
  obtain ⟨Q, rfl⟩ : ∃ Q, R = Q + 1 := ⟨R - 1, by omega⟩
  have e3 : t / 2 ^ (6 * Q) ≠ now / 2 ^ (6 * Q) := fun e => by have := (lrow Q).2 e; omega
  have key : tg / 2 ^ (6 * Q) < t / 2 ^ (6 * Q) := by
    rcases h with h | ⟨h, hd⟩
    · have e4 : tg / 2 ^ (6 * Q) = now / 2 ^ (6 * Q) := div_more e2 (by omega)
      have e5 : now / 2 ^ (6 * Q) ≤ t / 2 ^ (6 * Q) := Nat.div_le_div_right (by omega)
      omega
    · subst h
      unfold digN at hd
      rw [if_neg (by omega), if_neg (by omega), Nat.add_sub_cancel] at hd
      have e4 : t / 2 ^ (6 * (Q + 1)) = tg / 2 ^ (6 * (Q + 1)) := e1.trans e2.symm
      rw [show 6 * (Q + 1) = 6 * Q + 6 by omega, Nat.pow_add, ← Nat.div_div_eq_div_mul, ← Nat.div_div_eq_div_mul] at e4
      generalize t / 2 ^ (6 * Q) = x at *
      generalize tg / 2 ^ (6 * Q) = y at *
      have e6 : (2 : Nat) ^ 6 = 64 := rfl
      rw [e6] at e4
      omega
  have hlt : tg < t := by
    rcases Nat.lt_or_ge tg t with h3 | h3
    · exact h3
    · have := Nat.div_le_div_right (c := 2 ^ (6 * Q)) h3; omega
  refine ⟨hlt, ?_⟩
  have l2 := row_le ht hto hlt
  have u1 : rowN tg t ≤ Q + 1 := (l2 (Q + 1)).2 (by
    rcases h with h | ⟨h, _⟩
    · rw [e1]; exact (div_more e2 (by omega)).symm
    · subst h; rw [e1, e2])
  have u2 : ¬ rowN tg t ≤ Q := fun e => by have := (l2 Q).1 e; omega
  omega
theorem slotN_stays {now tg t : Nat} (ht : t < 18446744073709551616) (hto : tg < 18446744073709551616) (h1 : now < tg) (h2 : now < t)
    (h : rowN now tg < rowN now t ∨ (rowN now t = rowN now tg ∧ digN (rowN now tg) tg < digN (rowN now t) t)) : slotN tg t = slotN now t := by
  unfold slotN; rw [(slot_stays ht hto h1 h2 h).2]

/-- An alarm on an earlier list has an earlier time. -/
theorem slot_order {now a b : Nat} (ha : a < 18446744073709551616) (hb : b < 18446744073709551616) (hn : now < 18446744073709551616) (h : slotN now a < slotN now b) : a < b := by
  have da := digN_lt (rowN now a) a
  have db := digN_lt (rowN now b) b
  unfold slotN at h
  have hb0 : now < b := by
    rcases Nat.lt_or_ge now b with h1 | h1
    · exact h1
    · have := (row_zero hb hn).2 h1
      rw [this] at h
      simp [digN] at h
  rcases Nat.lt_or_ge now a with ha0 | ha0
  · have la := row_le ha hn ha0
    have lb := row_le hb hn hb0
    have rb0 : rowN now b ≠ 0 := fun e => by have := (row_zero hb hn).1 e; omega
    generalize rowN now a = R at *
    generalize rowN now b = T at *
    have e1 := (la R).1 (Nat.le_refl _)
    have e2 := (lb T).1 (Nat.le_refl _)
    obtain ⟨Q, rfl⟩ : ∃ Q, T = Q + 1 := ⟨T - 1, by omega⟩
    have e3 : b / 2 ^ (6 * Q) ≠ now / 2 ^ (6 * Q) := fun e => by have := (lb Q).2 e; omega
    have e5 : now / 2 ^ (6 * Q) ≤ b / 2 ^ (6 * Q) := Nat.div_le_div_right (by omega)
    have key : a / 2 ^ (6 * Q) < b / 2 ^ (6 * Q) := by
      rcases Nat.lt_or_ge R (Q + 1) with h1 | h1
      · have e4 : a / 2 ^ (6 * Q) = now / 2 ^ (6 * Q) := div_more e1 (by omega)
        omega
      · obtain rfl : R = Q + 1 := by omega
        have hd : digN (Q + 1) a < digN (Q + 1) b := by omega
        unfold digN at hd
        rw [if_neg (by omega), if_neg (by omega), Nat.add_sub_cancel] at hd
        have e4 : a / 2 ^ (6 * (Q + 1)) = b / 2 ^ (6 * (Q + 1)) := e1.trans e2.symm
        rw [show 6 * (Q + 1) = 6 * Q + 6 by omega, Nat.pow_add, ← Nat.div_div_eq_div_mul, ← Nat.div_div_eq_div_mul] at e4
        have e6 : (2 : Nat) ^ 6 = 64 := rfl
        rw [e6] at e4
        generalize a / 2 ^ (6 * Q) = x at *
        generalize b / 2 ^ (6 * Q) = y at *
        omega
    rcases Nat.lt_or_ge a b with h3 | h3
    · exact h3
    · have := Nat.div_le_div_right (c := 2 ^ (6 * Q)) h3; omega
  · omega
end Go.Proofs.YtkkodhjolgcokaaDoor
