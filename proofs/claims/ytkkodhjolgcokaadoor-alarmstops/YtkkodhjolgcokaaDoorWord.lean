/-
  Plain facts: a set of numbers as words of 64 bits, and what or, and-not, and, exclusive or and the lowest bit of such a word say of the set. No program is run here.
-/
import Derived.Test.YtkkodhjolgcokaaDoorPop
import Derived.Lib.TrailingZeros
namespace Go.Proofs.YtkkodhjolgcokaaDoor

def wordTo (S : Nat → Bool) (j : Nat) : Nat → Nat
  | 0 => 0
  | i + 1 => 2 ^ i * (S (64 * j + i)).toNat + wordTo S j i
/-- The j-th word of the set S. -/
def word (S : Nat → Bool) (j : Nat) : Nat := wordTo S j 64

theorem wordTo_lt (S : Nat → Bool) (j : Nat) : ∀ m : Nat, wordTo S j m < 2 ^ m
  | 0 => by simp [wordTo]
  | m + 1 => by
    have := wordTo_lt S j m
    rw [wordTo, Nat.pow_succ]
    cases S (64 * j + m) <;> simp <;> omega
theorem wordTo_bit (S : Nat → Bool) (j : Nat) : ∀ m i : Nat, (wordTo S j m).testBit i = (decide (i < m) && S (64 * j + i))
  | 0, i => by simp [wordTo]
  | m + 1, i => by
    rw [wordTo, Nat.testBit_two_pow_mul_add _ (wordTo_lt S j m), wordTo_bit S j m i]
    by_cases h : i < m
    · simp [h, show i < m + 1 by omega]
    · by_cases h2 : i = m
      · subst h2
        cases S (64 * j + i) <;> simp
      · obtain ⟨d, rfl⟩ : ∃ d, i = m + (d + 1) := ⟨i - m - 1, by omega⟩
        cases S (64 * j + m) <;> simp [show m + (d + 1) - m = d + 1 by omega, Nat.testBit_succ] <;> (intro h'; omega)
theorem word_lt (S : Nat → Bool) (j : Nat) : word S j < 18446744073709551616 := wordTo_lt S j 64
theorem word_bit (S : Nat → Bool) (j i : Nat) : (word S j).testBit i = (decide (i < 64) && S (64 * j + i)) := wordTo_bit S j 64 i
theorem word_none (j : Nat) : word (fun _ => false) j = 0 := by
  apply Nat.eq_of_testBit_eq; intro i; rw [word_bit]; simp
theorem word_congr {S T : Nat → Bool} {j : Nat} (h : ∀ i, i < 64 → S (64 * j + i) = T (64 * j + i)) : word S j = word T j := by
  apply Nat.eq_of_testBit_eq; intro i; rw [word_bit, word_bit]
  by_cases hi : i < 64
  · rw [h i hi]
  · simp [hi]

def ins (S : Nat → Bool) (k : Nat) : Nat → Bool := fun i => i == k || S i
def del (S : Nat → Bool) (k : Nat) : Nat → Bool := fun i => i != k && S i

theorem pow_bit (m i : Nat) : (2 ^ m).testBit i = decide (m = i) := Nat.testBit_two_pow
theorem word_ins_same (S : Nat → Bool) (k : Nat) : word (ins S k) (k / 64) = word S (k / 64) ||| 2 ^ (k % 64) := by
  apply Nat.eq_of_testBit_eq; intro i
  rw [Nat.testBit_or, word_bit, word_bit, pow_bit]
  unfold ins
  have hk : 64 * (k / 64) + k % 64 = k := Nat.div_add_mod k 64
  have hm : k % 64 < 64 := Nat.mod_lt _ (by decide)
  by_cases hi : i < 64
  · by_cases he : k % 64 = i
    · have : 64 * (k / 64) + i = k := by omega
      simp [hi, he, this]
    · have : 64 * (k / 64) + i ≠ k := by omega
      simp [hi, he, this]
  · have : ¬ k % 64 = i := by omega
    simp [hi, this]
theorem word_ins_other (S : Nat → Bool) (k j : Nat) (h : j ≠ k / 64) : word (ins S k) j = word S j := by
  refine word_congr fun i hi => ?_
  have : 64 * j + i ≠ k := by omega
  simp [ins, this]
theorem word_del_other (S : Nat → Bool) (k j : Nat) (h : j ≠ k / 64) : word (del S k) j = word S j := by
  refine word_congr fun i hi => ?_
  have : 64 * j + i ≠ k := by omega
  simp [del, this]
theorem not_bit (x i : Nat) (hx : x < 18446744073709551616) : (18446744073709551615 - x).testBit i = (decide (i < 64) && !x.testBit i) := by
  have := Nat.testBit_two_pow_sub_succ (n := 64) hx i
  rw [show 2 ^ 64 - (x + 1) = 18446744073709551615 - x by omega] at this
  exact this
theorem pow_lt (m : Nat) (h : m < 64) : 2 ^ m < 18446744073709551616 := Nat.pow_lt_pow_right (a := 2) (by decide) h
theorem word_del_same (S : Nat → Bool) (k : Nat) : word (del S k) (k / 64) = word S (k / 64) &&& (18446744073709551615 - 2 ^ (k % 64)) := by
  apply Nat.eq_of_testBit_eq; intro i
  have hk : 64 * (k / 64) + k % 64 = k := Nat.div_add_mod k 64
  have hm : k % 64 < 64 := Nat.mod_lt _ (by decide)
  rw [Nat.testBit_and, not_bit _ _ (pow_lt _ hm), word_bit, word_bit, pow_bit]
  unfold del
  by_cases hi : i < 64
  · by_cases he : k % 64 = i
    · have : 64 * (k / 64) + i = k := by omega
      simp [hi, he, this]
    · have : 64 * (k / 64) + i ≠ k := by omega
      simp [hi, he, this]
  · simp [hi]
theorem word_has (S : Nat → Bool) (k : Nat) : word S (k / 64) &&& 2 ^ (k % 64) = if S k then 2 ^ (k % 64) else 0 := by
  apply Nat.eq_of_testBit_eq; intro i
  have hk : 64 * (k / 64) + k % 64 = k := Nat.div_add_mod k 64
  have hm : k % 64 < 64 := Nat.mod_lt _ (by decide)
  rw [Nat.testBit_and, word_bit, pow_bit]
  by_cases he : k % 64 = i
  · subst he
    rw [hk]
    cases h : S k <;> simp [hm]
  · cases h : S k <;> simp [he]

theorem word_xor_zero (S : Nat → Bool) (j : Nat) : word S j ^^^ 0 = word S j := Nat.xor_zero _
theorem word_xor_all (S : Nat → Bool) (j : Nat) : word S j ^^^ 18446744073709551615 = word (fun i => !S i) j := by
  apply Nat.eq_of_testBit_eq; intro i
  have h1 : (18446744073709551615).testBit i = decide (i < 64) := Nat.testBit_two_pow_sub_one 64 i
  rw [Nat.testBit_xor, word_bit, word_bit, h1]
  by_cases hi : i < 64 <;> simp [hi]

/-- The bits from m on. -/
def from64 (m : Nat) : Nat := 18446744073709551616 - 2 ^ m
theorem from_bit (m i : Nat) (hm : m < 64) : (from64 m).testBit i = (decide (m ≤ i) && decide (i < 64)) := by
  have h0 : 0 < 2 ^ m := Nat.two_pow_pos m
  have h1 := pow_lt m hm
  have h := not_bit (2 ^ m - 1) i (by omega)
  rw [show 18446744073709551615 - (2 ^ m - 1) = from64 m by unfold from64; omega, Nat.testBit_two_pow_sub_one] at h
  rw [h]
  by_cases hi : i < 64 <;> by_cases hmi : m ≤ i <;> simp [hi, hmi] <;> omega
theorem from_zero : from64 0 = 18446744073709551615 := by decide
theorem from_lt (m : Nat) : from64 m < 18446744073709551616 := by
  have h0 : 0 < 2 ^ m := Nat.two_pow_pos m
  unfold from64; omega

theorem masked_bit (P : Nat → Bool) (j m i : Nat) (hm : m < 64) : (word P j &&& from64 m).testBit i = (decide (m ≤ i) && decide (i < 64) && P (64 * j + i)) := by
  rw [Nat.testBit_and, word_bit, from_bit m i hm]
  by_cases hi : i < 64 <;> by_cases hmi : m ≤ i <;> simp [hi, hmi]
theorem masked_zero (P : Nat → Bool) (j m : Nat) (hm : m < 64) (h : word P j &&& from64 m = 0) (i : Nat) (h1 : m ≤ i) (h2 : i < 64) : P (64 * j + i) = false := by
  have := masked_bit P j m i hm
  rw [h] at this
  simpa [h1, h2] using this.symm
/-- A word that is not 0 has a lowest bit. -/
theorem lowest (x : Nat) (h0 : x ≠ 0) (hx : x < 18446744073709551616) : x.testBit (Lib.ctz 64 x) = true ∧ (∀ i, i < Lib.ctz 64 x → x.testBit i = false) ∧ Lib.ctz 64 x < 64 := by
  have e : Lib.ctz 64 x = Lib.ctzFrom 64 x := by unfold Lib.ctz; rw [if_neg h0]
  obtain ⟨m, hm, hk⟩ := Lib.ctzFrom_spec 64 x (by omega) hx
  rw [e]
  generalize Lib.ctzFrom 64 x = c at *
  refine ⟨?_, fun i hi => ?_, hk⟩
  · rw [hm, Nat.mul_comm, Nat.testBit_mul_two_pow]
    simp [Nat.testBit_zero]
  · rw [hm, Nat.mul_comm, Nat.testBit_mul_two_pow]
    simp; omega
theorem lowest_unique (x c : Nat) (hx : x < 18446744073709551616) (h1 : x.testBit c = true) (h2 : ∀ i, i < c → x.testBit i = false) : Lib.ctz 64 x = c := by
  have h0 : x ≠ 0 := by rintro rfl; simp at h1
  obtain ⟨a1, a2, _⟩ := lowest x h0 hx
  rcases Nat.lt_trichotomy (Lib.ctz 64 x) c with h | h | h
  · rw [h2 _ h] at a1; cases a1
  · exact h
  · rw [a2 _ h] at h1; cases h1

/-! How many numbers a set has. -/
theorem cnt_word (S : Nat → Bool) (j : Nat) : cnt (fun i => (word S j).testBit i) 64 = cnt (fun i => S (64 * j + i)) 64 := by
  refine cnt_congr fun i hi => ?_
  rw [word_bit]; simp [hi]
theorem cnt_words (S : Nat → Bool) (j : Nat) : cnt S (64 * (j + 1)) = cnt S (64 * j) + cnt (fun i => (word S j).testBit i) 64 := by
  rw [cnt_word, show 64 * (j + 1) = 64 * j + 64 by omega, cnt_add]
theorem cnt_beyond (S : Nat → Bool) (n m : Nat) (h : n ≤ m) (hS : ∀ i, n ≤ i → S i = false) : cnt S m = cnt S n := by
  obtain ⟨d, rfl⟩ : ∃ d, m = n + d := ⟨m - n, by omega⟩
  rw [cnt_add]
  have : cnt (fun i => S (n + i)) d = 0 := by
    have e : cnt (fun i => S (n + i)) d = cnt (fun _ => false) d := cnt_congr fun i _ => hS _ (by omega)
    rw [e]
    clear e h
    induction d with
    | zero => rfl
    | succ d ih => rw [cnt, ih]; rfl
  omega

end Go.Proofs.YtkkodhjolgcokaaDoor
