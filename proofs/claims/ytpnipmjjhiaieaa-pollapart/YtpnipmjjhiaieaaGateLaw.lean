/-
  Masks, as the gate's laws want them. (No condition.)
-/
import Derived.Test.YtpnipmjjhiaieaaGateBits
namespace Go.Proofs.Ytpnipmjjhiaieaa
open Go.RowKit Go.Lib

theorem and3 (x : Int) : bits .and .i64 x 3 = x % 4 := by
  rw [and_bv]
  have h : (bv x &&& bv 3).toNat = (bv x).toNat % 4 := by
    rw [BitVec.toNat_and]
    exact Nat.and_two_pow_sub_one_eq_mod _ 2
  rw [BitVec.toInt_eq_toNat_cond, h]
  have h2 : ((bv x).toNat : Int) = x % 18446744073709551616 := by
    unfold bv
    rw [BitVec.toNat_ofInt]
    omega
  rw [if_pos (by omega)]
  omega

theorem and1 (x : Int) : bits .and .i64 x 1 = x % 2 := by
  rw [and_bv]
  have h : (bv x &&& bv 1).toNat = (bv x).toNat % 2 := by
    rw [BitVec.toNat_and]
    exact Nat.and_two_pow_sub_one_eq_mod _ 1
  rw [BitVec.toInt_eq_toNat_cond, h]
  have h2 : ((bv x).toNat : Int) = x % 18446744073709551616 := by
    unfold bv
    rw [BitVec.toNat_ofInt]
    omega
  rw [if_pos (by omega)]
  omega
theorem bv_zero : bv 0 = 0#64 := rfl
theorem or0_and (c y : Int) : bits .or .i64 0 (bits .and .i64 c y) = bits .and .i64 c y := by
  rw [or_bv, and_bv, bv_toInt, bv_zero, BitVec.zero_or]
theorem zero_and (y : Int) : bits .and .i64 0 y = 0 := by
  rw [and_bv, bv_zero, BitVec.zero_and]; rfl
theorem low7 {y : Int} (h : 1 ≤ y ∧ y ≤ 7) : bv 7 &&& bv y = bv y := by
  have : y = 1 ∨ y = 2 ∨ y = 3 ∨ y = 4 ∨ y = 5 ∨ y = 6 ∨ y = 7 := by omega
  rcases this with rfl | rfl | rfl | rfl | rfl | rfl | rfl <;> decide
theorem and7 {y : Int} (h : 1 ≤ y ∧ y ≤ 7) (c : Int) : bits .and .i64 (bits .and .i64 c 7) y = bits .and .i64 c y := by
  simp only [and_bv, bv_toInt]
  rw [BitVec.and_assoc, low7 h]
theorem and77 (c : Int) : bits .and .i64 (bits .and .i64 c 7) 7 = bits .and .i64 c 7 := and7 (by decide) c
/-- What came, bit by bit, is what of all of it is wanted. -/
theorem or_and {y : Int} (h : 1 ≤ y ∧ y ≤ 7) (l c : Int) : bits .and .i64 (bits .or .i64 l (bits .and .i64 c 7)) y = bits .or .i64 (bits .and .i64 l y) (bits .and .i64 c y) := by
  simp only [and_bv, or_bv, bv_toInt]
  congr 1
  rw [← low7 h]
  ext i hi
  simp only [BitVec.getElem_and, BitVec.getElem_or]
  cases (bv l)[i] <;> cases (bv c)[i] <;> cases (bv 7)[i] <;> cases (bv y)[i] <;> rfl
theorem or_low7 (l c : Int) (h : bits .and .i64 l 7 = l) : bits .and .i64 (bits .or .i64 l (bits .and .i64 c 7)) 7 = bits .or .i64 l (bits .and .i64 c 7) := by
  rw [or_and (by decide), h]
end Go.Proofs.Ytpnipmjjhiaieaa
