/-
  Masks of ints as words of 64 bits: what the gate's laws reckon with. (No condition.)
-/
import Derived.Test.YtpnipmjjhiaieaaFrame
namespace Go.Proofs.Ytpnipmjjhiaieaa
open Go.RowKit Go.Lib

/-- A number's bits. -/
def bv (x : Int) : BitVec 64 := BitVec.ofInt 64 x
theorem bv_toInt (v : BitVec 64) : bv v.toInt = v := BitVec.ofInt_toInt
theorem wrap_toNat (v : BitVec 64) : IntKind.i64.wrap (v.toNat : Int) = v.toInt := by
  have h := v.isLt
  have e : ((v.toNat : Int) % 2 ^ 64) = (v.toNat : Int) := Int.emod_eq_of_lt (by omega) (by omega)
  rw [BitVec.toInt_eq_toNat_cond]
  simp only [IntKind.wrap, IntKind.bits, IntKind.signed, e]
  by_cases hc : 2 * v.toNat < 2 ^ 64
  · rw [if_pos hc, if_neg (by simp; omega)]
  · rw [if_neg hc, if_pos (by simp; omega)]; rfl
theorem and_bv (x y : Int) : bits .and .i64 x y = (bv x &&& bv y).toInt := wrap_toNat _
theorem or_bv (x y : Int) : bits .or .i64 x y = (bv x ||| bv y).toInt := wrap_toNat _
theorem andNot_bv (x y : Int) : bits .andNot .i64 x y = (bv x &&& ~~~ bv y).toInt := wrap_toNat _
theorem toInt_zero (v : BitVec 64) : v.toInt = 0 ↔ v = 0#64 := by
  constructor
  · intro h; exact BitVec.eq_of_toInt_eq (by simpa using h)
  · rintro rfl; rfl
end Go.Proofs.Ytpnipmjjhiaieaa
