/-
  Rights that a handle lacks, said in two ways.
-/
import Derived.Test.YtbkjdbimkofceaaDoorRows
namespace Go.Proofs.YtbkjdbimkofceaaDoor
open Go

theorem bv_sub (a b : BitVec 64) : a &&& ~~~b = 0#64 ↔ b &&& a = a := by
  constructor
  · intro h
    apply BitVec.eq_of_getLsbD_eq
    intro i hi
    have := congrArg (fun v => v.getLsbD i) h
    simp [hi] at this ⊢
    intro ha
    exact this ha
  · intro h
    apply BitVec.eq_of_getLsbD_eq
    intro i hi
    have := congrArg (fun v => v.getLsbD i) h
    simp [hi] at this ⊢
    intro ha
    exact this ha
theorem wrap_inj (a b : BitVec 64) : IntKind.i64.wrap (a.toNat : Int) = IntKind.i64.wrap (b.toNat : Int) ↔ a = b := by
  have ha := a.isLt
  have hb := b.isLt
  constructor
  · intro h
    apply BitVec.eq_of_toNat_eq
    simp [IntKind.wrap, IntKind.bits, IntKind.signed] at h
    omega
  · intro h; rw [h]
theorem wrap_of (q : Int) (h : -9223372036854775808 ≤ q ∧ q ≤ 9223372036854775807) : IntKind.i64.wrap ((BitVec.ofInt 64 q).toNat : Int) = q := by
  simp [IntKind.wrap, IntKind.bits, IntKind.signed]
  omega
theorem need_bits (q r : Int) (h : -9223372036854775808 ≤ q ∧ q ≤ 9223372036854775807) : bits .andNot .i64 q r = 0 ↔ bits .and .i64 r q = q := by
  have e0 : (0 : Int) = IntKind.i64.wrap ((0#64).toNat : Int) := by decide
  have e1 : bits .andNot .i64 q r = IntKind.i64.wrap ((BitVec.ofInt 64 q &&& ~~~(BitVec.ofInt 64 r)).toNat : Int) := rfl
  have e2 : bits .and .i64 r q = IntKind.i64.wrap ((BitVec.ofInt 64 r &&& BitVec.ofInt 64 q).toNat : Int) := rfl
  have e3 := wrap_of q h
  rw [e1, e2]
  constructor
  · intro hx
    rw [e0, wrap_inj] at hx
    rw [(bv_sub _ _).1 hx]
    exact e3
  · intro hx
    rw [e0, wrap_inj]
    apply (bv_sub _ _).2
    rw [← wrap_inj, hx, e3]
end Go.Proofs.YtbkjdbimkofceaaDoor
