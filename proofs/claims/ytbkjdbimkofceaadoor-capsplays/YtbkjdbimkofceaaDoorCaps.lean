/-
  Contracts of package caps, over this seat's translation: the bits of a handle.
-/
import Derived.Test.YtbkjdbimkofceaaDoorAllR
namespace Go.Proofs.YtbkjdbimkofceaaDoor
open Go.RowKit Go.Lib
set_option maxRecDepth 100000

/-- A handle's bits. -/
def hbits (p g r : Nat) : Nat := g * 16777216 + p * 256 + r

theorem or_low (a b i : Nat) (h : b < 2 ^ i) : a * 2 ^ i ||| b = a * 2 ^ i + b := by
  have := Nat.shiftLeft_add_eq_or_of_lt h a
  rw [Nat.shiftLeft_eq] at this
  exact this.symm
theorem hbits_or (p g r : Nat) (hp : p < 65536) (hg : g < 1099511627776) (hr : r < 256) :
    bits .or .u64 (bits .or .u64 ((g : Int) * 16777216) ((p : Int) * 256)) (r : Int) = (hbits p g r : Nat) := by
  have e1 : ((g : Int) * 16777216) = ((g * 16777216 : Nat) : Int) := by simp
  have e2 : ((p : Int) * 256) = ((p * 256 : Nat) : Int) := by simp
  have o1 : g * 16777216 ||| p * 256 = g * 16777216 + p * 256 := or_low g (p * 256) 24 (by omega)
  have o2 : (g * 16777216 + p * 256) ||| r = g * 16777216 + p * 256 + r := by
    have := or_low (g * 65536 + p) r 8 (by omega)
    have e : (g * 65536 + p) * 2 ^ 8 = g * 16777216 + p * 256 := by omega
    rw [e] at this
    exact this
  rw [e1, e2, bits_or_u64_nat _ _ (by omega) (by omega), o1, bits_or_u64_nat _ _ (by omega) (by omega), o2]
  rfl
theorem and255 (r : Int) : bits .and .i64 r 255 = r % 256 := by
  have := i64_mask 8 (by decide) r
  simpa using this
theorem and65535 (r : Int) : bits .and .i64 r 65535 = r % 65536 := by
  have := i64_mask 16 (by decide) r
  simpa using this
theorem uand255 (a : Nat) (h : a < 18446744073709551616) : bits .and .u64 (a : Int) 255 = ((a % 256 : Nat) : Int) := u64_mask 8 (by decide) a h
theorem uand65535 (a : Nat) (h : a < 18446744073709551616) : bits .and .u64 (a : Int) 65535 = ((a % 65536 : Nat) : Int) := u64_mask 16 (by decide) a h

set_option maxHeartbeats 1000000 in
theorem pack_any (p g r : Nat) (w : World) (hp : p < 65536) (hg : g < 1099511627776) (hr : r < 256) :
    Calls Tryd.prog 25 #[.int .i64 p, .int .i64 g, .int .i64 r] w fun e w' => e = .returned (.int .u64 (hbits p g r : Nat)) ∧ w = w' := by
  have h1 : bits .and .i64 (p : Int) 65535 = (p : Int) := by rw [and65535]; omega
  have h2 : bits .and .i64 (r : Int) 255 = (r : Int) := by rw [and255]; omega
  go_enter Tryd.func25, Tryd.ntmps25
  go_wp2
  go_ret
  exact ⟨ret_int (hbits_or p g r hp hg hr), rfl⟩

set_option maxHeartbeats 1000000 in
theorem parts_any (h : Nat) (w : World) (hh : h < 18446744073709551616) :
    Calls Tryd.prog 24 #[.int .u64 h] w fun e w' => e = .returned (.tuple #[.int .i64 (h / 256 % 65536 : Nat), .int .u64 (h / 16777216 : Nat), .int .i64 (h % 256 : Nat)]) ∧ w = w' := by
  have h1 : bits .and .u64 (h : Int) 255 = ((h % 256 : Nat) : Int) := uand255 h hh
  have h2 : bits .and .u64 ((h : Int) / 256) 65535 = ((h / 256 % 65536 : Nat) : Int) := by
    have := uand65535 (h / 256) (by omega)
    rwa [show ((h / 256 : Nat) : Int) = (h : Int) / 256 by simp] at this
  have h3 : h % 256 < 256 := by omega
  have h4 : h / 256 % 65536 < 65536 := by omega
  generalize h % 256 = x at h1 h3 ⊢
  generalize h / 256 % 65536 = y at h2 h4 ⊢
  go_enter Tryd.func24, Tryd.ntmps24
  go_wp2
  go_ret3
  exact ⟨by simp, rfl⟩

theorem isOut_any (g k i r : Int) (w : World) :
    Calls Tryd.prog 38 #[.agg #[.int .i64 g, .int .i64 k, .int .i64 i, .int .i64 r]] w fun e w' => e = .returned (.bool (decide (0 < g))) ∧ w.grownBy w' none := by
  go_enter Tryd.func38, Tryd.ntmps38
  go_wp2
  go_ret
  exact ⟨rfl, World.grownBy_alloc ..⟩
theorem hbits_slot (p g r : Nat) (hp : p < 65536) (hr : r < 256) : hbits p g r / 256 % 65536 = p := by unfold hbits; omega
theorem hbits_gen (p g r : Nat) (hp : p < 65536) (hr : r < 256) : hbits p g r / 16777216 = g := by unfold hbits; omega
theorem hbits_rights (p g r : Nat) (hr : r < 256) : hbits p g r % 256 = r := by unfold hbits; omega
theorem hbits_lt (p g r : Nat) (hp : p < 65536) (hg : g < 1099511627776) (hr : r < 256) : hbits p g r < 18446744073709551616 := by unfold hbits; omega
end Go.Proofs.YtbkjdbimkofceaaDoor
