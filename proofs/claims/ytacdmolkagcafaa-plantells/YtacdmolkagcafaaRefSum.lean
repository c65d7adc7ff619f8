/-
  The document's sum of two numbers (nightjarref01.Sum), over this seat's translation.
-/
import Derived.Test.YtacdmolkagcafaaNum
import Derived.Deep.QuietTactic
import Derived.BigQuiet
import Derived.ProofKit
import Derived.OpenShut
namespace Go.Proofs.Ytacdmolkagcafaa
open Go.RowKit Go.Lib
set_option maxRecDepth 100000

theorem shlN (h : Nat) : IntKind.u64.wrap ((h : Int) * 4294967296) = ((h * 4294967296 % 18446744073709551616 : Nat) : Int) := by rw [IntKind.wrap_u64]; omega
theorem orN (h l : Nat) (hl : l < 4294967296) : bits .or .u64 ((h * 4294967296 % 18446744073709551616 : Nat) : Int) (l : Int) = ((h * 4294967296 % 18446744073709551616 + l : Nat) : Int) := by
  rw [bits_or_u64_nat _ _ (by omega) (by omega)]
  have e : h * 4294967296 % 18446744073709551616 = (h % 4294967296) <<< 32 := by rw [Nat.shiftLeft_eq]; omega
  rw [e, ← Nat.shiftLeft_add_eq_or_of_lt (by omega)]

set_option maxHeartbeats 400000 in
theorem sum_any (a b : Nat) (ha : a < 18446744073709551616) (hb : b < 18446744073709551616) (w : World) :
    Calls Try.prog 23 #[.int .u64 a, .int .u64 b] w fun e w' => e = .returned (.agg #[.int .u64 (((a + b) / 18446744073709551616 : Nat) : Int), .int .u64 (((a + b) % 18446744073709551616 : Nat) : Int)]) ∧
      w' = w.alloc (.cells #[.int .u64 (((a + b) / 18446744073709551616 : Nat) : Int), .int .u64 (((a + b) % 18446744073709551616 : Nat) : Int)] 54) := by
  have b1 : a % 4294967296 + b % 4294967296 < 18446744073709551616 := by omega
  have b2 : a / 4294967296 + b / 4294967296 + (a % 4294967296 + b % 4294967296) / 4294967296 < 18446744073709551616 := by omega
  have b3 : (a % 4294967296 + b % 4294967296) % 4294967296 < 4294967296 := by omega
  have e1 := Lib.hid (show (a / 4294967296 + b / 4294967296 + (a % 4294967296 + b % 4294967296) / 4294967296) / 4294967296 = (a + b) / 18446744073709551616 by omega)
  have e2 := Lib.hid (show (a / 4294967296 + b / 4294967296 + (a % 4294967296 + b % 4294967296) / 4294967296) * 4294967296 % 18446744073709551616 + (a % 4294967296 + b % 4294967296) % 4294967296 = (a + b) % 18446744073709551616 by omega)
  go_enter Try.func23, Try.ntmps23
  go_wp2
  simp only [maskN a ha, maskN b hb, divN, addN, wrapN _ b1, maskN _ b1, wrapN _ b2, shlN, orN _ _ b3]
  rw [e1.out, e2.out]
  exact bodyPost_ret (v := .agg #[.int .u64 (((a + b) / 18446744073709551616 : Nat) : Int), .int .u64 (((a + b) % 18446744073709551616 : Nat) : Int)]) (by simp [results, Try.results23, go_sem]) rfl ⟨rfl, rfl⟩

theorem sum_small (x y : Nat) (hx : x < 18446744073709551616) (hy : y < 18446744073709551616) (h : x + y < 18446744073709551616) (w : World) :
    Calls Try.prog 23 #[.int .u64 x, .int .u64 y] w fun e w' => e = .returned (.agg #[.int .u64 0, .int .u64 ((x + y : Nat) : Int)]) ∧
      w' = w.alloc (.cells #[.int .u64 0, .int .u64 ((x + y : Nat) : Int)] 54) := by
  have c := sum_any x y hx hy w
  rw [show (x + y) / 18446744073709551616 = 0 by omega, show (x + y) % 18446744073709551616 = x + y by omega] at c
  exact c
theorem sum_great (x y : Nat) (hx : x < 18446744073709551616) (hy : y < 18446744073709551616) (h : 18446744073709551616 ≤ x + y) (w : World) :
    Calls Try.prog 23 #[.int .u64 x, .int .u64 y] w fun e w' => e = .returned (.agg #[.int .u64 1, .int .u64 ((x + y - 18446744073709551616 : Nat) : Int)]) ∧
      w' = w.alloc (.cells #[.int .u64 1, .int .u64 ((x + y - 18446744073709551616 : Nat) : Int)] 54) := by
  have c := sum_any x y hx hy w
  rw [show (x + y) / 18446744073709551616 = 1 by omega, show (x + y) % 18446744073709551616 = x + y - 18446744073709551616 by omega] at c
  exact c

end Go.Proofs.Ytacdmolkagcafaa
