/-
  Contracts of the functions of package num, over this seat's translation: what each call answers for every pair of 64-bit numbers; the world stays as it was.
-/
import Derived.Test.YtkkodhjolgcokaaDoorRows
import Derived.WalkKit
import Derived.WalkSpells
import Derived.Lib.Mul64
import Derived.Lib.Hide
import Derived.Test.YtkkodhjolgcokaaDoorPlain
namespace Go.Proofs.YtkkodhjolgcokaaDoor
open Go.RowKit Go.Lib
set_option maxRecDepth 100000

theorem add64_run (x y : Nat) (w : World) :
    (callFunc 74 #[.int .u64 x, .int .u64 y, .int .u64 0]).run Tryd.prog w =
      .ok (.value (.tuple #[.int .u64 (((x + y) % 18446744073709551616 : Nat) : Int), .int .u64 (((x + y) / 18446744073709551616 : Nat) : Int)])) w := by
  rw [run_callFunc_extern Tryd.func74 (by kernel_rfl) (by kernel_rfl) (by kernel_rfl) (e := add64Entry) (by kernel_rfl), run_add64 x y 0 (by omega) (by omega) (by omega) (by omega)]
  simp only [Result.andThen]
  congr 5 <;> omega

set_option maxHeartbeats 400000 in
theorem add_ok (a b : Nat) (h : a + b < 18446744073709551616) (w : World) :
    Calls Tryd.prog 53 #[.int .u64 a, .int .u64 b] w fun e w' => e = .returned (.tuple #[.int .u64 ((a + b : Nat) : Int), .bool true]) ∧ w = w' := by
  have e1 : (a + b) % 18446744073709551616 = a + b := by omega
  have e2 : (a + b) / 18446744073709551616 = 0 := by omega
  have hr := add64_run a b w
  rw [e1, e2] at hr
  clear e1 e2
  go_enter Tryd.func53, Tryd.ntmps53
  go_wp2
  go_ret2
  exact ⟨rfl, rfl⟩

set_option maxHeartbeats 400000 in
theorem add_no (a b : Nat) (h : 18446744073709551616 ≤ a + b) (ha : a < 18446744073709551616) (hb : b < 18446744073709551616) (w : World) :
    Calls Tryd.prog 53 #[.int .u64 a, .int .u64 b] w fun e w' => e = .returned (.tuple #[.int .u64 0, .bool false]) ∧ w = w' := by
  have e2 : (a + b) / 18446744073709551616 = 1 := by omega
  have hr := add64_run a b w
  rw [e2] at hr
  clear e2
  go_enter Tryd.func53, Tryd.ntmps53
  go_wp2
  go_ret2
  exact ⟨rfl, rfl⟩

theorem ret_intM {k : IntKind} {a b : Int} (h : a = b) : Ending.returned (.int k a) = .returned (.int k b) := by rw [h]

theorem ret_boolM {a b : Bool} (h : a = b) : Ending.returned (.bool a) = .returned (.bool b) := by rw [h]

set_option maxHeartbeats 400000 in
theorem minus_any (a b : Nat) (ha : a < 18446744073709551616) (w : World) :
    Calls Tryd.prog 54 #[.int .u64 a, .int .u64 b] w fun e w' => e = .returned (.int .u64 ((a - b : Nat) : Int)) ∧ w = w' := by
  by_cases h : a < b
  · go_enter Tryd.func54, Tryd.ntmps54
    go_wp2
    go_ret
    exact ⟨ret_intM (by omega), rfl⟩
  · go_enter Tryd.func54, Tryd.ntmps54
    go_wp2
    go_ret
    exact ⟨ret_intM (by first | omega | (rw [IntKind.wrap_u64]; omega)), rfl⟩

set_option maxHeartbeats 400000 in
theorem clamp_anyM (n lo hi : Int) (w : World) :
    Calls Tryd.prog 58 #[.int .i64 n, .int .i64 lo, .int .i64 hi] w fun e w' => e = .returned (.int .i64 (max lo (min n hi))) ∧ w = w' := by
  go_enter Tryd.func58, Tryd.ntmps58
  go_wp2
  all_goals
    go_ret
    exact ⟨ret_intM (by omega), rfl⟩

def plusN (a b : Nat) : Nat := if a + b < 18446744073709551616 then a + b else 18446744073709551615


theorem maskN (a : Nat) (ha : a < 18446744073709551616) : bits .and .u64 (a : Int) 4294967295 = ((a % 4294967296 : Nat) : Int) := by
  have h := bits_and_u64_nat a 4294967295 ha (by omega)
  have e : a &&& 4294967295 = a % 4294967296 := Nat.and_two_pow_sub_one_eq_mod a 32
  rw [e] at h
  exact h
theorem divN (a : Nat) : (a : Int) / 4294967296 = ((a / 4294967296 : Nat) : Int) := by omega
theorem mulN (a b : Nat) : (a : Int) * (b : Int) = ((a * b : Nat) : Int) := (Int.natCast_mul a b).symm
theorem addN (a b : Nat) : (a : Int) + (b : Int) = ((a + b : Nat) : Int) := (Int.natCast_add a b).symm
theorem wrapN (a : Nat) (ha : a < 18446744073709551616) : IntKind.u64.wrap (a : Int) = (a : Int) := by rw [IntKind.wrap_u64]; omega
theorem wrapM (a : Nat) : IntKind.u64.wrap (a : Int) = ((a % 18446744073709551616 : Nat) : Int) := by rw [IntKind.wrap_u64]; omega

set_option maxHeartbeats 1000000 in
theorem mul64_any (x y : Nat) (hx : x < 18446744073709551616) (hy : y < 18446744073709551616) (w : World) :
    Calls Tryd.prog 75 #[.int .u64 x, .int .u64 y] w fun e w' => e = .returned (.tuple #[.int .u64 ((x * y / 18446744073709551616 : Nat) : Int), .int .u64 ((x * y % 18446744073709551616 : Nat) : Int)]) ∧ w = w' := by
  obtain ⟨bd, bt, bw, hhi⟩ := Lib.mul64_hi x y hx hy
  have ba := Lib.half_mul_le (a := x / 4294967296) (b := y / 4294967296) (by omega) (by omega)
  have bb := Lib.half_mul_le (a := x / 4294967296) (b := y % 4294967296) (by omega) (by omega)
  have bc := Lib.half_mul_le (a := x % 4294967296) (b := y / 4294967296) (by omega) (by omega)
  have ba' : x / 4294967296 * (y / 4294967296) < 18446744073709551616 := by omega
  have bb' : x / 4294967296 * (y % 4294967296) < 18446744073709551616 := by omega
  have bc' : x % 4294967296 * (y / 4294967296) < 18446744073709551616 := by omega
  have bh1 : x / 4294967296 * (y / 4294967296) + (x / 4294967296 * (y % 4294967296) + x % 4294967296 * (y % 4294967296) / 4294967296) / 4294967296 < 18446744073709551616 := by omega
  have bh : x / 4294967296 * (y / 4294967296) + (x / 4294967296 * (y % 4294967296) + x % 4294967296 * (y % 4294967296) / 4294967296) / 4294967296 + ((x / 4294967296 * (y % 4294967296) + x % 4294967296 * (y % 4294967296) / 4294967296) % 4294967296 + x % 4294967296 * (y / 4294967296)) / 4294967296 < 18446744073709551616 := by omega
  have HH := Lib.hid hhi
  clear hhi
  go_enter Tryd.func75, Tryd.ntmps75
  go_wp2
  simp only [maskN x hx, maskN y hy, divN, mulN, addN, wrapN _ bd, wrapN _ bb', wrapN _ bt, maskN _ bt, wrapN _ bc', wrapN _ bw, wrapN _ ba', wrapN _ bh1, wrapN _ bh, wrapM (x * y)]
  rw [HH.out]
  go_ret2
  exact ⟨rfl, rfl⟩

set_option maxHeartbeats 400000 in
theorem times_ok (a b : Nat) (ha : a < 18446744073709551616) (hb : b < 18446744073709551616) (h : a * b < 18446744073709551616) (w : World) :
    Calls Tryd.prog 55 #[.int .u64 a, .int .u64 b] w fun e w' => e = .returned (.tuple #[.int .u64 ((a * b : Nat) : Int), .bool true]) ∧ w = w' := by
  have c := mul64_any a b ha hb w
  rw [show a * b / 18446744073709551616 = 0 by omega, show a * b % 18446744073709551616 = a * b by omega] at c
  have C := Lib.hid c; clear c
  go_enter Tryd.func55, Tryd.ntmps55
  go_wp2_with (go_at_call 75; refine C.out.mono ?_; rintro e w' ⟨rfl, rfl⟩)
  go_ret2
  exact ⟨rfl, rfl⟩

set_option maxHeartbeats 400000 in
theorem times_no (a b : Nat) (ha : a < 18446744073709551616) (hb : b < 18446744073709551616) (h : 18446744073709551616 ≤ a * b) (w : World) :
    Calls Tryd.prog 55 #[.int .u64 a, .int .u64 b] w fun e w' => e = .returned (.tuple #[.int .u64 0, .bool false]) ∧ w = w' := by
  have c := mul64_any a b ha hb w
  have hp : 0 < a * b / 18446744073709551616 := by omega
  generalize a * b / 18446744073709551616 = q at c hp
  have C := Lib.hid c; clear c
  have hq : ((q : Int) != 0) = true := by simp; omega
  go_enter Tryd.func55, Tryd.ntmps55
  go_wp2_with (go_at_call 75; refine C.out.mono ?_; rintro e w' ⟨rfl, rfl⟩)
  go_ret2
  exact ⟨rfl, rfl⟩

def ceilN (a b : Nat) : Nat := if b = 0 then 0 else if a % b = 0 then a / b else a / b + 1

theorem quoN (a b : Nat) (ha : a < 18446744073709551616) : IntKind.u64.wrap ((a : Int) / (b : Int)) = ((a / b : Nat) : Int) := by
  have h : a / b ≤ a := Nat.div_le_self a b
  rw [← Int.natCast_ediv, wrapN _ (by omega)]

theorem ceil_lt (a b : Nat) (ha : a < 18446744073709551616) (h1 : ¬ a % b = 0) : a / b + 1 < 18446744073709551616 := by
  rcases b with _ | _ | b
  · simp
  · simp [Nat.mod_one] at h1
  · have := Nat.div_le_div_left (a := a) (show 2 ≤ b + 2 by omega) (by omega)
    show a / (b + 2) + 1 < _
    omega


theorem add1_ok (a : Nat) (h : a + 1 < 18446744073709551616) (w : World) :
    Calls Tryd.prog 53 #[.int .u64 a, .int .u64 1] w fun e w' => e = .returned (.tuple #[.int .u64 ((a + 1 : Nat) : Int), .bool true]) ∧ w = w' := add_ok a 1 h w
theorem add1_no (a : Nat) (h : 18446744073709551616 ≤ a + 1) (ha : a < 18446744073709551616) (w : World) :
    Calls Tryd.prog 53 #[.int .u64 a, .int .u64 1] w fun e w' => e = .returned (.tuple #[.int .u64 0, .bool false]) ∧ w = w' := add_no a 1 h ha (by omega) w

/-- How many periods on the next time is. -/
def turnsN (d p e : Nat) : Nat := (e - d) / p + 1

set_option maxHeartbeats 400000 in
theorem next_ok (d p e : Nat) (hd : d < 18446744073709551616) (hp : p < 18446744073709551616) (he : e < 18446744073709551616) (h0 : 0 < p)
    (h : d + turnsN d p e * p < 18446744073709551616) (w : World) :
    Calls Tryd.prog 28 #[.int .u64 d, .int .u64 p, .int .u64 e] w fun r w' => r = .returned (.tuple #[.int .u64 ((d + turnsN d p e * p : Nat) : Int), .int .u64 (turnsN d p e : Nat), .bool true]) ∧ w = w' := by
  have hz : ((p : Int) == 0) = false := by simp; omega
  have hm : turnsN d p e * 1 ≤ turnsN d p e * p := Nat.mul_le_mul_left _ h0
  have hq := Lib.hid (quoN (e - d) p (by omega))
  have HT := Lib.hid (show turnsN d p e = (e - d) / p + 1 from rfl)
  generalize turnsN d p e = n at *
  have hle : e - d < 18446744073709551616 := by omega
  have hnp : n * p < 18446744073709551616 := by omega
  have hn1 : n < 18446744073709551616 := by omega
  go_enter Tryd.func28, Tryd.ntmps28
  go_wp2_with fail
  refine (minus_any e d he _).mono ?_
  rintro r w' ⟨rfl, rfl⟩
  go_wp2_with fail
  rw [hq.out]
  refine (add1_ok _ (by rw [← HT.out]; exact hn1) _).mono ?_
  rw [← HT.out]
  rintro r w' ⟨rfl, rfl⟩
  go_wp2_with fail
  refine (times_ok n p hn1 hp hnp _).mono ?_
  rintro r w' ⟨rfl, rfl⟩
  go_wp2_with fail
  refine (add_ok d (n * p) h _).mono ?_
  rintro r w' ⟨rfl, rfl⟩
  go_wp2
  go_ret3
  exact ⟨rfl, rfl⟩

set_option maxHeartbeats 400000 in
theorem next_zero (d e : Nat) (w : World) :
    Calls Tryd.prog 28 #[.int .u64 d, .int .u64 0, .int .u64 e] w fun r w' => r = .returned (.tuple #[.int .u64 0, .int .u64 0, .bool false]) ∧ w = w' := by
  go_enter Tryd.func28, Tryd.ntmps28
  go_wp2
  go_ret3
  exact ⟨rfl, rfl⟩

set_option maxHeartbeats 400000 in
theorem next_no (d p e : Nat) (hd : d < 18446744073709551616) (hp : p < 18446744073709551616) (he : e < 18446744073709551616) (h0 : 0 < p)
    (h : 18446744073709551616 ≤ d + turnsN d p e * p) (w : World) :
    Calls Tryd.prog 28 #[.int .u64 d, .int .u64 p, .int .u64 e] w fun r w' => r = .returned (.tuple #[.int .u64 0, .int .u64 0, .bool false]) ∧ w = w' := by
  have hz : ((p : Int) == 0) = false := by simp; omega
  have hq := Lib.hid (quoN (e - d) p (by omega))
  have HT := Lib.hid (show turnsN d p e = (e - d) / p + 1 from rfl)
  have hdl : (e - d) / p ≤ e - d := Nat.div_le_self _ _
  by_cases h1 : 18446744073709551616 ≤ turnsN d p e
  · go_enter Tryd.func28, Tryd.ntmps28
    go_wp2_with fail
    refine (minus_any e d he _).mono ?_
    rintro r w' ⟨rfl, rfl⟩
    go_wp2_with fail
    rw [hq.out]
    refine (add1_no _ (by rw [← HT.out]; exact h1) (by omega) _).mono ?_
    rintro r w' ⟨rfl, rfl⟩
    go_wp2
    go_ret3
    exact ⟨rfl, rfl⟩
  · by_cases h2 : 18446744073709551616 ≤ turnsN d p e * p
    · generalize turnsN d p e = n at *
      go_enter Tryd.func28, Tryd.ntmps28
      go_wp2_with fail
      refine (minus_any e d he _).mono ?_
      rintro r w' ⟨rfl, rfl⟩
      go_wp2_with fail
      rw [hq.out]
      refine (add1_ok _ (by rw [← HT.out]; omega) _).mono ?_
      rw [← HT.out]
      rintro r w' ⟨rfl, rfl⟩
      go_wp2_with fail
      refine (times_no n p (by omega) hp h2 _).mono ?_
      rintro r w' ⟨rfl, rfl⟩
      go_wp2
      go_ret3
      exact ⟨rfl, rfl⟩
    · generalize turnsN d p e = n at *
      have h2' : n * p < 18446744073709551616 := by omega
      go_enter Tryd.func28, Tryd.ntmps28
      go_wp2_with fail
      refine (minus_any e d he _).mono ?_
      rintro r w' ⟨rfl, rfl⟩
      go_wp2_with fail
      rw [hq.out]
      refine (add1_ok _ (by rw [← HT.out]; omega) _).mono ?_
      rw [← HT.out]
      rintro r w' ⟨rfl, rfl⟩
      go_wp2_with fail
      refine (times_ok n p (by omega) hp h2' _).mono ?_
      rintro r w' ⟨rfl, rfl⟩
      go_wp2_with fail
      refine (add_no d (n * p) h hd h2' _).mono ?_
      rintro r w' ⟨rfl, rfl⟩
      go_wp2
      go_ret3
      exact ⟨rfl, rfl⟩

end Go.Proofs.YtkkodhjolgcokaaDoor
