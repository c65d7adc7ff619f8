/-
  Contracts of the document's own answers for layer 1 (nightjarref01) and of the statements' first test 'alive', over this seat's translation.
-/
import Derived.Test.YtbpmfldegfngaaaNum
import Derived.Deep.QuietTactic
import Derived.BigQuiet
import Derived.ProofKit
import Derived.OpenShut
namespace Go.Proofs.Ytbpmfldegfngaaa
open Go.RowKit Go.Lib

theorem next_14 (w : World) : Calls Try.prog 20 #[.int .u64 10, .int .u64 4, .int .u64 13] w fun r w' => r = .returned (.tuple #[.int .u64 14, .int .u64 1, .bool true]) ∧ w = w' :=
  next_ok 10 4 13 (by omega) (by omega) (by omega) (by omega) (by decide) w
theorem add_top (w : World) : Calls Try.prog 12 #[.int .u64 18446744073709551615, .int .u64 1] w fun r w' => r = .returned (.tuple #[.int .u64 0, .bool false]) ∧ w = w' :=
  add_no 18446744073709551615 1 (by omega) (by omega) (by omega) w
theorem plus_top (w : World) : Calls Try.prog 13 #[.int .u64 18446744073709551615, .int .u64 1] w fun r w' => r = .returned (.int .u64 18446744073709551615) ∧ w = w' := by
  have h := plus_any 18446744073709551615 1 (by omega) (by omega) w
  have e : plusN 18446744073709551615 1 = 18446744073709551615 := by decide
  rw [e] at h
  exact h
theorem minus_35 (w : World) : Calls Try.prog 14 #[.int .u64 3, .int .u64 5] w fun r w' => r = .returned (.int .u64 0) ∧ w = w' :=
  minus_any 3 5 (by omega) w
theorem ceil_73 (w : World) : Calls Try.prog 18 #[.int .u64 7, .int .u64 3] w fun r w' => r = .returned (.int .u64 3) ∧ w = w' :=
  ceil_any 7 3 (by omega) (by omega) w
theorem clamp_915 (w : World) : Calls Try.prog 15 #[.int .i64 9, .int .i64 1, .int .i64 5] w fun r w' => r = .returned (.int .i64 5) ∧ w = w' :=
  clamp_any 9 1 5 w

set_option maxHeartbeats 400000 in
theorem alive1 (w : World) : Calls Try.prog 10 #[] w fun e w' => e = .returned (.bool true) ∧ w = w' := by
  go_enter Try.func10, Try.ntmps10
  go_wp2_with fail
  refine (next_14 _).mono ?_
  rintro e w' ⟨rfl, rfl⟩
  go_wp2_with fail
  refine (add_top _).mono ?_
  rintro e w' ⟨rfl, rfl⟩
  go_wp2_with fail
  refine (plus_top _).mono ?_
  rintro e w' ⟨rfl, rfl⟩
  go_wp2_with fail
  refine (minus_35 _).mono ?_
  rintro e w' ⟨rfl, rfl⟩
  go_wp2_with fail
  refine (ceil_73 _).mono ?_
  rintro e w' ⟨rfl, rfl⟩
  go_wp2_with fail
  refine (clamp_915 _).mono ?_
  rintro e w' ⟨rfl, rfl⟩
  go_wp2
  go_ret
  exact ⟨rfl, rfl⟩

theorem shlN (h : Nat) : IntKind.u64.wrap ((h : Int) * 4294967296) = ((h * 4294967296 % 18446744073709551616 : Nat) : Int) := by rw [IntKind.wrap_u64]; omega
theorem orN (h l : Nat) (hl : l < 4294967296) : bits .or .u64 ((h * 4294967296 % 18446744073709551616 : Nat) : Int) (l : Int) = ((h * 4294967296 % 18446744073709551616 + l : Nat) : Int) := by
  rw [bits_or_u64_nat _ _ (by omega) (by omega)]
  have e : h * 4294967296 % 18446744073709551616 = (h % 4294967296) <<< 32 := by rw [Nat.shiftLeft_eq]; omega
  rw [e, ← Nat.shiftLeft_add_eq_or_of_lt (by omega)]

set_option maxHeartbeats 400000 in
theorem sum_any (a b : Nat) (ha : a < 18446744073709551616) (hb : b < 18446744073709551616) (w : World) :
    Calls Try.prog 11 #[.int .u64 a, .int .u64 b] w fun e w' => e = .returned (.agg #[.int .u64 (((a + b) / 18446744073709551616 : Nat) : Int), .int .u64 (((a + b) % 18446744073709551616 : Nat) : Int)]) ∧
      w' = w.alloc (.cells #[.int .u64 (((a + b) / 18446744073709551616 : Nat) : Int), .int .u64 (((a + b) % 18446744073709551616 : Nat) : Int)] 25) := by
  have b1 : a % 4294967296 + b % 4294967296 < 18446744073709551616 := by omega
  have b2 : a / 4294967296 + b / 4294967296 + (a % 4294967296 + b % 4294967296) / 4294967296 < 18446744073709551616 := by omega
  have b3 : (a % 4294967296 + b % 4294967296) % 4294967296 < 4294967296 := by omega
  have e1 := Lib.hid (show (a / 4294967296 + b / 4294967296 + (a % 4294967296 + b % 4294967296) / 4294967296) / 4294967296 = (a + b) / 18446744073709551616 by omega)
  have e2 := Lib.hid (show (a / 4294967296 + b / 4294967296 + (a % 4294967296 + b % 4294967296) / 4294967296) * 4294967296 % 18446744073709551616 + (a % 4294967296 + b % 4294967296) % 4294967296 = (a + b) % 18446744073709551616 by omega)
  go_enter Try.func11, Try.ntmps11
  go_wp2
  simp only [maskN a ha, maskN b hb, divN, addN, wrapN _ b1, maskN _ b1, wrapN _ b2, shlN, orN _ _ b3]
  rw [e1.out, e2.out]
  exact bodyPost_ret (v := .agg #[.int .u64 (((a + b) / 18446744073709551616 : Nat) : Int), .int .u64 (((a + b) % 18446744073709551616 : Nat) : Int)]) (by simp [results, Try.results11, go_sem]) rfl ⟨rfl, rfl⟩

set_option maxHeartbeats 400000 in
theorem product_any (x y : Nat) (hx : x < 18446744073709551616) (hy : y < 18446744073709551616) (w : World) :
    Calls Try.prog 16 #[.int .u64 x, .int .u64 y] w fun e w' => e = .returned (.agg #[.int .u64 ((x * y / 18446744073709551616 : Nat) : Int), .int .u64 ((x * y % 18446744073709551616 : Nat) : Int)]) ∧
      w' = w.alloc (.cells #[.int .u64 ((x * y / 18446744073709551616 : Nat) : Int), .int .u64 ((x * y % 18446744073709551616 : Nat) : Int)] 25) := by
  obtain ⟨bd, bt, bw, hhi⟩ := Lib.mul64_hi x y hx hy
  have ba := Lib.half_mul_le (a := x / 4294967296) (b := y / 4294967296) (by omega) (by omega)
  have bb := Lib.half_mul_le (a := x / 4294967296) (b := y % 4294967296) (by omega) (by omega)
  have bc := Lib.half_mul_le (a := x % 4294967296) (b := y / 4294967296) (by omega) (by omega)
  have ba' : x / 4294967296 * (y / 4294967296) < 18446744073709551616 := by omega
  have bb' : x / 4294967296 * (y % 4294967296) < 18446744073709551616 := by omega
  have bc' : x % 4294967296 * (y / 4294967296) < 18446744073709551616 := by omega
  have bh1 : x / 4294967296 * (y / 4294967296) + (x / 4294967296 * (y % 4294967296) + x % 4294967296 * (y % 4294967296) / 4294967296) / 4294967296 < 18446744073709551616 := by omega
  have bh : x / 4294967296 * (y / 4294967296) + (x / 4294967296 * (y % 4294967296) + x % 4294967296 * (y % 4294967296) / 4294967296) / 4294967296 + (x % 4294967296 * (y / 4294967296) + (x / 4294967296 * (y % 4294967296) + x % 4294967296 * (y % 4294967296) / 4294967296) % 4294967296) / 4294967296 < 18446744073709551616 := by omega
  have bw' : x % 4294967296 * (y / 4294967296) + (x / 4294967296 * (y % 4294967296) + x % 4294967296 * (y % 4294967296) / 4294967296) % 4294967296 < 18446744073709551616 := by omega
  have bl : x % 4294967296 * (y % 4294967296) % 4294967296 < 4294967296 := by omega
  have e1 := Lib.hid (show x / 4294967296 * (y / 4294967296) + (x / 4294967296 * (y % 4294967296) + x % 4294967296 * (y % 4294967296) / 4294967296) / 4294967296 + (x % 4294967296 * (y / 4294967296) + (x / 4294967296 * (y % 4294967296) + x % 4294967296 * (y % 4294967296) / 4294967296) % 4294967296) / 4294967296 = x * y / 18446744073709551616 by omega)
  have ex : x * y = (x / 4294967296) * (y / 4294967296) * (4294967296 * 4294967296) + ((x / 4294967296) * (y % 4294967296) + (x % 4294967296) * (y / 4294967296)) * 4294967296 + (x % 4294967296) * (y % 4294967296) := by
    rw [← Lib.split_mul, Nat.div_add_mod' x 4294967296, Nat.div_add_mod' y 4294967296]
  have e2 := Lib.hid (show (x % 4294967296 * (y / 4294967296) + (x / 4294967296 * (y % 4294967296) + x % 4294967296 * (y % 4294967296) / 4294967296) % 4294967296) * 4294967296 % 18446744073709551616 + x % 4294967296 * (y % 4294967296) % 4294967296 = x * y % 18446744073709551616 by omega)
  clear hhi ex
  go_enter Try.func16, Try.ntmps16
  go_wp2
  simp only [maskN x hx, maskN y hy, divN, mulN, addN, wrapN _ bd, wrapN _ bb', wrapN _ bt, maskN _ bt, wrapN _ bc', wrapN _ bw', wrapN _ ba', wrapN _ bh1, wrapN _ bh, maskN _ bd, shlN, orN _ _ bl]
  rw [e1.out, e2.out]
  exact bodyPost_ret (v := .agg #[.int .u64 ((x * y / 18446744073709551616 : Nat) : Int), .int .u64 ((x * y % 18446744073709551616 : Nat) : Int)]) (by simp [results, Try.results16, go_sem]) rfl ⟨rfl, rfl⟩

set_option maxHeartbeats 400000 in
theorem rceil_any (a b : Nat) (ha : a < 18446744073709551616) (hb : b < 18446744073709551616) (w : World) :
    Calls Try.prog 19 #[.int .u64 a, .int .u64 b] w fun e w' => e = .returned (.int .u64 (ceilN a b : Nat)) ∧ w = w' := by
  by_cases h0 : b = 0
  · have e1 : ceilN a b = 0 := by unfold ceilN; rw [if_pos h0]
    subst h0
    rw [e1]; clear e1
    go_enter Try.func19, Try.ntmps19
    go_wp2
    go_ret
    exact ⟨rfl, rfl⟩
  · have hbp : 0 < b := by omega
    have hz : ((b : Int) == 0) = false := by simp; omega
    have hda : a / b * b ≤ a := Nat.div_mul_le_self a b
    have hm : a / b * b + a % b = a := Nat.div_add_mod' a b
    have hw : IntKind.u64.wrap (IntKind.u64.wrap ((a : Int) / (b : Int)) * (b : Int)) = ((a / b * b : Nat) : Int) := by rw [quoN a b ha, mulN]; exact wrapN _ (by omega)
    by_cases h1 : a % b = 0
    · have e1 : ceilN a b = a / b := by unfold ceilN; rw [if_neg h0, if_pos h1]
      have hd : decide ((a : Int) / (b : Int) * (b : Int) < (a : Int)) = false := by
        rw [← Int.natCast_ediv, ← Int.natCast_mul]; simp only [decide_eq_false_iff_not]; omega
      rw [e1]; clear e1 h0 hm h1
      go_enter Try.func19, Try.ntmps19
      go_wp2
      go_ret
      exact ⟨ret_int (quoN a b ha), rfl⟩
    · have e1 : ceilN a b = a / b + 1 := by unfold ceilN; rw [if_neg h0, if_neg h1]
      have hlt := ceil_lt a b ha h1
      have hd : decide ((a : Int) / (b : Int) * (b : Int) < (a : Int)) = true := by
        rw [← Int.natCast_ediv, ← Int.natCast_mul]; simp only [decide_eq_true_eq]; omega
      rw [e1]; clear e1 h0 hm h1
      go_enter Try.func19, Try.ntmps19
      go_wp2
      go_ret
      exact ⟨ret_int (by rw [quoN a b ha]; exact wrapN _ hlt), rfl⟩

set_option maxHeartbeats 400000 in
theorem rnext_zero (d e : Nat) (w : World) :
    Calls Try.prog 21 #[.int .u64 d, .int .u64 0, .int .u64 e] w fun r w' => r = .returned (.tuple #[.int .u64 0, .int .u64 0, .bool false]) ∧ w = w' := by
  go_enter Try.func21, Try.ntmps21
  go_wp2
  go_ret3
  exact ⟨rfl, rfl⟩

theorem product_small (x y : Nat) (hx : x < 18446744073709551616) (hy : y < 18446744073709551616) (h : x * y < 18446744073709551616) (w : World) :
    Calls Try.prog 16 #[.int .u64 x, .int .u64 y] w fun e w' => e = .returned (.agg #[.int .u64 0, .int .u64 ((x * y : Nat) : Int)]) ∧
      w' = w.alloc (.cells #[.int .u64 0, .int .u64 ((x * y : Nat) : Int)] 25) := by
  have c := product_any x y hx hy w
  rw [show x * y / 18446744073709551616 = 0 by omega, show x * y % 18446744073709551616 = x * y by omega] at c
  exact c
theorem product_great (x y : Nat) (hx : x < 18446744073709551616) (hy : y < 18446744073709551616) (h : 18446744073709551616 ≤ x * y) (w : World) :
    ∃ q r : Nat, 0 < q ∧ r < 18446744073709551616 ∧ Calls Try.prog 16 #[.int .u64 x, .int .u64 y] w fun e w' => e = .returned (.agg #[.int .u64 q, .int .u64 r]) ∧
      w' = w.alloc (.cells #[.int .u64 q, .int .u64 r] 25) :=
  ⟨_, _, by omega, by omega, product_any x y hx hy w⟩
theorem sum_small (x y : Nat) (hx : x < 18446744073709551616) (hy : y < 18446744073709551616) (h : x + y < 18446744073709551616) (w : World) :
    Calls Try.prog 11 #[.int .u64 x, .int .u64 y] w fun e w' => e = .returned (.agg #[.int .u64 0, .int .u64 ((x + y : Nat) : Int)]) ∧
      w' = w.alloc (.cells #[.int .u64 0, .int .u64 ((x + y : Nat) : Int)] 25) := by
  have c := sum_any x y hx hy w
  rw [show (x + y) / 18446744073709551616 = 0 by omega, show (x + y) % 18446744073709551616 = x + y by omega] at c
  exact c
theorem sum_great (x y : Nat) (hx : x < 18446744073709551616) (hy : y < 18446744073709551616) (h : 18446744073709551616 ≤ x + y) (w : World) :
    Calls Try.prog 11 #[.int .u64 x, .int .u64 y] w fun e w' => e = .returned (.agg #[.int .u64 1, .int .u64 ((x + y - 18446744073709551616 : Nat) : Int)]) ∧
      w' = w.alloc (.cells #[.int .u64 1, .int .u64 ((x + y - 18446744073709551616 : Nat) : Int)] 25) := by
  have c := sum_any x y hx hy w
  rw [show (x + y) / 18446744073709551616 = 1 by omega, show (x + y) % 18446744073709551616 = x + y - 18446744073709551616 by omega] at c
  exact c

theorem quoI (d p e : Nat) (h : d < e) : ((e : Int) - (d : Int)) / (p : Int) = ((turnsN d p e - 1 : Nat) : Int) := by
  rw [show (e : Int) - (d : Int) = ((e - d : Nat) : Int) by omega, ← Int.natCast_ediv]; rfl
theorem quoI1 (d p e : Nat) (h : d < e) (hn : turnsN d p e < 18446744073709551616) : IntKind.u64.wrap (((e : Int) - (d : Int)) / (p : Int) + 1) = (turnsN d p e : Int) := by
  have h1 : 1 ≤ turnsN d p e := Nat.le_add_left 1 _
  rw [quoI d p e h, show ((turnsN d p e - 1 : Nat) : Int) + 1 = (turnsN d p e : Int) by omega, wrapN _ hn]
theorem turns_back (d p e : Nat) (h : e ≤ d) : turnsN d p e = 1 := by unfold turnsN; rw [show e - d = 0 by omega, Nat.zero_div]

set_option maxHeartbeats 400000 in
theorem rnext_ok (d p e : Nat) (hd : d < 18446744073709551616) (hp : p < 18446744073709551616) (he : e < 18446744073709551616) (h0 : 0 < p)
    (h : d + turnsN d p e * p < 18446744073709551616) (w : World) :
    Calls Try.prog 21 #[.int .u64 d, .int .u64 p, .int .u64 e] w fun r w' => r = .returned (.tuple #[.int .u64 ((d + turnsN d p e * p : Nat) : Int), .int .u64 (turnsN d p e : Nat), .bool true]) ∧ Grown w w' := by
  have hz : ((p : Int) == 0) = false := by simp; omega
  have hm : turnsN d p e * 1 ≤ turnsN d p e * p := Nat.mul_le_mul_left _ h0
  by_cases hed : d < e
  · have hq := Lib.hid (quoI1 d p e hed (by omega))
    have h1 : 1 ≤ turnsN d p e := Nat.le_add_left 1 _
    have ht : (((e : Int) - (d : Int)) / (p : Int) == 18446744073709551615) = false := by
      rw [quoI d p e hed, beq_eq_false_iff_ne]; omega
    generalize turnsN d p e = n at *
    have hnp : n * p < 18446744073709551616 := by omega
    go_enter Try.func21, Try.ntmps21
    go_wp2_with fail
    rw [hq.out]
    refine (product_small n p (by omega) hp hnp _).mono ?_
    rintro e w' ⟨rfl, rfl⟩
    clear ht
    go_wp2_with fail
    refine (sum_small d (n * p) hd hnp h _).mono ?_
    rintro e w' ⟨rfl, rfl⟩
    go_wp2
    go_ret3
    exact ⟨rfl, by repeat (first | exact Grown.refl _ | apply Grown.drew | apply Grown.alloc)⟩
  · have hn := turns_back d p e (by omega)
    rw [hn] at h hm ⊢
    clear hn
    rw [Nat.one_mul] at *
    go_enter Try.func21, Try.ntmps21
    go_wp2_with fail
    refine (product_small 1 p (by omega) hp (by omega) _).mono ?_
    rintro e w' ⟨rfl, rfl⟩
    rw [Nat.one_mul] at *
    go_wp2_with fail
    refine (sum_small d p hd hp h _).mono ?_
    rintro e w' ⟨rfl, rfl⟩
    go_wp2
    go_ret3
    exact ⟨rfl, by repeat (first | exact Grown.refl _ | apply Grown.drew | apply Grown.alloc)⟩

theorem sum_exists (x y : Nat) (hx : x < 18446744073709551616) (hy : y < 18446744073709551616) (w : World) :
    ∃ q r : Nat, Calls Try.prog 11 #[.int .u64 x, .int .u64 y] w fun e w' => e = .returned (.agg #[.int .u64 q, .int .u64 r]) ∧
      w' = w.alloc (.cells #[.int .u64 q, .int .u64 r] 25) :=
  ⟨_, _, sum_any x y hx hy w⟩

set_option maxHeartbeats 400000 in
theorem rnext_no (d p e : Nat) (hd : d < 18446744073709551616) (hp : p < 18446744073709551616) (he : e < 18446744073709551616) (h0 : 0 < p)
    (h : 18446744073709551616 ≤ d + turnsN d p e * p) (w : World) :
    Calls Try.prog 21 #[.int .u64 d, .int .u64 p, .int .u64 e] w fun r w' => r = .returned (.tuple #[.int .u64 0, .int .u64 0, .bool false]) ∧ Grown w w' := by
  have hz : ((p : Int) == 0) = false := by simp; omega
  have h1 : 1 ≤ turnsN d p e := Nat.le_add_left 1 _
  have hle : turnsN d p e ≤ e - d + 1 := Nat.succ_le_succ (Nat.div_le_self _ _)
  by_cases hed : d < e
  · by_cases ht0 : turnsN d p e = 18446744073709551616
    · have ht : (((e : Int) - (d : Int)) / (p : Int) == 18446744073709551615) = true := by
        rw [quoI d p e hed, beq_iff_eq]; omega
      clear ht0 h1 hle h
      go_enter Try.func21, Try.ntmps21
      go_wp2
      go_ret3
      exact ⟨rfl, Grown.refl _⟩
    · have hq := Lib.hid (quoI1 d p e hed (by omega))
      have ht : (((e : Int) - (d : Int)) / (p : Int) == 18446744073709551615) = false := by
        rw [quoI d p e hed, beq_eq_false_iff_ne]; omega
      generalize turnsN d p e = n at *
      by_cases hnp : n * p < 18446744073709551616
      · clear ht0
        go_enter Try.func21, Try.ntmps21
        go_wp2_with fail
        rw [hq.out]
        refine (product_small n p (by omega) hp hnp _).mono ?_
        rintro e w' ⟨rfl, rfl⟩
        clear ht
        go_wp2_with fail
        refine (sum_great d (n * p) hd hnp h _).mono ?_
        rintro e w' ⟨rfl, rfl⟩
        go_wp2
        go_ret3
        exact ⟨rfl, by repeat (first | exact Grown.refl _ | apply Grown.drew | apply Grown.alloc)⟩
      · obtain ⟨q, r, hq0, hr, c⟩ := product_great n p (by omega) hp (by omega) w
        have C := Lib.hid c; clear c ht0
        have hqt : decide ((q : Int) > 0) = true := by simp; omega
        go_enter Try.func21, Try.ntmps21
        go_wp2_with fail
        rw [hq.out]
        refine C.out.mono ?_
        rintro e w' ⟨rfl, rfl⟩
        clear ht
        go_wp2_with fail
        obtain ⟨q2, r2, c2⟩ := sum_exists d r hd hr ((w.alloc (Obj.cells #[Value.int IntKind.u64 ↑q, Value.int IntKind.u64 ↑r] 25)).alloc (Obj.cells #[Value.int IntKind.u64 ↑q, Value.int IntKind.u64 ↑r] 25))
        refine c2.mono ?_
        clear c2
        rintro e w' ⟨rfl, rfl⟩
        go_wp2
        go_ret3
        exact ⟨rfl, by repeat (first | exact Grown.refl _ | apply Grown.drew | apply Grown.alloc)⟩
  · have hn := turns_back d p e (by omega)
    rw [hn] at h
    clear hn h1 hle
    rw [Nat.one_mul] at *
    go_enter Try.func21, Try.ntmps21
    go_wp2_with fail
    refine (product_small 1 p (by omega) hp (by omega) _).mono ?_
    rintro e w' ⟨rfl, rfl⟩
    rw [Nat.one_mul] at *
    go_wp2_with fail
    refine (sum_great d p hd hp h _).mono ?_
    rintro e w' ⟨rfl, rfl⟩
    go_wp2
    go_ret3
    exact ⟨rfl, by repeat (first | exact Grown.refl _ | apply Grown.drew | apply Grown.alloc)⟩

theorem u64_nat {a : Int} (h : (Lit.int .u64 a).wf = true) : ∃ n : Nat, a = (n : Int) ∧ n < 18446744073709551616 := by
  have h' := bounds_u64 h
  exact ⟨a.toNat, by omega, by omega⟩

end Go.Proofs.Ytbpmfldegfngaaa
