/-
  wire's small calls, over this seat's translation: tick, ask, ready, isWithin, isByte; entries compared.
-/
import Derived.Test.YtcnojgkolpdomaaDoorCall5
namespace Go.Proofs.YtcnojgkolpdomaaDoor
open Go.RowKit Go.Lib
set_option maxRecDepth 100000
set_option linter.unusedVariables false

def En.val (e : En) : Value := .agg #[.int .i64 e.kind, .int .i64 e.who, .int .i64 e.n, .int .i64 e.call.op, .int .u64 (e.call.a : Nat), .int .u64 (e.call.b : Nat), .int .u64 (e.call.c : Nat), .int .i64 e.dev, .int .i64 e.mask]
def En.cells (e : En) : List Value := [.int .i64 e.kind, .int .i64 e.who, .int .i64 e.n, .int .i64 e.call.op, .int .u64 (e.call.a : Nat), .int .u64 (e.call.b : Nat), .int .u64 (e.call.c : Nat), .int .i64 e.dev, .int .i64 e.mask]

theorem eql_entry (k w' n op k2 w2 n2 op2 d m d2 m2 : Int) (a b c a2 b2 c2 : Nat) (w : World) :
    (binOp .eql 55 (.agg #[.int .i64 k, .int .i64 w', .int .i64 n, .int .i64 op, .int .u64 (a : Nat), .int .u64 (b : Nat), .int .u64 (c : Nat), .int .i64 d, .int .i64 m])
      (.agg #[.int .i64 k2, .int .i64 w2, .int .i64 n2, .int .i64 op2, .int .u64 (a2 : Nat), .int .u64 (b2 : Nat), .int .u64 (c2 : Nat), .int .i64 d2, .int .i64 m2])).run Tryd.prog w =
    .ok (.bool (k == k2 && (w' == w2 && (n == n2 && ((op == op2 && ((a : Int) == (a2 : Int) && ((b : Int) == (b2 : Int) && ((c : Int) == (c2 : Int))))) && (d == d2 && (m == m2))))))) w := by
  go_simp
  by_cases h1 : k = k2
  · by_cases h2 : w' = w2
    · by_cases h3 : n = n2
      · by_cases h4 : op = op2
        · by_cases h5 : (a : Int) = a2
          · by_cases h6 : (b : Int) = b2
            · by_cases h7 : (c : Int) = c2
              · by_cases h8 : d = d2
                · by_cases h9 : m = m2
                  · simp [h1, h2, h3, h4, h5, h6, h7, h8, h9]
                  · simp [h1, h2, h3, h4, h5, h6, h7, h8, h9]
                · simp [h1, h2, h3, h4, h5, h6, h7, h8]
              · simp [h1, h2, h3, h4, h5, h6, h7]
            · simp [h1, h2, h3, h4, h5, h6]
          · simp [h1, h2, h3, h4, h5]
        · simp [h1, h2, h3, h4]
      · simp [h1, h2, h3]
    · simp [h1, h2]
  · simp [h1]
def beqE (x y : En) : Bool := x.kind == y.kind && (x.who == y.who && (x.n == y.n && ((x.call.op == y.call.op && ((x.call.a : Int) == (y.call.a : Int) && ((x.call.b : Int) == (y.call.b : Int) && ((x.call.c : Int) == (y.call.c : Int))))) && (x.dev == y.dev && (x.mask == y.mask)))))
theorem beqE_iff (x y : En) : beqE x y = true ↔ x = y := by
  obtain ⟨k, w, n, ⟨op, a, b, c⟩, d, m⟩ := x
  obtain ⟨k2, w2, n2, ⟨op2, a2, b2, c2⟩, d2, m2⟩ := y
  simp only [beqE, Bool.and_eq_true, beq_iff_eq, En.mk.injEq, Cl.mk.injEq, Int.ofNat_inj]

theorem eqlE (x y : En) (w : World) : (binOp .eql 55 x.val y.val).run Tryd.prog w = .ok (.bool (beqE x y)) w := eql_entry ..

set_option maxHeartbeats 1000000 in
theorem wtick (w : World) (n : Int) : Calls Tryd.prog 44 #[.int .i64 n] w fun e w' => e = .returned (.agg #[.int .i64 0, .int .i64 0, .int .i64 n, .int .i64 0, .int .u64 0, .int .u64 0, .int .u64 0, .int .i64 0, .int .i64 0]) ∧ w.grownBy w' none := by
  go_enter Tryd.func44, Tryd.ntmps44
  go_wp2
  exact bodyPost_ret (v := .agg #[.int .i64 0, .int .i64 0, .int .i64 n, .int .i64 0, .int .u64 0, .int .u64 0, .int .u64 0, .int .i64 0, .int .i64 0]) (by simp [results, Tryd.results44, go_sem]) rfl ⟨rfl, World.grownBy_alloc w _ none⟩
set_option maxHeartbeats 1000000 in
theorem wask (w : World) (who op : Int) (a b c : Nat) : Calls Tryd.prog 46 #[.int .i64 who, .agg #[.int .i64 op, .int .u64 (a : Nat), .int .u64 (b : Nat), .int .u64 (c : Nat)]] w fun e w' => e = .returned (.agg #[.int .i64 1, .int .i64 who, .int .i64 0, .int .i64 op, .int .u64 (a : Nat), .int .u64 (b : Nat), .int .u64 (c : Nat), .int .i64 0, .int .i64 0]) ∧ w.grownBy w' none := by
  go_enter Tryd.func46, Tryd.ntmps46
  go_wp2
  exact bodyPost_ret (v := .agg #[.int .i64 1, .int .i64 who, .int .i64 0, .int .i64 op, .int .u64 (a : Nat), .int .u64 (b : Nat), .int .u64 (c : Nat), .int .i64 0, .int .i64 0]) (by simp [results, Tryd.results46, go_sem]) rfl ⟨rfl, (World.grownBy_alloc w _ none).trans (World.grownBy_alloc _ _ none)⟩
set_option maxHeartbeats 1000000 in
theorem wready (w : World) (who dev mask : Int) : Calls Tryd.prog 48 #[.int .i64 who, .int .i64 dev, .int .i64 mask] w fun e w' => e = .returned (.agg #[.int .i64 2, .int .i64 who, .int .i64 0, .int .i64 0, .int .u64 0, .int .u64 0, .int .u64 0, .int .i64 dev, .int .i64 mask]) ∧ w.grownBy w' none := by
  go_enter Tryd.func48, Tryd.ntmps48
  go_wp2
  exact bodyPost_ret (v := .agg #[.int .i64 2, .int .i64 who, .int .i64 0, .int .i64 0, .int .u64 0, .int .u64 0, .int .u64 0, .int .i64 dev, .int .i64 mask]) (by simp [results, Tryd.results48, go_sem]) rfl ⟨rfl, World.grownBy_alloc w _ none⟩
set_option maxHeartbeats 1000000 in
theorem wwithin (w : World) (n lo hi : Int) : Calls Tryd.prog 45 #[.int .i64 n, .int .i64 lo, .int .i64 hi] w fun e w' => e = .returned (.bool (decide (lo ≤ n) && decide (n ≤ hi))) ∧ w = w' := by
  by_cases h : lo ≤ n
  · go_enter Tryd.func45, Tryd.ntmps45
    go_wp2
    go_ret
    exact ⟨by simp [h], rfl⟩
  · have h2 : decide (lo ≤ n) = false := by simpa using h
    go_enter Tryd.func45, Tryd.ntmps45
    go_wp2
    go_ret
    exact ⟨by simp [h], rfl⟩
set_option maxHeartbeats 1000000 in
theorem wbyte (w : World) (n : Int) : Calls Tryd.prog 47 #[.int .i64 n] w fun e w' => e = .returned (.bool (decide (0 ≤ n) && decide (n ≤ 255))) ∧ w = w' := by
  have C := Lib.hid (wwithin w n 0 255)
  go_enter Tryd.func47, Tryd.ntmps47
  go_wp2_with fail
  refine (C.out).mono ?_
  rintro e w' ⟨rfl, rfl⟩
  go_wp2
  go_ret
  exact ⟨rfl, rfl⟩
end Go.Proofs.YtcnojgkolpdomaaDoor
