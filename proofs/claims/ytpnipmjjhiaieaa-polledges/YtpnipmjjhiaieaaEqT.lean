/-
  '==' of an array of ints with itself. (No condition.)
-/
import Derived.Test.YtpnipmjjhiaieaaPEdges0
import Derived.ChangeKeysEq
namespace Go.Proofs.Ytpnipmjjhiaieaa
open Go.RowKit Go.Lib
set_option maxRecDepth 100000
theorem eqItems_self (xs : Array Value) (w : World) : ∀ (is : List Nat), (∀ j ∈ is, ∃ x : Int, xs[j]? = some (.int .i64 x)) → (Op.eqItems 9999 3 1 xs xs is).run Try.prog w = .ok true w
  | [], _ => by simp [Op.eqItems]
  | j :: is, h => by
    obtain ⟨x, hx⟩ := h j (List.mem_cons_self ..)
    have he : Try.prog.plainKey 3 = true := by kernel_rfl
    have hp : (part 3 xs (j * 1)).run Try.prog w = .ok (.int .i64 x) w := run_part_plain w he (by simpa using hx)
    have hq : (Op.equalIn 9999 3 (.int .i64 x) (.int .i64 x)).run Try.prog w = .ok true w := by
      rw [show (9999 : Nat) = 9998 + 1 from rfl, run_equalIn_int w 9998 3 .i64 .i64 x x Try.underlying3]; simp
    have ih := eqItems_self xs w is fun j hj => h j (List.mem_cons_of_mem _ hj)
    simp only [Op.eqItems, Sem.run_bind, hp, hq, Result.andThen_ok]
    simpa using ih
theorem eq4 (a b c d : Int) (w : World) : (Op.equalIn 10000 52 (.agg #[.int .i64 a, .int .i64 b, .int .i64 c, .int .i64 d]) (.agg #[.int .i64 a, .int .i64 b, .int .i64 c, .int .i64 d])).run Try.prog w = .ok true w := by
  obtain ⟨i, hi, hz⟩ : ∃ i : TypeInfo, Try.prog.info? 3 = some i ∧ i.size = 1 := ⟨_, rfl, rfl⟩
  have hc : Try.prog.cellsOf 3 = 1 := by kernel_rfl
  rw [show (10000 : Nat) = 9999 + 1 from rfl, run_equalIn_array w 9999 _ _ Try.underlying52 hi, hc]
  refine eqItems_self _ w _ fun j hj => ?_
  have hj4 := List.mem_range.1 hj
  have : j = 0 ∨ j = 1 ∨ j = 2 ∨ j = 3 := by omega
  rcases this with rfl | rfl | rfl | rfl <;> exact ⟨_, rfl⟩
end Go.Proofs.Ytpnipmjjhiaieaa
