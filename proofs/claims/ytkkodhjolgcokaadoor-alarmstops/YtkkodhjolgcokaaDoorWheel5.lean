/-
  Contracts of package wheel, over this seat's translation: Len, least.
-/
import Derived.Test.YtkkodhjolgcokaaDoorWheel4
import Derived.Test.YtkkodhjolgcokaaDoorPlanMath
import Derived.Deep.MidRow
namespace Go.Proofs.YtkkodhjolgcokaaDoor
open Go.RowKit Go.Lib
set_option maxRecDepth 100000
set_option linter.unusedVariables false

theorem counts_info : (Tryd.prog.info? 75).map (·.size) = some 12 := by kernel_rfl
theorem int_one : (Tryd.prog.info? 3).map (·.size) = some 1 := by kernel_rfl

/-- The counts, as a whole, out of the wheel. -/
theorem load_counts {rest : List Oper} {ops : Array Oper} {dst : Option Nat} {tt : TypeId} {ps : String} {af : Array Edge} {x : Operand} {f : Act} {w : World} {Q : Exit → Act → World → Prop} (b o : Nat) (a : Array Value) (hr : w.rangeAt b o a.toList) (hs : a.size = 12)
    (hx : f.eval x = .pointer (some ⟨b, o, none⟩)) (hyp : wpList Tryd.prog ops Q rest (f.put dst (.agg a)) w) :
    wpList Tryd.prog ops Q ({ dst := dst, op := .load 75 x, type := tt, pos := ps, after := af, guard := none } :: rest) f w := by
  refine wpList_load_mid rfl 75 x rfl b o hx a.toList _ hr Tryd.underlying75 rfl (by rw [counts_info]; simp [hs]) ?_
  simpa using hyp

theorem index_counts {rest : List Oper} {ops : Array Oper} {dst : Option Nat} {tt : TypeId} {ps : String} {af : Array Edge} {x i : Operand} {f : Act} {w : World} {Q : Exit → Act → World → Prop} (a : Array Value) (j : Nat) (v : Value) (hj : j < 12) (ha : a[j]? = some v)
    (hx : f.eval x = .agg a) (hi : f.eval i = .int .i64 (j : Int)) (hyp : wpList Tryd.prog ops Q rest (f.put dst v) w) :
    wpList Tryd.prog ops Q ({ dst := dst, op := .index 75 x i, type := tt, pos := ps, after := af, guard := none } :: rest) f w := by
  refine wpList_plain rfl fun K hK => ?_
  have hlt : (0 : Int) ≤ (j : Int) ∧ (j : Int) < (12 : Nat) := by omega
  have hrun : (Instr.index 75 (.agg a) (.int .i64 (j : Int))).run Tryd.prog w = .ok v w := by
    cases hq : Tryd.prog.info? 3 with
    | none => have := int_one; simp [hq] at this
    | some info =>
      have h1 : info.size = 1 := by have := int_one; simpa [hq] using this
      simp [Instr.index, asIntOf, run_underlying Tryd.underlying75 w, hj, sizeOf, typeInfo, hq, h1, part, run_underlying Tryd.underlying3 w, isAgg, ha]
  unfold Oper.wp execOp
  simp only [hx, hi, Sem.run_bind, hrun, Result.andThen_ok, Sem.run_pure]
  exact hK _ _ hyp

section
variable {w : World} {wb ab lb n now : Nat} {A : Nat → Nat × Nat} {L : Nat → List Nat} {C : Nat → Nat}

set_option maxHeartbeats 1000000 in
theorem wlen_any (H : WhMem w wb ab lb n now A L C) (hb : ∀ r, r < 12 → C r ≤ 4096) : Calls Tryd.prog 29 #[.pointer (some ⟨wb, 0, none⟩)] w fun e w' => e = .returned (.int .i64 (sumN C 12 : Nat)) ∧ w = w' := by
  obtain ⟨a, ha⟩ : ∃ a : Array Value, a = ((List.range 12).map (fun r => Value.int .i64 (C r : Nat))).toArray := ⟨_, rfl⟩
  have hs : a.size = 12 := by rw [ha]; simp
  have hat : ∀ j, j < 12 → a[j]? = some (.int .i64 (C j : Nat)) := fun j hj => by rw [ha]; simp [hj]
  have hr : w.rangeAt wb 3 a.toList := fun j v hv => by
    have hj : j < 12 := by have := (List.getElem?_eq_some_iff.1 hv).1; simpa [hs] using this
    have h1 := hat j hj
    rw [Array.getElem?_toList] at hv
    rw [h1] at hv
    rw [H.c3 j hj]; exact hv
  have HR := Lib.hid hr
  have HAT := Lib.hid hat
  have HB := Lib.hid hb
  clear H ha hr hat hb
  go_enter Tryd.func29, Tryd.ntmps29
  go_wp2_with (refine load_counts wb 3 a HR.out hs rfl ?_)
  go_loop [3, 10] (fun s it => ∃ j : Nat, j ≤ 12 ∧ it = .int .i64 j ∧ s = .int .i64 (sumN C j : Nat)) (fun s it => 12 - (Go.RowKit.intOf it).toNat)
  case atStart => exact ⟨0, Nat.zero_le _, rfl, rfl⟩
  case round =>
    obtain ⟨j, hj, rfl, rfl⟩ := hrel
    by_cases hjk : j < 12
    · have h1 := HAT.out j hjk
      have hc := HB.out j hjk
      have hl : sumN C j ≤ j * 4096 := sumN_le C 4096 j (fun i hi => HB.out i (by omega))
      have hss : Hid (sumN C (j + 1) = sumN C j + C j) := Lib.hid rfl
      have x1 : IntKind.i64.wrap ((sumN C j : Int) + (C j : Int)) = ((sumN C (j + 1) : Nat) : Int) := by rw [hss.out, IntKind.wrap_i64]; omega
      clear hc hl
      go_wp2_with (refine index_counts a j _ hjk h1 rfl rfl ?_)
      go_round
      case rel => exact ⟨j + 1, by omega, by go_num, rfl⟩
      case measure => simp [Go.RowKit.intOf]; omega
    · obtain rfl : j = 12 := by omega
      clear hjk
      go_wp2
      go_ret
      exact ⟨rfl, rfl⟩

/-- The least time of some alarms. -/
def leastN (A : Nat → Nat × Nat) : List Nat → Nat → Nat
  | [], m => m
  | k :: r, m => leastN A r (min m (A k).1)
end
end Go.Proofs.YtkkodhjolgcokaaDoor
