/-
  The document's example of queue.
-/
import Derived.Test.YtmmpnfkfieikcaaQueue5
namespace Go.Proofs.Ytmmpnfkfieikcaa
open Go.RowKit Go.Lib
set_option maxRecDepth 100000
set_option linter.unusedVariables false
theorem eql_thing (a b c d : Int) (w : World) : (binOp .eql 24 (.agg #[.int .i64 a, .int .i64 b]) (.agg #[.int .i64 c, .int .i64 d])).run Try.prog w = .ok (.bool (a == c && b == d)) w := by
  by_cases h1 : a = c <;> by_cases h2 : b = d <;> simp [go_sem, Try.underlying24, Try.underlying3, h1, h2]
set_option maxHeartbeats 16000000 in
theorem alive12 (w : World) : Calls Try.prog 6 #[] w fun e w' => e = .returned (.bool true) ∧ w.grownBy w' none := by
  have C0 := Lib.hid (qu_new 2 3 1 2 3 rfl rfl w)
  go_enter Try.func6, Try.ntmps6
  go_wp2_with fail
  refine C0.out.mono ?_
  rintro e w1 ⟨qb, rfl, k1, h1⟩
  have K1 := Lib.hid k1
  have H1 := Lib.hid h1
  have HL := Lib.hid (Nat.le_refl w.heap.size)
  generalize hhi : w1.heap.size = hi at *
  clear k1 h1 hhi
  go_wp2_with fail
  refine (qu_push_yes H1.out 2 2 4 (by decide)).mono ?_
  rintro e w2 ⟨rfl, k, h⟩
  have H2 := Lib.hid h
  have K2 := Lib.hid (Only.on K1.out k HL.out)
  clear k h H1 K1
  go_wp2_with fail
  refine (qu_push_no H2.out 2 0 (by decide)).mono ?_
  rintro e w3 ⟨rfl, k⟩
  have H3 := Lib.hid (H2.out.kept k)
  have K3 := Lib.hid (K2.out.trans k)
  clear k H2 K2
  go_wp2_with fail
  refine (qu_push_yes H3.out 1 1 1 (by decide)).mono ?_
  rintro e w4 ⟨rfl, k, h⟩
  have H4 := Lib.hid h
  have K4 := Lib.hid (Only.on K3.out k HL.out)
  clear k h H3 K3
  go_wp2_with fail
  refine (qu_push_no H4.out 1 1 (by decide)).mono ?_
  rintro e w5 ⟨rfl, k⟩
  have H5 := Lib.hid (H4.out.kept k)
  have K5 := Lib.hid (K4.out.trans k)
  clear k H4 K4
  go_wp2_with fail
  refine (qu_len H5.out).mono ?_
  rintro e w' ⟨rfl, rfl⟩
  have CD : Calls Try.prog 16 #[.pointer (some ⟨qb, 0, none⟩)] w5 fun e w' => e = .returned (.int .i64 1) ∧ w5 = w' := qu_devs H5.out
  replace CD := Lib.hid CD
  go_wp2_with fail
  refine (CD.out).mono ?_
  rintro e w' ⟨rfl, rfl⟩
  go_wp2_with fail
  refine (qu_drop_yes H5.out 2 2 4 (by decide)).mono ?_
  rintro e w6 ⟨rfl, k, h⟩
  have H6 := Lib.hid h
  have K6 := Lib.hid (Only.on K5.out k HL.out)
  clear k h H5 K5
  have CP : Calls Try.prog 13 #[.pointer (some ⟨qb, 0, none⟩)] w6 fun e w' => e = .returned (.tuple #[.agg #[.int .i64 1, .int .i64 1], .bool true]) ∧ Only w.heap.size hi w6 w' ∧ Qu w' w.heap.size hi qb 2 3 1 [] := qu_pop_some 1 [] H6.out
  replace CP := Lib.hid CP
  go_wp2_with fail
  refine (CP.out).mono ?_
  rintro e w7 ⟨rfl, k, h⟩
  have H7 := Lib.hid h
  have K7 := Lib.hid (Only.on K6.out k HL.out)
  clear k h H6 K6 CP
  go_wp2_with fail
  have k8 := World.grownBy_alloc w7 (.cells #[.int .i64 1, .int .i64 1] 24) none
  obtain ⟨⟨b0, b1⟩, _⟩ := box2 w7 (.int .i64 1) (.int .i64 1) 24 0
  have b0 : (w7.alloc (.cells #[.int .i64 1, .int .i64 1] 24)).cell? ⟨w7.heap.size, 0, none⟩ = some (.int .i64 1) := b0
  have b1 : (w7.alloc (.cells #[.int .i64 1, .int .i64 1] 24)).cell? ⟨w7.heap.size, 1, none⟩ = some (.int .i64 1) := b1
  have H8 := Lib.hid (H7.out.kept k8)
  have K8 := Lib.hid (K7.out.trans k8)
  generalize hX : w7.heap.size = X at *
  generalize w7.alloc (.cells #[.int .i64 1, .int .i64 1] 24) = w8 at *
  clear k8 H7 K7
  refine (qu_pop_none H8.out).mono ?_
  rintro e w9 ⟨rfl, k⟩
  have H9 := Lib.hid (H8.out.kept k)
  have K9 := Lib.hid (K8.out.trans k)
  replace b0 := k.cell b0 (by simp)
  replace b1 := k.cell b1 (by simp)
  have k10 := World.grownBy_alloc w9 (.cells #[.int .i64 0, .int .i64 0] 24) none
  have H10 := Lib.hid (H9.out.kept k10)
  have K10 := Lib.hid (K9.out.trans k10)
  replace b0 := k10.cell b0 (by simp)
  replace b1 := k10.cell b1 (by simp)
  have CA := Lib.hid (qu_all H10.out)
  clear k k10 H8 K8 H9 K9
  have eqt : ∀ v : World, (binOp .eql 24 (.agg #[.int .i64 1, .int .i64 1]) (.agg #[.int .i64 1, .int .i64 1])).run Try.prog v = .ok (.bool true) v := fun v => by rw [eql_thing]; rfl
  go_wp2_with fail
  refine CA.out.mono ?_
  rintro e w11 ⟨⟨v, rfl, hv⟩, k⟩
  obtain ⟨sa, cp, rfl, _, _⟩ := own_formP hv
  have K11 := Lib.hid (K10.out.trans k)
  clear k hv b0 b1
  go_wp2
  go_ret
  exact ⟨rfl, K11.out⟩
end Go.Proofs.Ytmmpnfkfieikcaa
