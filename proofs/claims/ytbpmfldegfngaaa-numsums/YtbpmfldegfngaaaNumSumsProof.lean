/-
  For every input the statement NumSums of layer 1 returns true: sums and differences, and whether they are too great, and a number held between two, are as the document says. No conditions.
-/
import Derived.Test.YtbpmfldegfngaaaRows
import Derived.WalkKit
import Derived.ProofKit
import Derived.OpenShut
import Derived.Test.YtbpmfldegfngaaaRef1
namespace Go.Proofs.Ytbpmfldegfngaaa.numSums
open Go.ChangeShapes Go.WideShapes Go.ChangeAt Go.RowKit
set_option linter.unusedVariables false

theorem own : ownKnob Try.prog.godebug = none := by kernel_rfl

set_option maxHeartbeats 4000000 in
theorem walk (a0 : Int) (a1 : Int) (a2 : Int) (a3 : Int) (a4 : Int) (w0 : (Lit.int .u64 a0).wf = true) (w1 : (Lit.int .u64 a1).wf = true) (w2 : (Lit.int .i64 a2).wf = true) (w3 : (Lit.int .i64 a3).wf = true) (w4 : (Lit.int .i64 a4).wf = true) (w : World) :
    Calls Try.prog 3 #[.int .u64 a0, .int .u64 a1, .int .i64 a2, .int .i64 a3, .int .i64 a4] w fun e w' => e = .returned (.bool true) ∧ Grown w w' := by
  obtain ⟨a, rfl, ha⟩ := u64_nat w0
  obtain ⟨b, rfl, hb⟩ := u64_nat w1
  clear w0 w1 w2 w3 w4
  have c1 := Lib.hid (clamp_any a2 a3 a4)
  have hcl : ∃ c : Int, (∀ W : World, Calls Try.prog 15 #[.int .i64 a2, .int .i64 a3, .int .i64 a4] W fun e w' => e = .returned (.int .i64 c) ∧ W = w') ∧
      (a4 < a3 ∨ (a3 ≤ a4 ∧ a3 ≤ c ∧ c ≤ a4 ∧ (c = a2 ∨ (a2 < a3 ∧ c = a3) ∨ (a4 < a2 ∧ c = a4)))) := ⟨_, c1.out, by omega⟩
  clear c1
  obtain ⟨c, cc, hc⟩ := hcl
  have CC := Lib.hid cc
  clear cc
  have hc2 := Lib.hid hc; clear hc
  by_cases hs : a + b < 18446744073709551616
  · have S1 := Lib.hid (sum_small a b ha hb hs)
    have A1 := Lib.hid (add_ok a b hs)
    have P1 : Hid (∀ W : World, Calls Try.prog 13 #[.int .u64 a, .int .u64 b] W fun e w' => e = .returned (.int .u64 ((a + b : Nat) : Int)) ∧ W = w') := by
      refine Lib.hid fun W => ?_
      have h := plus_any a b ha hb W
      rw [show plusN a b = a + b by unfold plusN; rw [if_pos hs]] at h
      exact h
    generalize a + b = s at *
    by_cases hm : a < b
    · have M1 : Hid (∀ W : World, Calls Try.prog 14 #[.int .u64 a, .int .u64 b] W fun e w' => e = .returned (.int .u64 0) ∧ W = w') := by
        refine Lib.hid fun W => ?_
        have h := minus_any a b ha W
        rw [show a - b = 0 by omega] at h
        exact h
      go_enter Try.func3, Try.ntmps3
      go_wp2_with fail
      refine (alive1 _).mono ?_
      rintro e w' ⟨rfl, rfl⟩
      go_wp2_with fail
      refine (S1.out _).mono ?_
      rintro e w' ⟨rfl, rfl⟩
      go_wp2_with fail
      refine (A1.out _).mono ?_
      rintro e w' ⟨rfl, rfl⟩
      go_wp2_with fail
      refine (P1.out _).mono ?_
      rintro e w' ⟨rfl, rfl⟩
      go_wp2_with fail
      refine (M1.out _).mono ?_
      rintro e w' ⟨rfl, rfl⟩
      go_wp2_with fail
      refine (CC.out _).mono ?_
      rintro e w' ⟨rfl, rfl⟩
      go_wp2
      all_goals first | (go_ret; exact ⟨rfl, by repeat (first | exact Grown.refl _ | apply Grown.drew | apply Grown.alloc)⟩) | (have hx := hc2.out; exfalso; omega) | (go_ret; refine ⟨ret_bool ?_, by repeat (first | exact Grown.refl _ | apply Grown.drew | apply Grown.alloc)⟩; have hx := hc2.out; simp; omega)
    · have M1 := Lib.hid (minus_any a b ha)
      have T1 : Hid (∀ W : World, Calls Try.prog 11 #[.int .u64 ((a - b : Nat) : Int), .int .u64 b] W fun e w' => e = .returned (.agg #[.int .u64 0, .int .u64 a]) ∧ w' = W.alloc (.cells #[.int .u64 0, .int .u64 a] 25)) := by
        refine Lib.hid fun W => ?_
        have h := sum_small (a - b) b (by omega) hb (by omega) W
        rw [show a - b + b = a by omega] at h
        exact h
      have hm2 : b ≤ a := by omega
      generalize a - b = m at *
      go_enter Try.func3, Try.ntmps3
      go_wp2_with fail
      refine (alive1 _).mono ?_
      rintro e w' ⟨rfl, rfl⟩
      go_wp2_with fail
      refine (S1.out _).mono ?_
      rintro e w' ⟨rfl, rfl⟩
      go_wp2_with fail
      refine (A1.out _).mono ?_
      rintro e w' ⟨rfl, rfl⟩
      go_wp2_with fail
      refine (P1.out _).mono ?_
      rintro e w' ⟨rfl, rfl⟩
      go_wp2_with fail
      refine (M1.out _).mono ?_
      rintro e w' ⟨rfl, rfl⟩
      go_wp2_with fail
      refine (T1.out _).mono ?_
      rintro e w' ⟨rfl, rfl⟩
      go_wp2_with fail
      refine (CC.out _).mono ?_
      rintro e w' ⟨rfl, rfl⟩
      go_wp2
      all_goals first | (go_ret; exact ⟨rfl, by repeat (first | exact Grown.refl _ | apply Grown.drew | apply Grown.alloc)⟩) | (have hx := hc2.out; exfalso; omega) | (go_ret; refine ⟨ret_bool ?_, by repeat (first | exact Grown.refl _ | apply Grown.drew | apply Grown.alloc)⟩; have hx := hc2.out; simp; omega)
  · have S1 := Lib.hid (sum_great a b ha hb (by omega))
    have A1 := Lib.hid (add_no a b (by omega) ha hb)
    have P1 : Hid (∀ W : World, Calls Try.prog 13 #[.int .u64 a, .int .u64 b] W fun e w' => e = .returned (.int .u64 18446744073709551615) ∧ W = w') := by
      refine Lib.hid fun W => ?_
      have h := plus_any a b ha hb W
      rw [show plusN a b = 18446744073709551615 by unfold plusN; rw [if_neg hs]] at h
      exact h
    generalize a + b = s at *
    by_cases hm : a < b
    · have M1 : Hid (∀ W : World, Calls Try.prog 14 #[.int .u64 a, .int .u64 b] W fun e w' => e = .returned (.int .u64 0) ∧ W = w') := by
        refine Lib.hid fun W => ?_
        have h := minus_any a b ha W
        rw [show a - b = 0 by omega] at h
        exact h
      go_enter Try.func3, Try.ntmps3
      go_wp2_with fail
      refine (alive1 _).mono ?_
      rintro e w' ⟨rfl, rfl⟩
      go_wp2_with fail
      refine (S1.out _).mono ?_
      rintro e w' ⟨rfl, rfl⟩
      go_wp2_with fail
      refine (A1.out _).mono ?_
      rintro e w' ⟨rfl, rfl⟩
      go_wp2_with fail
      refine (P1.out _).mono ?_
      rintro e w' ⟨rfl, rfl⟩
      go_wp2_with fail
      refine (M1.out _).mono ?_
      rintro e w' ⟨rfl, rfl⟩
      go_wp2_with fail
      refine (CC.out _).mono ?_
      rintro e w' ⟨rfl, rfl⟩
      go_wp2
      all_goals first | (go_ret; exact ⟨rfl, by repeat (first | exact Grown.refl _ | apply Grown.drew | apply Grown.alloc)⟩) | (have hx := hc2.out; exfalso; omega) | (go_ret; refine ⟨ret_bool ?_, by repeat (first | exact Grown.refl _ | apply Grown.drew | apply Grown.alloc)⟩; have hx := hc2.out; simp; omega)
    · have M1 := Lib.hid (minus_any a b ha)
      have T1 : Hid (∀ W : World, Calls Try.prog 11 #[.int .u64 ((a - b : Nat) : Int), .int .u64 b] W fun e w' => e = .returned (.agg #[.int .u64 0, .int .u64 a]) ∧ w' = W.alloc (.cells #[.int .u64 0, .int .u64 a] 25)) := by
        refine Lib.hid fun W => ?_
        have h := sum_small (a - b) b (by omega) hb (by omega) W
        rw [show a - b + b = a by omega] at h
        exact h
      have hm2 : b ≤ a := by omega
      generalize a - b = m at *
      go_enter Try.func3, Try.ntmps3
      go_wp2_with fail
      refine (alive1 _).mono ?_
      rintro e w' ⟨rfl, rfl⟩
      go_wp2_with fail
      refine (S1.out _).mono ?_
      rintro e w' ⟨rfl, rfl⟩
      go_wp2_with fail
      refine (A1.out _).mono ?_
      rintro e w' ⟨rfl, rfl⟩
      go_wp2_with fail
      refine (P1.out _).mono ?_
      rintro e w' ⟨rfl, rfl⟩
      go_wp2_with fail
      refine (M1.out _).mono ?_
      rintro e w' ⟨rfl, rfl⟩
      go_wp2_with fail
      refine (T1.out _).mono ?_
      rintro e w' ⟨rfl, rfl⟩
      go_wp2_with fail
      refine (CC.out _).mono ?_
      rintro e w' ⟨rfl, rfl⟩
      go_wp2
      all_goals first | (go_ret; exact ⟨rfl, by repeat (first | exact Grown.refl _ | apply Grown.drew | apply Grown.alloc)⟩) | (have hx := hc2.out; exfalso; omega) | (go_ret; refine ⟨ret_bool ?_, by repeat (first | exact Grown.refl _ | apply Grown.drew | apply Grown.alloc)⟩; have hx := hc2.out; simp; omega)

set_option maxRecDepth 100000 in
theorem lifted (os : Os) (started : os.Started) (H : Type) (enc : TypeId × Value → H) :
    ReturnsInHanded {} Try.checked os 3 .any (Rows.numSumsSpec.pre6 enc Try.prog Try.f3 Rows.numSumsRow.domain false) (Rows.numSumsSpec.post enc Try.prog Try.f3 false true false false) := by
  refine returnsInHanded_of_change (C := Try.checked) own started (by kernel_rfl) Try.func3
    (ChangeSpec.witness6 (enc := enc) (C := Try.checked) false ⟨#[], #[.int .u64 0, .int .u64 0, .int .i64 0, .int .i64 0, .int .i64 0], []⟩ 8 (by kernel_rfl) (by kernel_rfl) (by kernel_rfl) (by kernel_rfl)) ?_
  intro W base args ds gs before hval0 hW hcnd _
  have hval : ∀ (j : Nat) t v, Try.f3.params[j]? = some t → args[j]? = some v → Value.okWide Try.prog W .any base t v := hval0
  have hW' := hW
  obtain ⟨p, q, hA0, hV, rfl, hfz, hnd⟩ := hW
  have hA : DataW.TrodAll enc Try.prog W 0 (fun _ => true) true Try.f3.params.toList args.toList ds p := hA0
  rw [Try.params3] at hA hval
  obtain ⟨v0, vs0, d0, ds0, p0, q0, hargs, rfl, rfl, h0, r0⟩ := trodAll_cons hA
  obtain ⟨v1, vs1, d1, ds1, p1, q1, rfl, rfl, rfl, h1, r1⟩ := trodAll_cons r0
  obtain ⟨v2, vs2, d2, ds2, p2, q2, rfl, rfl, rfl, h2, r2⟩ := trodAll_cons r1
  obtain ⟨v3, vs3, d3, ds3, p3, q3, rfl, rfl, rfl, h3, r3⟩ := trodAll_cons r2
  obtain ⟨v4, vs4, d4, ds4, p4, q4, rfl, rfl, rfl, h4, r4⟩ := trodAll_cons r3
  obtain ⟨rfl, rfl, rfl⟩ := trodAll_nil r4
  obtain rfl : args = #[v0, v1, v2, v3, v4] := by cases args; simp_all
  obtain ⟨rfl, rfl⟩ := trodVars_none hV
  obtain ⟨a0, rfl, rfl, rfl, w0⟩ := open_int Try.underlying22 (hval 0 22 v0 rfl rfl) h0
  obtain ⟨a1, rfl, rfl, rfl, w1⟩ := open_int Try.underlying22 (hval 1 22 v1 rfl rfl) h1
  obtain ⟨a2, rfl, rfl, rfl, w2⟩ := open_int Try.underlying3 (hval 2 3 v2 rfl rfl) h2
  obtain ⟨a3, rfl, rfl, rfl, w3⟩ := open_int Try.underlying3 (hval 3 3 v3 rfl rfl) h3
  obtain ⟨a4, rfl, rfl, rfl, w4⟩ := open_int Try.underlying3 (hval 4 3 v4 rfl rfl) h4
  clear hA0 hval0
  simp only [List.append_nil] at hW'
  refine (walk a0 a1 a2 a3 a4 w0 w1 w2 w3 w4 W).mono fun e W' ⟨he, hg⟩ => ?_
  subst he
  exact ⟨_, rfl, post_of_same (pa := []) (pv := []) hW' (fun _ _ _ => (trodAll_cons_mk (shut_bool Try.underlying4 _) trodAll_mk0)) (fun sp _ => (trodAll_cons_mk (shut_int Try.underlying22 w0) (trodAll_cons_mk (shut_int Try.underlying22 w1) (trodAll_cons_mk (shut_int Try.underlying3 w2) (trodAll_cons_mk (shut_int Try.underlying3 w3) (trodAll_cons_mk (shut_int Try.underlying3 w4) trodAll_mk0)))))) (fun _ _ => rfl) rfl
    (hg.frame _) hg.2.1 (ok_one (by kernel_rfl) rfl (okWide_bool_mk Try.underlying4 _))⟩

theorem over : Rows.numSumsRow.holds Try.pinned (OpenSpec.ofChange Rows.numSumsSpec) :=
  OpenClaim.holds_of_wide 3 Try.f3 rfl rfl rfl rfl rfl rfl rfl ⟨rfl, rfl, rfl, rfl, rfl⟩ rfl rfl rfl rfl rfl (by kernel_rfl) Try.func3 (by kernel_rfl)
    (of_decide_eq_true (by kernel_rfl)) (by unfold Func.isWrapper; first | (rw [if_pos (by decide +kernel)]; kernel_rfl) | (rw [if_neg (by decide +kernel)]; exact ⟨rfl, rfl⟩))
    (fun os started H enc _ => lifted os started H enc)

theorem proved : Rows.NumSumsSaid :=
  over
end Go.Proofs.Ytbpmfldegfngaaa.numSums
namespace Go.Proofs.Ytbpmfldegfngaaa
theorem numSums_holds : Rows.NumSumsSaid := numSums.proved
end Go.Proofs.Ytbpmfldegfngaaa
