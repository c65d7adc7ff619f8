/-
  For every input the statement NumSteps of layer 1 returns true: asked for behind its own answer, the next time is one period on, behind more of them as many. No conditions.
-/
import Derived.Test.YtbpmfldegfngaaaRows
import Derived.WalkKit
import Derived.ProofKit
import Derived.OpenShut
import Derived.Test.YtbpmfldegfngaaaRef1
namespace Go.Proofs.Ytbpmfldegfngaaa.numSteps
open Go.ChangeShapes Go.WideShapes Go.ChangeAt Go.RowKit
set_option linter.unusedVariables false

theorem own : ownKnob Try.prog.godebug = none := by kernel_rfl

theorem mask50 (a : Nat) (ha : a < 18446744073709551616) : bits .and .u64 (a : Int) 1125899906842623 = ((a % 1125899906842624 : Nat) : Int) := u64_mask 50 (by decide) a ha
theorem mask30 (a : Nat) (ha : a < 18446744073709551616) : bits .and .u64 (a : Int) 1073741823 = ((a % 1073741824 : Nat) : Int) := u64_mask 30 (by decide) a ha
theorem mask10 (n : Int) : ∃ k : Nat, k < 1024 ∧ bits .and .i64 n 1023 = (k : Int) := by
  have h := i64_mask 10 (by decide) n
  have e : bits .and .i64 n 1023 = n % 1024 := h
  exact ⟨(n % 1024).toNat, by omega, by rw [e]; omega⟩
theorem turns_on (d q n : Nat) (hq : 0 < q) : turnsN d q (d + n * q) = n + 1 := by
  unfold turnsN
  rw [Nat.add_sub_cancel_left, Nat.mul_div_cancel _ hq]

set_option maxHeartbeats 4000000 in
theorem walk (a0 : Int) (a1 : Int) (a2 : Int) (w0 : (Lit.int .u64 a0).wf = true) (w1 : (Lit.int .u64 a1).wf = true) (w2 : (Lit.int .i64 a2).wf = true) (w : World) :
    Calls Try.prog 9 #[.int .u64 a0, .int .u64 a1, .int .i64 a2] w fun e w' => e = .returned (.bool true) ∧ Grown w w' := by
  obtain ⟨d0, rfl, hd0⟩ := u64_nat w0
  obtain ⟨p0, rfl, hp0⟩ := u64_nat w1
  have hD := mask50 d0 hd0
  have hP := mask30 p0 hp0
  obtain ⟨n, hn, hN⟩ := mask10 a2
  have hd : d0 % 1125899906842624 < 1125899906842624 := Nat.mod_lt _ (by decide)
  have hp : p0 % 1073741824 < 1073741824 := Nat.mod_lt _ (by decide)
  generalize d0 % 1125899906842624 = d at *
  generalize p0 % 1073741824 = p at *
  obtain ⟨q, hq, hq1⟩ : ∃ q : Nat, 0 < q ∧ q = p + 1 := ⟨p + 1, by omega, rfl⟩
  have e1 := Lib.hid (show (1 : Int) + (p : Int) = (q : Int) by omega)
  have hq2 : q ≤ 1073741824 := by omega
  have hnp : n * q ≤ 1024 * 1073741824 := Nat.mul_le_mul (by omega) hq2
  have hnp1 : (n + 1) * q ≤ 1024 * 1073741824 := Nat.mul_le_mul (by omega) hq2
  have h1 := next_ok d q (d + n * q) (by omega) (by omega) (by omega) hq (by rw [turns_on _ _ _ hq]; omega) w
  rw [turns_on _ _ _ hq] at h1
  have e2 := Lib.hid (show IntKind.u64.wrap ((d : Int) + IntKind.u64.wrap ((n : Int) * (q : Int))) = ((d + n * q : Nat) : Int) by
    rw [mulN, wrapN _ (by omega), addN, wrapN _ (by omega)])
  have e3 : ((n + 1 : Nat) : Int) = (n : Int) + 1 := by omega
  have e4 : ((d + (n + 1) * q : Nat) : Int) = (d : Int) + ((n + 1 : Nat) : Int) * (q : Int) := by
    rw [mulN, addN]
  have ht : d + (n + 1) * q ≤ 1125899906842624 + 1024 * 1073741824 := by omega
  have hk : n + 1 ≤ 1024 := by omega
  generalize n + 1 = k at *
  generalize d + k * q = t at *
  have h2 := next_ok t q t (by omega) (by omega) (by omega) hq (by rw [turns_back _ _ _ (Nat.le_refl _)]; omega) w
  rw [turns_back _ _ _ (Nat.le_refl _), Nat.one_mul] at h2
  have e5 : ((t + q : Nat) : Int) = (t : Int) + (q : Int) := by omega
  have hu : t + q ≤ 1125899906842624 + 1025 * 1073741824 := by omega
  generalize t + q = u at *
  have H1 := Lib.hid h1; have H2 : Hid (Calls Try.prog 20 #[.int .u64 t, .int .u64 q, .int .u64 t] w fun r w' => r = .returned (.tuple #[.int .u64 u, .int .u64 1, .bool true]) ∧ w = w') := Lib.hid h2
  have E3 : ((k : Int) == (n : Int) + 1) = true := by rw [beq_iff_eq]; exact e3
  have E4 : ((t : Int) == (d : Int) + (k : Int) * (q : Int)) = true := by rw [beq_iff_eq]; exact e4
  have E5 : ((u : Int) == (t : Int) + (q : Int)) = true := by rw [beq_iff_eq]; exact e5
  have F3 := Lib.hid e3; have F4 := Lib.hid e4; have F5 := Lib.hid e5
  clear h1 h2 e3 e4 e5 hq1 w0 w1 w2
  go_enter Try.func9, Try.ntmps9
  go_wp2_with fail
  refine (alive1 _).mono ?_
  rintro e w' ⟨rfl, rfl⟩
  go_wp2_with fail
  rw [e1.out, e2.out]
  refine H1.out.mono ?_
  rintro e w' ⟨rfl, rfl⟩
  go_wp2_with fail
  refine (H2.out).mono ?_
  rintro e w' ⟨rfl, rfl⟩
  go_wp2
  all_goals first | (go_ret; exact ⟨rfl, Grown.refl _⟩) | (rename_i hx; exact absurd F3.out hx) | (rename_i hx; exact absurd F4.out hx) | (rename_i hx; exact absurd F5.out hx)

set_option maxRecDepth 100000 in
theorem lifted (os : Os) (started : os.Started) (H : Type) (enc : TypeId × Value → H) :
    ReturnsInHanded {} Try.checked os 9 .any (Rows.numStepsSpec.pre6 enc Try.prog Try.f9 Rows.numStepsRow.domain false) (Rows.numStepsSpec.post enc Try.prog Try.f9 false true false false) := by
  refine returnsInHanded_of_change (C := Try.checked) own started (by kernel_rfl) Try.func9
    (ChangeSpec.witness6 (enc := enc) (C := Try.checked) false ⟨#[], #[.int .u64 0, .int .u64 0, .int .i64 0], []⟩ 8 (by kernel_rfl) (by kernel_rfl) (by kernel_rfl) (by kernel_rfl)) ?_
  intro W base args ds gs before hval0 hW hcnd _
  have hval : ∀ (j : Nat) t v, Try.f9.params[j]? = some t → args[j]? = some v → Value.okWide Try.prog W .any base t v := hval0
  have hW' := hW
  obtain ⟨p, q, hA0, hV, rfl, hfz, hnd⟩ := hW
  have hA : DataW.TrodAll enc Try.prog W 0 (fun _ => true) true Try.f9.params.toList args.toList ds p := hA0
  rw [Try.params9] at hA hval
  obtain ⟨v0, vs0, d0, ds0, p0, q0, hargs, rfl, rfl, h0, r0⟩ := trodAll_cons hA
  obtain ⟨v1, vs1, d1, ds1, p1, q1, rfl, rfl, rfl, h1, r1⟩ := trodAll_cons r0
  obtain ⟨v2, vs2, d2, ds2, p2, q2, rfl, rfl, rfl, h2, r2⟩ := trodAll_cons r1
  obtain ⟨rfl, rfl, rfl⟩ := trodAll_nil r2
  obtain rfl : args = #[v0, v1, v2] := by cases args; simp_all
  obtain ⟨rfl, rfl⟩ := trodVars_none hV
  obtain ⟨a0, rfl, rfl, rfl, w0⟩ := open_int Try.underlying22 (hval 0 22 v0 rfl rfl) h0
  obtain ⟨a1, rfl, rfl, rfl, w1⟩ := open_int Try.underlying22 (hval 1 22 v1 rfl rfl) h1
  obtain ⟨a2, rfl, rfl, rfl, w2⟩ := open_int Try.underlying3 (hval 2 3 v2 rfl rfl) h2
  clear hA0 hval0
  simp only [List.append_nil] at hW'
  refine (walk a0 a1 a2 w0 w1 w2 W).mono fun e W' ⟨he, hg⟩ => ?_
  subst he
  exact ⟨_, rfl, post_of_same (pa := []) (pv := []) hW' (fun _ _ _ => (trodAll_cons_mk (shut_bool Try.underlying4 _) trodAll_mk0)) (fun sp _ => (trodAll_cons_mk (shut_int Try.underlying22 w0) (trodAll_cons_mk (shut_int Try.underlying22 w1) (trodAll_cons_mk (shut_int Try.underlying3 w2) trodAll_mk0)))) (fun _ _ => rfl) rfl
    (hg.frame _) hg.2.1 (ok_one (by kernel_rfl) rfl (okWide_bool_mk Try.underlying4 _))⟩

theorem over : Rows.numStepsRow.holds Try.pinned (OpenSpec.ofChange Rows.numStepsSpec) :=
  OpenClaim.holds_of_wide 9 Try.f9 rfl rfl rfl rfl rfl rfl rfl ⟨rfl, rfl, rfl, rfl, rfl⟩ rfl rfl rfl rfl rfl (by kernel_rfl) Try.func9 (by kernel_rfl)
    (of_decide_eq_true (by kernel_rfl)) (by unfold Func.isWrapper; first | (rw [if_pos (by decide +kernel)]; kernel_rfl) | (rw [if_neg (by decide +kernel)]; exact ⟨rfl, rfl⟩))
    (fun os started H enc _ => lifted os started H enc)

theorem proved : Rows.NumStepsSaid :=
  over
end Go.Proofs.Ytbpmfldegfngaaa.numSteps
namespace Go.Proofs.Ytbpmfldegfngaaa
theorem numSteps_holds : Rows.NumStepsSaid := numSteps.proved
end Go.Proofs.Ytbpmfldegfngaaa
