/-
  For every two 64-bit numbers the statement NumCeils of layer 1 returns true: so many times b is at least a, one time less is not. No conditions.
-/
import Derived.Test.YtbpmfldegfngaaaRows
import Derived.WalkKit
import Derived.ProofKit
import Derived.OpenShut
import Derived.Test.YtbpmfldegfngaaaRef1
namespace Go.Proofs.Ytbpmfldegfngaaa.numCeils
open Go.ChangeShapes Go.WideShapes Go.ChangeAt Go.RowKit
set_option linter.unusedVariables false

theorem own : ownKnob Try.prog.godebug = none := by kernel_rfl

theorem ceil_up (a b : Nat) (h : 0 < b) : a ≤ ceilN a b * b := by
  unfold ceilN
  rw [if_neg (by omega)]
  have hm : a / b * b + a % b = a := Nat.div_add_mod' a b
  have hl : a % b < b := Nat.mod_lt _ h
  by_cases h1 : a % b = 0
  · rw [if_pos h1]; omega
  · rw [if_neg h1, Nat.add_mul]; omega
theorem ceil_dn (a b : Nat) (h : 0 < b) (h0 : 0 < ceilN a b) : (ceilN a b - 1) * b < a := by
  unfold ceilN at *
  rw [if_neg (by omega)] at *
  have hm : a / b * b + a % b = a := Nat.div_add_mod' a b
  by_cases h1 : a % b = 0
  · rw [if_pos h1] at *
    have : (a / b - 1 + 1) * b = a / b * b := by rw [Nat.sub_add_cancel h0]
    rw [Nat.add_mul] at this
    omega
  · rw [if_neg h1, Nat.add_sub_cancel]; omega
theorem ceil_fit (a b : Nat) (ha : a < 18446744073709551616) : ceilN a b < 18446744073709551616 := by
  unfold ceilN
  by_cases h0 : b = 0
  · rw [if_pos h0]; omega
  · rw [if_neg h0]
    by_cases h1 : a % b = 0
    · rw [if_pos h1]; have := Nat.div_le_self a b; omega
    · rw [if_neg h1]; exact ceil_lt a b ha h1

theorem walk (a0 : Int) (a1 : Int) (w0 : (Lit.int .u64 a0).wf = true) (w1 : (Lit.int .u64 a1).wf = true) (w : World) :
    Calls Try.prog 7 #[.int .u64 a0, .int .u64 a1] w fun e w' => e = .returned (.bool true) ∧ Grown w w' := by
  obtain ⟨a, rfl, ha⟩ := u64_nat w0
  obtain ⟨b, rfl, hb⟩ := u64_nat w1
  clear w0 w1
  by_cases h0 : b = 0
  · subst h0
    go_enter Try.func7, Try.ntmps7
    go_wp2_with fail
    refine (alive1 _).mono ?_
    rintro e w' ⟨rfl, rfl⟩
    go_wp2_with fail
    refine (ceil_any a 0 ha hb _).mono ?_
    rw [show ceilN a 0 = 0 from rfl]
    rintro e w' ⟨rfl, rfl⟩
    go_wp2
    go_ret
    exact ⟨rfl, Grown.refl _⟩
  · have hbp : 0 < b := by omega
    have hz : ((b : Int) == 0) = false := by simp; omega
    have hu := ceil_up a b hbp
    have hd := ceil_dn a b hbp
    have hf := ceil_fit a b ha
    have c := ceil_any a b ha hb w
    generalize ceilN a b = n at *
    have C := Lib.hid c; clear c h0
    by_cases hn : n = 0
    · subst hn
      have ha0 : a = 0 := by omega
      subst ha0
      clear hd hu
      go_enter Try.func7, Try.ntmps7
      go_wp2_with fail
      refine (alive1 _).mono ?_
      rintro e w' ⟨rfl, rfl⟩
      go_wp2_with fail
      refine C.out.mono ?_
      rintro e w' ⟨rfl, rfl⟩
      go_wp2_with fail
      refine (product_small 0 b (by omega) hb (by omega) _).mono ?_
      rw [Nat.zero_mul]
      rintro e w' ⟨rfl, rfl⟩
      go_wp2
      go_ret
      exact ⟨rfl, by repeat (first | exact Grown.refl _ | apply Grown.drew | apply Grown.alloc)⟩
    · have hn0 : ((n : Int) == 0) = false := by simp; omega
      have hn1 : 0 < n := by omega
      have hd' := hd (by omega)
      have hd2 := Lib.hid (show decide (IntKind.u64.wrap (((n : Int) - 1) * (b : Int)) < (a : Int)) = true by
        rw [show (n : Int) - 1 = ((n - 1 : Nat) : Int) by omega, mulN, wrapN _ (by omega), decide_eq_true_eq]; omega)
      by_cases hs : n * b < 18446744073709551616
      · have hs2 : decide (((n * b : Nat) : Int) < (a : Int)) = false := by rw [decide_eq_false_iff_not]; omega
        have hs3 : decide (n * b < a) = false := by rw [decide_eq_false_iff_not]; omega
        clear hd hn
        go_enter Try.func7, Try.ntmps7
        go_wp2_with fail
        refine (alive1 _).mono ?_
        rintro e w' ⟨rfl, rfl⟩
        go_wp2_with fail
        refine C.out.mono ?_
        rintro e w' ⟨rfl, rfl⟩
        go_wp2_with fail
        refine (product_small n b hf hb hs _).mono ?_
        rintro e w' ⟨rfl, rfl⟩
        go_wp2
        go_ret
        exact ⟨ret_bool hd2.out, by repeat (first | exact Grown.refl _ | apply Grown.drew | apply Grown.alloc)⟩
      · obtain ⟨q, r, hq0, hr, c2⟩ := product_great n b hf hb (by omega) w
        have C2 := Lib.hid c2; clear c2 hd hn hs
        have hq : ((q : Int) == 0) = false := by simp; omega
        go_enter Try.func7, Try.ntmps7
        go_wp2_with fail
        refine (alive1 _).mono ?_
        rintro e w' ⟨rfl, rfl⟩
        go_wp2_with fail
        refine C.out.mono ?_
        rintro e w' ⟨rfl, rfl⟩
        go_wp2_with fail
        refine C2.out.mono ?_
        rintro e w' ⟨rfl, rfl⟩
        go_wp2
        go_ret
        exact ⟨ret_bool hd2.out, by repeat (first | exact Grown.refl _ | apply Grown.drew | apply Grown.alloc)⟩

set_option maxRecDepth 100000 in
theorem lifted (os : Os) (started : os.Started) (H : Type) (enc : TypeId × Value → H) :
    ReturnsInHanded {} Try.checked os 7 .any (Rows.numCeilsSpec.pre6 enc Try.prog Try.f7 Rows.numCeilsRow.domain false) (Rows.numCeilsSpec.post enc Try.prog Try.f7 false true false false) := by
  refine returnsInHanded_of_change (C := Try.checked) own started (by kernel_rfl) Try.func7
    (ChangeSpec.witness6 (enc := enc) (C := Try.checked) false ⟨#[], #[.int .u64 0, .int .u64 0], []⟩ 8 (by kernel_rfl) (by kernel_rfl) (by kernel_rfl) (by kernel_rfl)) ?_
  intro W base args ds gs before hval0 hW hcnd _
  have hval : ∀ (j : Nat) t v, Try.f7.params[j]? = some t → args[j]? = some v → Value.okWide Try.prog W .any base t v := hval0
  have hW' := hW
  obtain ⟨p, q, hA0, hV, rfl, hfz, hnd⟩ := hW
  have hA : DataW.TrodAll enc Try.prog W 0 (fun _ => true) true Try.f7.params.toList args.toList ds p := hA0
  rw [Try.params7] at hA hval
  obtain ⟨v0, vs0, d0, ds0, p0, q0, hargs, rfl, rfl, h0, r0⟩ := trodAll_cons hA
  obtain ⟨v1, vs1, d1, ds1, p1, q1, rfl, rfl, rfl, h1, r1⟩ := trodAll_cons r0
  obtain ⟨rfl, rfl, rfl⟩ := trodAll_nil r1
  obtain rfl : args = #[v0, v1] := by cases args; simp_all
  obtain ⟨rfl, rfl⟩ := trodVars_none hV
  obtain ⟨a0, rfl, rfl, rfl, w0⟩ := open_int Try.underlying22 (hval 0 22 v0 rfl rfl) h0
  obtain ⟨a1, rfl, rfl, rfl, w1⟩ := open_int Try.underlying22 (hval 1 22 v1 rfl rfl) h1
  clear hA0 hval0
  simp only [List.append_nil] at hW'
  refine (walk a0 a1 w0 w1 W).mono fun e W' ⟨he, hg⟩ => ?_
  subst he
  exact ⟨_, rfl, post_of_same (pa := []) (pv := []) hW' (fun _ _ _ => (trodAll_cons_mk (shut_bool Try.underlying4 _) trodAll_mk0)) (fun sp _ => (trodAll_cons_mk (shut_int Try.underlying22 w0) (trodAll_cons_mk (shut_int Try.underlying22 w1) trodAll_mk0))) (fun _ _ => rfl) rfl
    (hg.frame _) hg.2.1 (ok_one (by kernel_rfl) rfl (okWide_bool_mk Try.underlying4 _))⟩

theorem over : Rows.numCeilsRow.holds Try.pinned (OpenSpec.ofChange Rows.numCeilsSpec) :=
  OpenClaim.holds_of_wide 7 Try.f7 rfl rfl rfl rfl rfl rfl rfl ⟨rfl, rfl, rfl, rfl, rfl⟩ rfl rfl rfl rfl rfl (by kernel_rfl) Try.func7 (by kernel_rfl)
    (of_decide_eq_true (by kernel_rfl)) (by unfold Func.isWrapper; first | (rw [if_pos (by decide +kernel)]; kernel_rfl) | (rw [if_neg (by decide +kernel)]; exact ⟨rfl, rfl⟩))
    (fun os started H enc _ => lifted os started H enc)

theorem proved : Rows.NumCeilsSaid :=
  over
end Go.Proofs.Ytbpmfldegfngaaa.numCeils
namespace Go.Proofs.Ytbpmfldegfngaaa
theorem numCeils_holds : Rows.NumCeilsSaid := numCeils.proved
end Go.Proofs.Ytbpmfldegfngaaa
