/-
  For every three 64-bit numbers the statement NumFirst of layer 1 returns true: the next time is behind, and none ahead of it is; there is none only if it would be too great. No conditions.
-/
import Derived.Test.YtbpmfldegfngaaaRows
import Derived.WalkKit
import Derived.ProofKit
import Derived.OpenShut
import Derived.Test.YtbpmfldegfngaaaRef1
namespace Go.Proofs.Ytbpmfldegfngaaa.numFirst
open Go.ChangeShapes Go.WideShapes Go.ChangeAt Go.RowKit
set_option linter.unusedVariables false

theorem own : ownKnob Try.prog.godebug = none := by kernel_rfl

theorem turns_up (d p e : Nat) (hp : 0 < p) : e < d + turnsN d p e * p := by
  have hm : (e - d) / p * p + (e - d) % p = e - d := Nat.div_add_mod' _ _
  have hl : (e - d) % p < p := Nat.mod_lt _ hp
  unfold turnsN
  rw [Nat.add_mul]
  omega
theorem turns_dn (d p e : Nat) : turnsN d p e = 1 ∨ d + turnsN d p e * p - p ≤ e := by
  have hm : (e - d) / p * p + (e - d) % p = e - d := Nat.div_add_mod' _ _
  by_cases h : d < e
  · right
    unfold turnsN
    rw [Nat.add_mul]
    omega
  · left; exact turns_back d p e (by omega)
theorem turns_none (d p e : Nat) (hp : 0 < p) (hd : d < 18446744073709551616) (h : 18446744073709551616 ≤ d + turnsN d p e * p) :
    (18446744073709551615 - d) / p = 0 ∨ d + (18446744073709551615 - d) / p * p ≤ e := by
  have hm : (18446744073709551615 - d) / p * p + (18446744073709551615 - d) % p = 18446744073709551615 - d := Nat.div_add_mod' _ _
  by_cases hk : (18446744073709551615 - d) / p = 0
  · exact Or.inl hk
  · right
    generalize (18446744073709551615 - d) / p = k at *
    by_cases hc : d + k * p ≤ e
    · exact hc
    · have h1 : turnsN d p e ≤ k := by
        unfold turnsN
        have : (e - d) / p < k := by
          rw [Nat.div_lt_iff_lt_mul hp]
          have : 1 * p ≤ k * p := Nat.mul_le_mul_right _ (by omega)
          omega
        omega
      have h2 : turnsN d p e * p ≤ k * p := Nat.mul_le_mul_right _ h1
      omega
theorem none_bool (d p e : Nat) (hd : d < 18446744073709551616) (h : (18446744073709551615 - d) / p = 0 ∨ d + (18446744073709551615 - d) / p * p ≤ e) :
    ((18446744073709551615 - (d : Int)) / (p : Int) == 0 || decide (IntKind.u64.wrap ((d : Int) + IntKind.u64.wrap ((18446744073709551615 - (d : Int)) / (p : Int) * (p : Int))) ≤ (e : Int))) = true := by
  have hm : (18446744073709551615 - d) / p * p ≤ 18446744073709551615 - d := Nat.div_mul_le_self _ _
  have e1 : (18446744073709551615 - (d : Int)) / (p : Int) = (((18446744073709551615 - d) / p : Nat) : Int) := by
    rw [show (18446744073709551615 : Int) - (d : Int) = ((18446744073709551615 - d : Nat) : Int) by omega, Int.natCast_ediv]
  rw [e1]
  generalize (18446744073709551615 - d) / p = k at *
  rw [mulN, wrapN _ (by omega), addN, wrapN _ (by omega)]
  rcases h with h | h
  · subst h; rfl
  · rw [Bool.or_eq_true]; right; rw [decide_eq_true_eq]; omega

theorem walk (a0 : Int) (a1 : Int) (a2 : Int) (w0 : (Lit.int .u64 a0).wf = true) (w1 : (Lit.int .u64 a1).wf = true) (w2 : (Lit.int .u64 a2).wf = true) (w : World) :
    Calls Try.prog 6 #[.int .u64 a0, .int .u64 a1, .int .u64 a2] w fun e w' => e = .returned (.bool true) ∧ Grown w w' := by
  obtain ⟨d, rfl, hd⟩ := u64_nat w0
  obtain ⟨p, rfl, hp⟩ := u64_nat w1
  obtain ⟨e, rfl, he⟩ := u64_nat w2
  clear w0 w1 w2
  by_cases h0 : p = 0
  · subst h0
    go_enter Try.func6, Try.ntmps6
    go_wp2_with fail
    refine (alive1 _).mono ?_
    rintro e w' ⟨rfl, rfl⟩
    go_wp2_with fail
    refine (next_zero d e _).mono ?_
    rintro e w' ⟨rfl, rfl⟩
    go_wp2
    go_ret
    exact ⟨rfl, Grown.refl _⟩
  · have hp0 : 0 < p := by omega
    have hz : ((p : Int) == 0) = false := by simp; omega
    clear h0
    by_cases h : d + turnsN d p e * p < 18446744073709551616
    · have c := next_ok d p e hd hp he hp0 h w
      have hu := turns_up d p e hp0
      have hdn := turns_dn d p e
      have h1 : 1 ≤ turnsN d p e := Nat.le_add_left 1 _
      generalize turnsN d p e = n at *
      have hpn : 1 * p ≤ n * p := Nat.mul_le_mul_right _ h1
      have hnn : n * 1 ≤ n * p := Nat.mul_le_mul_left _ hp0
      have hr : (((d + n * p : Nat) : Int) - (d : Int)) % (p : Int) = 0 := by
        rw [show (((d + n * p : Nat) : Int) - (d : Int)) = (n : Int) * (p : Int) by rw [mulN]; omega, Int.mul_emod_left]
      have hq : (((d + n * p : Nat) : Int) - (d : Int)) / (p : Int) = (n : Int) := by
        rw [show (((d + n * p : Nat) : Int) - (d : Int)) = (n : Int) * (p : Int) by rw [mulN]; omega]
        exact Int.mul_ediv_cancel _ (by omega)
      have ht1 : d < d + n * p := by omega
      have ht2 : n < 18446744073709551616 := by omega
      have ht3 : p ≤ d + n * p := by omega
      generalize d + n * p = t at *
      have C := Lib.hid c
      have HR : (((t : Int) - (d : Int)) % (p : Int) == 0) = true := by simp [hr]
      have HQ : ((n : Int) == ((t : Int) - (d : Int)) / (p : Int)) = true := by simp [hq]
      clear c hr hpn hnn
      have HQ2 := Lib.hid hq
      clear hq
      by_cases hc : t - p ≤ e
      · have hc' : (t : Int) - (p : Int) ≤ (e : Int) := by omega
        clear hdn hc
        go_enter Try.func6, Try.ntmps6
        go_wp2_with fail
        refine (alive1 _).mono ?_
        rintro e w' ⟨rfl, rfl⟩
        go_wp2_with fail
        refine C.out.mono ?_
        rintro e w' ⟨rfl, rfl⟩
        go_wp2
        all_goals first | (go_ret; exact ⟨rfl, Grown.refl _⟩) | (rename_i hx; exact absurd HQ2.out.symm hx)
      · have hn : n = 1 := by omega
        have hc' : ¬ ((t : Int) - (p : Int) ≤ (e : Int)) := by omega
        subst hn
        clear hdn hc
        go_enter Try.func6, Try.ntmps6
        go_wp2_with fail
        refine (alive1 _).mono ?_
        rintro e w' ⟨rfl, rfl⟩
        go_wp2_with fail
        refine C.out.mono ?_
        rintro e w' ⟨rfl, rfl⟩
        go_wp2
        all_goals first | (go_ret; exact ⟨rfl, Grown.refl _⟩) | (rename_i hx; exact absurd HQ2.out.symm hx)
    · have hno := Lib.hid (turns_none d p e hp0 hd (by omega))
      go_enter Try.func6, Try.ntmps6
      go_wp2_with fail
      refine (alive1 _).mono ?_
      rintro e w' ⟨rfl, rfl⟩
      go_wp2_with fail
      refine (next_no d p e hd hp he hp0 (by omega) _).mono ?_
      rintro e w' ⟨rfl, rfl⟩
      go_wp2
      · go_ret
        exact ⟨rfl, Grown.refl _⟩
      · rename_i hx
        go_ret
        refine ⟨ret_bool ?_, Grown.refl _⟩
        exact none_bool d p e hd hno.out

set_option maxRecDepth 100000 in
theorem lifted (os : Os) (started : os.Started) (H : Type) (enc : TypeId × Value → H) :
    ReturnsInHanded {} Try.checked os 6 .any (Rows.numFirstSpec.pre6 enc Try.prog Try.f6 Rows.numFirstRow.domain false) (Rows.numFirstSpec.post enc Try.prog Try.f6 false true false false) := by
  refine returnsInHanded_of_change (C := Try.checked) own started (by kernel_rfl) Try.func6
    (ChangeSpec.witness6 (enc := enc) (C := Try.checked) false ⟨#[], #[.int .u64 0, .int .u64 0, .int .u64 0], []⟩ 8 (by kernel_rfl) (by kernel_rfl) (by kernel_rfl) (by kernel_rfl)) ?_
  intro W base args ds gs before hval0 hW hcnd _
  have hval : ∀ (j : Nat) t v, Try.f6.params[j]? = some t → args[j]? = some v → Value.okWide Try.prog W .any base t v := hval0
  have hW' := hW
  obtain ⟨p, q, hA0, hV, rfl, hfz, hnd⟩ := hW
  have hA : DataW.TrodAll enc Try.prog W 0 (fun _ => true) true Try.f6.params.toList args.toList ds p := hA0
  rw [Try.params6] at hA hval
  obtain ⟨v0, vs0, d0, ds0, p0, q0, hargs, rfl, rfl, h0, r0⟩ := trodAll_cons hA
  obtain ⟨v1, vs1, d1, ds1, p1, q1, rfl, rfl, rfl, h1, r1⟩ := trodAll_cons r0
  obtain ⟨v2, vs2, d2, ds2, p2, q2, rfl, rfl, rfl, h2, r2⟩ := trodAll_cons r1
  obtain ⟨rfl, rfl, rfl⟩ := trodAll_nil r2
  obtain rfl : args = #[v0, v1, v2] := by cases args; simp_all
  obtain ⟨rfl, rfl⟩ := trodVars_none hV
  obtain ⟨a0, rfl, rfl, rfl, w0⟩ := open_int Try.underlying22 (hval 0 22 v0 rfl rfl) h0
  obtain ⟨a1, rfl, rfl, rfl, w1⟩ := open_int Try.underlying22 (hval 1 22 v1 rfl rfl) h1
  obtain ⟨a2, rfl, rfl, rfl, w2⟩ := open_int Try.underlying22 (hval 2 22 v2 rfl rfl) h2
  clear hA0 hval0
  simp only [List.append_nil] at hW'
  refine (walk a0 a1 a2 w0 w1 w2 W).mono fun e W' ⟨he, hg⟩ => ?_
  subst he
  exact ⟨_, rfl, post_of_same (pa := []) (pv := []) hW' (fun _ _ _ => (trodAll_cons_mk (shut_bool Try.underlying4 _) trodAll_mk0)) (fun sp _ => (trodAll_cons_mk (shut_int Try.underlying22 w0) (trodAll_cons_mk (shut_int Try.underlying22 w1) (trodAll_cons_mk (shut_int Try.underlying22 w2) trodAll_mk0)))) (fun _ _ => rfl) rfl
    (hg.frame _) hg.2.1 (ok_one (by kernel_rfl) rfl (okWide_bool_mk Try.underlying4 _))⟩

theorem over : Rows.numFirstRow.holds Try.pinned (OpenSpec.ofChange Rows.numFirstSpec) :=
  OpenClaim.holds_of_wide 6 Try.f6 rfl rfl rfl rfl rfl rfl rfl ⟨rfl, rfl, rfl, rfl, rfl⟩ rfl rfl rfl rfl rfl (by kernel_rfl) Try.func6 (by kernel_rfl)
    (of_decide_eq_true (by kernel_rfl)) (by unfold Func.isWrapper; first | (rw [if_pos (by decide +kernel)]; kernel_rfl) | (rw [if_neg (by decide +kernel)]; exact ⟨rfl, rfl⟩))
    (fun os started H enc _ => lifted os started H enc)

theorem proved : Rows.NumFirstSaid :=
  over
end Go.Proofs.Ytbpmfldegfngaaa.numFirst
namespace Go.Proofs.Ytbpmfldegfngaaa
theorem numFirst_holds : Rows.NumFirstSaid := numFirst.proved
end Go.Proofs.Ytbpmfldegfngaaa
