/-
  Contracts of package gate, over this seat's translation: Flush, Watch, Unwatch, Tell.
-/
import Derived.Test.YtpnipmjjhiaieaaGateO1
namespace Go.Proofs.Ytpnipmjjhiaieaa
open Go.RowKit Go.Lib
set_option maxRecDepth 100000
set_option linter.unusedVariables false
section
variable {w w' : World} {b oo : Nat} {g : Gt}
theorem and_zero (x : Int) : bits .and .i64 x 0 = 0 := by rw [and_bv]; simp [bv]

set_option maxHeartbeats 1000000 in
theorem gflush_on (H : GAt w b oo g) (ho : g.op = true) : Calls Try.prog 40 #[.pointer (some ⟨b, oo, none⟩)] w fun e w' => e = .returned (.tuple #[]) ∧ GAt w' b oo { g with lt := 0, rd := bits .or .i64 g.rd (bits .and .i64 g.lt 7), td := bits .or .i64 g.td (bits .and .i64 g.lt g.wt) } ∧ OnlyG b oo w w' := by
  have H1 := H.setLt 0
  have CM := Lib.hid (gmeet_on H1 g.lt ho)
  have O1 := Lib.hid (OnlyG.one w b oo (oo + 2) (.int .i64 0) (by omega))
  obtain ⟨c0, c1, c2, c3, c4, c5, c6, fz, l⟩ := id H
  have f2 := fz (oo + 2)
  clear H H1 fz c0 c1 c3 c4 c5 c6 ho
  go_enter Try.func40, Try.ntmps40
  go_wp2_with (refine CM.out.mono ?_)
  rintro e w1 rfl h1 k1
  have R := Lib.hid (And.intro h1 k1)
  clear h1 k1
  go_wp2
  go_end0
  exact ⟨rfl, R.out.1, O1.out.trans R.out.2⟩

set_option maxHeartbeats 1000000 in
theorem gflush_off (H : GAt w b oo g) (ho : g.op = false) : Calls Try.prog 40 #[.pointer (some ⟨b, oo, none⟩)] w fun e w' => e = .returned (.tuple #[]) ∧ GAt w' b oo { g with lt := 0 } ∧ OnlyG b oo w w' := by
  have H1 := H.setLt 0
  have CM := Lib.hid (gmeet_off H1 g.lt ho)
  have HH := Lib.hid H1
  have O1 := Lib.hid (OnlyG.one w b oo (oo + 2) (.int .i64 0) (by omega))
  obtain ⟨c0, c1, c2, c3, c4, c5, c6, fz, l⟩ := id H
  have f2 := fz (oo + 2)
  clear H H1 fz c0 c1 c3 c4 c5 c6 ho
  go_enter Try.func40, Try.ntmps40
  go_wp2_with (refine CM.out.mono ?_)
  rintro e w1 ⟨rfl, rfl⟩
  go_wp2
  go_end0
  exact ⟨rfl, HH.out, O1.out⟩

set_option maxHeartbeats 1000000 in
theorem gwatch_ok (H : GAt w b oo g) (h x m : Int) (ho : g.op = true) (hx : 1 ≤ x ∧ x ≤ 7) (hm : 0 ≤ m ∧ m ≤ 2) : Calls Try.prog 43 #[.pointer (some ⟨b, oo, none⟩), .int .u64 h, .int .i64 x, .int .i64 m] w fun e w' => e = .returned (.bool true) ∧ GAt w' b oo { g with h := h, wt := x, md := m, td := bits .and .i64 g.rd x } ∧ OnlyG b oo w w' := by
  have CM := Lib.hid (gwatch_any H h x m)
  have c0 := H.c0
  rw [ho] at c0
  have q1 : decide (x < 1) = false := by rw [decide_eq_false_iff_not]; omega
  have q2 : decide (7 < x) = false := by rw [decide_eq_false_iff_not]; omega
  have q3 : decide (m < 0) = false := by rw [decide_eq_false_iff_not]; omega
  have q4 : decide (2 < m) = false := by rw [decide_eq_false_iff_not]; omega
  clear H hx hm
  go_enter Try.func43, Try.ntmps43
  go_wp2_with (refine CM.out.mono ?_)
  rintro e w1 ⟨rfl, h1, k1⟩
  go_wp2
  go_ret
  exact ⟨rfl, h1, k1⟩

set_option maxHeartbeats 1000000 in
theorem gwatch_no (H : GAt w b oo g) (h x m : Int) (hn : ¬ (g.op = true ∧ 1 ≤ x ∧ x ≤ 7 ∧ 0 ≤ m ∧ m ≤ 2)) : Calls Try.prog 43 #[.pointer (some ⟨b, oo, none⟩), .int .u64 h, .int .i64 x, .int .i64 m] w fun e w' => e = .returned (.bool false) ∧ w = w' := by
  have c0 := H.c0
  have HN := Lib.hid hn
  clear H hn
  cases ho : g.op <;> rw [ho] at c0
  · clear HN ho
    go_enter Try.func43, Try.ntmps43
    go_wp2
    go_ret
    exact ⟨rfl, rfl⟩
  · by_cases q1 : x < 1
    · clear HN ho
      go_enter Try.func43, Try.ntmps43
      go_wp2
      go_ret
      exact ⟨rfl, rfl⟩
    · by_cases q2 : 7 < x
      · clear HN ho
        go_enter Try.func43, Try.ntmps43
        go_wp2
        go_ret
        exact ⟨rfl, rfl⟩
      · by_cases q3 : m < 0
        · clear HN ho
          go_enter Try.func43, Try.ntmps43
          go_wp2
          go_ret
          exact ⟨rfl, rfl⟩
        · have q4 : 2 < m := by
            have hn := HN.out
            by_cases h : 2 < m
            · exact h
            · exact absurd ⟨ho, by omega, by omega, by omega, by omega⟩ hn
          clear HN ho
          go_enter Try.func43, Try.ntmps43
          go_wp2
          go_ret
          exact ⟨rfl, rfl⟩

set_option maxHeartbeats 1000000 in
theorem gunwatch_any (H : GAt w b oo g) : Calls Try.prog 48 #[.pointer (some ⟨b, oo, none⟩)] w fun e w' => e = .returned (.bool (decide (g.wt ≠ 0))) ∧ GAt w' b oo { g with h := 0, wt := 0, md := 0, td := 0 } ∧ OnlyG b oo w w' := by
  have CM := Lib.hid (gwatch_any H 0 0 0)
  have c4 := H.c4
  clear H
  go_enter Try.func48, Try.ntmps48
  go_wp2_with (refine CM.out.mono ?_)
  rintro e w1 ⟨rfl, h1, k1⟩
  rw [and_zero] at h1
  go_wp2
  go_ret
  exact ⟨by rw [← bne_decide]; rfl, h1, k1⟩

/-- What a gate tells, and what it is behind it. -/
def tells (g : Gt) : Gt × Int × Int :=
  if g.md = 0 then (if bits .and .i64 g.rd g.wt = 0 then ({ g with td := 0 }, 0, 0) else ({ g with td := bits .and .i64 g.rd g.wt }, g.h, bits .and .i64 g.rd g.wt))
  else if g.td = 0 then (g, 0, 0)
  else if g.md = 1 then ({ g with td := 0 }, g.h, g.td)
  else ({ g with h := 0, wt := 0, md := 0, td := 0 }, g.h, g.td)

set_option maxHeartbeats 2000000 in
theorem gtell_level (H : GAt w b oo g) (hm : g.md = 0) (t : Int) (ht : bits .and .i64 g.rd g.wt = t) : Calls Try.prog 47 #[.pointer (some ⟨b, oo, none⟩)] w fun e w' => e = .returned (.tuple #[.int .u64 (if t = 0 then 0 else g.h), .int .i64 t]) ∧ GAt w' b oo { g with td := t } ∧ OnlyG b oo w w' := by
  have HT := Lib.hid ht
  have H1 := H.drew
  have HH := Lib.hid H1
  have O1 := Lib.hid (OnlyG.drew b oo w)
  obtain ⟨c0, c1, c2, c3, c4, c5, c6, fz, l⟩ := id H
  clear ht H fz l c0 c1 c2 c3 c4 c6
  rw [hm] at c5
  have HM := Lib.hid hm
  clear hm
  go_enter Try.func47, Try.ntmps47
  go_wp2_with fail
  refine wp_region_still_tail 15 (by kernel_rfl) (by kernel_rfl) ?_
  simp only [List.take_succ_cons, List.take_zero, List.drop_succ_cons, List.drop_zero]
  change wpStill _ _ w.drew (fun a' => wpList _ _ _ _ a' w.drew) _ _
  generalize w.drew = w1 at *
  clear c5
  obtain ⟨c0, c1, c2, c3, c4, c5, c6, fz, l⟩ := id H1
  have f6 := fz (oo + 6)
  clear H1 fz c0 c2 c3 c5
  repeat still_step
  refine wpStill_nil ?_
  go_wp2_with fail
  have K1 : bits .and .i64 g.rd g.wt = t := HT.out
  rw [K1]
  clear K1
  have H3 := Lib.hid (HH.out.setTd t)
  have O3 := Lib.hid (O1.out.trans (OnlyG.one w1 b oo (oo + 6) (.int .i64 t) (by omega)))
  clear HT HH O1 c1 c4 c6 f6 l
  generalize w1.setCell ⟨b, oo + 6, none⟩ (.int .i64 t) = w2 at *
  have c3 := H3.out.c3
  have c6 := H3.out.c6
  have c5 := H3.out.c5
  simp only at c3 c5 c6
  rw [HM.out] at c5
  refine wp_region_still_lit (by kernel_rfl) (by kernel_rfl) ?_
  change wpStill _ _ w2.drew _ _ _
  repeat still_step
  refine wpStill_nil ?_
  by_cases ht : t = 0
  · subst ht
    go_wp2
    go_ret2
    exact ⟨by simp, H3.out.drew, O3.out.trans (OnlyG.drew ..)⟩
  · go_wp2
    go_ret2
    exact ⟨rfl, H3.out.drew, O3.out.trans (OnlyG.drew ..)⟩

set_option maxHeartbeats 2000000 in
theorem gtell_none (H : GAt w b oo g) (hm : g.md ≠ 0) (ht : g.td = 0) : Calls Try.prog 47 #[.pointer (some ⟨b, oo, none⟩)] w fun e w' => e = .returned (.tuple #[.int .u64 0, .int .i64 0]) ∧ GAt w' b oo g ∧ OnlyG b oo w w' := by
  have HH := Lib.hid H
  obtain ⟨c0, c1, c2, c3, c4, c5, c6, fz, l⟩ := id H
  rw [ht] at c6
  clear ht H fz l c0 c1 c2 c4
  go_enter Try.func47, Try.ntmps47
  go_wp2_with fail
  refine wp_region_still_lit (by kernel_rfl) (by kernel_rfl) ?_
  change wpStill _ _ w.drew _ _ _
  repeat still_step
  refine wpStill_nil ?_
  go_wp2
  go_ret2
  exact ⟨rfl, HH.out.drew, OnlyG.drew ..⟩

set_option maxHeartbeats 2000000 in
theorem gtell_edge (H : GAt w b oo g) (hm : g.md = 1) (ht : g.td ≠ 0) : Calls Try.prog 47 #[.pointer (some ⟨b, oo, none⟩)] w fun e w' => e = .returned (.tuple #[.int .u64 g.h, .int .i64 g.td]) ∧ GAt w' b oo { g with td := 0 } ∧ OnlyG b oo w w' := by
  have HH := Lib.hid H
  obtain ⟨c0, c1, c2, c3, c4, c5, c6, fz, l⟩ := id H
  have f6 := fz (oo + 6)
  rw [hm] at c5
  clear hm H fz l c0 c1 c2 c4
  go_enter Try.func47, Try.ntmps47
  go_wp2_with fail
  refine wp_region_still_lit (by kernel_rfl) (by kernel_rfl) ?_
  change wpStill _ _ w.drew _ _ _
  repeat still_step
  refine wpStill_nil ?_
  go_wp2
  go_ret2
  exact ⟨rfl, HH.out.drew.setTd 0, (OnlyG.drew ..).trans (OnlyG.one _ _ _ _ _ (by omega))⟩

set_option maxHeartbeats 2000000 in
theorem gtell_once (H : GAt w b oo g) (hm : g.md = 2) (ht : g.td ≠ 0) : Calls Try.prog 47 #[.pointer (some ⟨b, oo, none⟩)] w fun e w' => e = .returned (.tuple #[.int .u64 g.h, .int .i64 g.td]) ∧ GAt w' b oo { g with h := 0, wt := 0, md := 0, td := 0 } ∧ OnlyG b oo w w' := by
  have CU := Lib.hid (gunwatch_any H.drew)
  obtain ⟨c0, c1, c2, c3, c4, c5, c6, fz, l⟩ := id H
  rw [hm] at c5
  clear hm H fz l c0 c1 c2 c4
  go_enter Try.func47, Try.ntmps47
  go_wp2_with fail
  refine wp_region_still_lit (by kernel_rfl) (by kernel_rfl) ?_
  change wpStill _ _ w.drew _ _ _
  repeat still_step
  refine wpStill_nil ?_
  go_wp2_with (refine CU.out.mono ?_)
  rintro e w1 ⟨rfl, h1, k1⟩
  have R := Lib.hid (And.intro h1 k1)
  clear h1 k1 c3 c5 c6
  go_wp2
  go_ret2
  exact ⟨rfl, R.out.1, (OnlyG.drew ..).trans R.out.2⟩
end
end Go.Proofs.Ytpnipmjjhiaieaa
