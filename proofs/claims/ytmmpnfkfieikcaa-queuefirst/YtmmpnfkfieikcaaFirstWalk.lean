/-
  QueueFirst: timers are never kept out by devices, nor devices by timers; what waits is what was put in, and not taken out.
-/
import Derived.Test.YtmmpnfkfieikcaaQueueRow
import Derived.Deep.Cut
namespace Go.Proofs.Ytmmpnfkfieikcaa
open Go.RowKit Go.Lib
set_option maxRecDepth 100000
set_option linter.unusedVariables false
set_option maxRecDepth 100000 in
set_option maxHeartbeats 64000000 in
theorem first_walk (x0 x1 x2 : Int) (sa0 : Option Addr) (len0 cap0 sb0 off0 : Nat) (zs0 : Nat → Nat → Int) (sa1 : Option Addr) (len1 cap1 sb1 off1 : Nat) (zs1 : Nat → Nat → Int) (w : World)
    (_hm0 : len0 ≤ maxLen) (hs0 : 0 < len0 → sa0 = some ⟨sb0, off0, none⟩ ∧ sb0 < w.heap.size) (hz0 : ∀ j, j < len0 → ∀ i, i < 2 → w.cell? ⟨sb0, off0 + j * 2 + i, none⟩ = some (.int .i64 (zs0 j i)))
    (_hm1 : len1 ≤ maxLen) (hs1 : 0 < len1 → sa1 = some ⟨sb1, off1, none⟩ ∧ sb1 < w.heap.size) (hz1 : ∀ j, j < len1 → ∀ i, i < 2 → w.cell? ⟨sb1, off1 + j * 2 + i, none⟩ = some (.int .i64 (zs1 j i))) :
    Calls Try.prog 5 #[.int .i64 x0, .int .i64 x1, .int .i64 x2, .slice sa0 len0 cap0, .slice sa1 len1 cap1] w fun e w' => e = .returned (.bool true) ∧ w.grownBy w' none := by
  have C0 := Lib.hid (alive12 w)
  have R0 : Hid (∀ (v : World) (j : Nat), w.grownBy v none → j < len0 → sa0 = some ⟨sb0, off0, none⟩ ∧ v.cell? ⟨sb0, off0 + j * 2, none⟩ = some (.int .i64 (zs0 j 0)) ∧ v.cell? ⟨sb0, off0 + j * 2 + 1, none⟩ = some (.int .i64 (zs0 j 1))) := Lib.hid fun v j k hj => by
    obtain ⟨h1, h2⟩ := hs0 (by omega)
    exact ⟨h1, (k.cell_far ⟨sb0, off0 + j * 2, none⟩ h2 (by simp)).trans (hz0 j hj 0 (by omega)), (k.cell_far ⟨sb0, off0 + j * 2 + 1, none⟩ h2 (by simp)).trans (hz0 j hj 1 (by omega))⟩
  have R1 : Hid (∀ (v : World) (j : Nat), w.grownBy v none → j < len1 → sa1 = some ⟨sb1, off1, none⟩ ∧ v.cell? ⟨sb1, off1 + j * 2, none⟩ = some (.int .i64 (zs1 j 0)) ∧ v.cell? ⟨sb1, off1 + j * 2 + 1, none⟩ = some (.int .i64 (zs1 j 1))) := Lib.hid fun v j k hj => by
    obtain ⟨h1, h2⟩ := hs1 (by omega)
    exact ⟨h1, (k.cell_far ⟨sb1, off1 + j * 2, none⟩ h2 (by simp)).trans (hz1 j hj 0 (by omega)), (k.cell_far ⟨sb1, off1 + j * 2 + 1, none⟩ h2 (by simp)).trans (hz1 j hj 1 (by omega))⟩
  clear hs0 hz0 hs1 hz1
  by_cases hl0 : 60 < len0
  · have q : (60 : Int) < (len0 : Int) := by omega
    go_enter Try.func5, Try.ntmps5
    go_wp2_with fail
    refine C0.out.mono ?_
    rintro e w1 ⟨rfl, k1⟩
    go_wp2
    go_ret
    exact ⟨rfl, k1⟩
  have q0 : ¬ (60 : Int) < (len0 : Int) := by omega
  by_cases hl1 : 60 < len1
  · have q : (60 : Int) < (len1 : Int) := by omega
    go_enter Try.func5, Try.ntmps5
    go_wp2_with fail
    refine C0.out.mono ?_
    rintro e w1 ⟨rfl, k1⟩
    go_wp2
    go_ret
    exact ⟨rfl, k1⟩
  have q1 : ¬ (60 : Int) < (len1 : Int) := by omega
  obtain ⟨T, hT, hT2⟩ : ∃ n : Nat, bits .and .i64 x0 31 = (n : Int) ∧ n < 32 := ⟨(x0 % 32).toNat, by rw [and31]; omega, by omega⟩
  obtain ⟨D, hD, hD2⟩ : ∃ n : Nat, bits .and .i64 x1 31 = (n : Int) ∧ n < 32 := ⟨(x1 % 32).toNat, by rw [and31]; omega, by omega⟩
  obtain ⟨M, hM, hM2⟩ : ∃ n : Nat, bits .and .i64 x2 31 = (n : Int) ∧ n < 32 := ⟨(x2 % 32).toNat, by rw [and31]; omega, by omega⟩
  obtain ⟨i0, hi0, hi1, hi2, hi3⟩ := thing_info
  have I0 := Lib.hid hi0
  have I1 := Lib.hid hi1
  have I2 := Lib.hid hi2
  have I3 := Lib.hid hi3
  clear hi0 hi1 hi2 hi3
  go_enter Try.func5, Try.ntmps5
  go_wp2_with fail
  refine C0.out.mono ?_
  rintro e u1 ⟨rfl, k1⟩
  have G1 := Lib.hid k1
  have CN := Lib.hid (qu_new (T : Int) (D : Int) (M : Int) T D (by unfold clamp3; omega) (by unfold clamp3; omega) u1)
  clear k1 C0
  go_wp2_with fail
  refine CN.out.mono ?_
  rintro e u2 ⟨qb, rfl, k2, h2⟩
  have ka := World.grownBy_alloc u2 (.cells #[] 24) none
  have H0 : Hid (QS w (u2.alloc (.cells #[] 24)) u1.heap.size u2.heap.size qb T D M [] (.slice (some ⟨u2.heap.size, 0, none⟩) 0 0) []) :=
    Lib.hid ⟨h2.kept ka, litP u2 u2.heap.size (Nat.le_refl _), (G1.out.trans k2).trans ka, G1.out.size, k2.size⟩
  clear k2 h2 ka CN G1
  go_wp2_with fail
  generalize u2.alloc (.cells #[] 24) = u3 at *
  generalize u2.heap.size = hi at *
  generalize u1.heap.size = lo at *
  clear hT hD hM
  go_loopw [53] (fun it wr => ∃ (j : Nat) (Q : List Nat), j ≤ len0 ∧ it = .int .i64 j ∧ Hid (QS w wr lo hi qb T D M Q (.slice (some ⟨hi, 0, none⟩) 0 0) []) ∧ Hid (∀ q ∈ Q, ∃ j', j' < j ∧ numT T D (zs0 j' 0) (zs0 j' 1) = some q)) (fun it _ => len0 - (intOf it).toNat)
  case atStart => exact ⟨0, [], Nat.zero_le _, rfl, H0, Lib.hid (fun q hq => by cases hq)⟩
  case round =>
    obtain ⟨j, Q, hj, rfl, H1, HS⟩ := hrel
    clear H0
    by_cases hlt : j < len0
    · skip
      obtain ⟨rfl, z0, z1⟩ := R0.out wr j H1.out.gw hlt
      have qj : (j : Int) < (len0 : Int) := by omega
      obtain ⟨kk, hk⟩ : ∃ c, zs0 j 0 = c := ⟨_, rfl⟩
      obtain ⟨ii, hi'⟩ : ∃ c, zs0 j 1 = c := ⟨_, rfl⟩
      rw [hk] at z0
      rw [hi'] at z1
      have HK := Lib.hid (And.intro hk hi')
      clear hk hi'
      have ka := World.grownBy_alloc wr (.cells #[.int .i64 kk, .int .i64 ii] 24) none
      have H2 := Lib.hid (H1.out.kept ka)
      have hX : hi ≤ wr.heap.size := H1.out.q.hs
      obtain ⟨⟨b0, b1⟩, _⟩ := box2 wr (.int .i64 kk) (.int .i64 ii) 24 0
      have b0 : (wr.alloc (.cells #[.int .i64 kk, .int .i64 ii] 24)).cell? ⟨wr.heap.size, 0, none⟩ = some (.int .i64 kk) := b0
      have b1 : (wr.alloc (.cells #[.int .i64 kk, .int .i64 ii] 24)).cell? ⟨wr.heap.size, 1, none⟩ = some (.int .i64 ii) := b1
      have hXs : wr.heap.size < (wr.alloc (.cells #[.int .i64 kk, .int .i64 ii] 24)).heap.size := by rw [World.size_alloc]; omega
      clear ka H1
      go_wp2_with fail
      generalize wr.alloc (.cells #[.int .i64 kk, .int .i64 ii] 24) = v1 at *
      generalize wr.heap.size = X at *
      clear z0 z1
      cases hn : numT T D kk ii with
      | none =>
        have hin : inQ T D Q kk ii = none := by unfold inQ; rw [hn]
        have hca : canP T D M Q kk ii = none := by unfold canP; rw [hn]
        have hno : ¬ (kk = 1 ∧ 0 ≤ ii ∧ ii < T) ∧ ¬ (kk = 2 ∧ 0 ≤ ii ∧ ii < D) := by
          constructor <;> intro h <;> unfold numT at hn
          · rw [if_pos h] at hn; cases hn
          · rw [if_neg (by omega), if_pos h] at hn; cases hn
        have HIN := Lib.hid hin
        have HCA := Lib.hid hca
        clear hn hin hca
        by_cases e0 : ii < 0
        · have d0 : decide (0 ≤ ii) = false := by rw [decide_eq_false_iff_not]; omega
          clear hno e0
          refine (qu_has_no H2.out.q kk ii HIN.out).mono ?_
          rintro e w3 ⟨rfl, k3⟩
          have H3 := Lib.hid (H2.out.kept k3)
          replace b0 := k3.cell b0 (by simp)
          replace b1 := k3.cell b1 (by simp)
          replace hXs : X < w3.heap.size := Nat.lt_of_lt_of_le hXs k3.size
          clear k3 H2
          have CD := Lib.hid (qu_devs H3.out.q)
          have CP := Lib.hid (qu_push_no H3.out.q kk ii HCA.out)
          go_wp2_with fail
          refine CD.out.mono ?_
          rintro e w' ⟨rfl, rfl⟩
          clear CD
          go_wp2_with fail
          refine CP.out.mono ?_
          rintro e w5 ⟨rfl, k5⟩
          have H5 := Lib.hid (H3.out.kept k5)
          replace b0 := k5.cell b0 (by simp)
          replace b1 := k5.cell b1 (by simp)
          clear k5 H3 CP
          go_wp2
          go_roundw
          case rel => exact ⟨j + 1, Q, hlt, by go_num, H5, Lib.hid (fun q hq => by
            obtain ⟨j', h1, h2⟩ := HS.out q hq
            exact ⟨j', by omega, h2⟩)⟩
          case measure => simp [intOf]; omega
        · have d0 : decide (0 ≤ ii) = true := by rw [decide_eq_true_iff]; omega
          by_cases e1 : kk = 1
          · subst e1
            have d1 : decide (ii < (T : Int)) = false := by rw [decide_eq_false_iff_not]; omega
            clear hno e0
            refine (qu_has_no H2.out.q 1 ii HIN.out).mono ?_
            rintro e w3 ⟨rfl, k3⟩
            have H3 := Lib.hid (H2.out.kept k3)
            replace b0 := k3.cell b0 (by simp)
            replace b1 := k3.cell b1 (by simp)
            replace hXs : X < w3.heap.size := Nat.lt_of_lt_of_le hXs k3.size
            clear k3 H2
            have CD := Lib.hid (qu_devs H3.out.q)
            have CP := Lib.hid (qu_push_no H3.out.q 1 ii HCA.out)
            go_wp2_with fail
            refine CD.out.mono ?_
            rintro e w' ⟨rfl, rfl⟩
            clear CD
            go_wp2_with fail
            refine CP.out.mono ?_
            rintro e w5 ⟨rfl, k5⟩
            have H5 := Lib.hid (H3.out.kept k5)
            replace b0 := k5.cell b0 (by simp)
            replace b1 := k5.cell b1 (by simp)
            clear k5 H3 CP
            go_wp2
            go_roundw
            case rel => exact ⟨j + 1, Q, hlt, by go_num, H5, Lib.hid (fun q hq => by
              obtain ⟨j', h1, h2⟩ := HS.out q hq
              exact ⟨j', by omega, h2⟩)⟩
            case measure => simp [intOf]; omega
          · by_cases e2 : kk = 2
            · subst e2
              have d1 : decide (ii < (D : Int)) = false := by rw [decide_eq_false_iff_not]; omega
              clear hno e0 e1
              refine (qu_has_no H2.out.q 2 ii HIN.out).mono ?_
              rintro e w3 ⟨rfl, k3⟩
              have H3 := Lib.hid (H2.out.kept k3)
              replace b0 := k3.cell b0 (by simp)
              replace b1 := k3.cell b1 (by simp)
              replace hXs : X < w3.heap.size := Nat.lt_of_lt_of_le hXs k3.size
              clear k3 H2
              have CD := Lib.hid (qu_devs H3.out.q)
              have CP := Lib.hid (qu_push_no H3.out.q 2 ii HCA.out)
              go_wp2_with fail
              refine CD.out.mono ?_
              rintro e w' ⟨rfl, rfl⟩
              clear CD
              go_wp2_with fail
              refine CP.out.mono ?_
              rintro e w5 ⟨rfl, k5⟩
              have H5 := Lib.hid (H3.out.kept k5)
              replace b0 := k5.cell b0 (by simp)
              replace b1 := k5.cell b1 (by simp)
              clear k5 H3 CP
              go_wp2
              go_roundw
              case rel => exact ⟨j + 1, Q, hlt, by go_num, H5, Lib.hid (fun q hq => by
                obtain ⟨j', h1, h2⟩ := HS.out q hq
                exact ⟨j', by omega, h2⟩)⟩
              case measure => simp [intOf]; omega
            · have d1 : (kk == 1) = false := by simpa using e1
              have d2 : (kk == 2) = false := by simpa using e2
              have d3 : decide (kk = 1) = false := by simpa using e1
              have d4 : decide (kk = 2) = false := by simpa using e2
              clear hno e0 e1 e2
              refine (qu_has_no H2.out.q kk ii HIN.out).mono ?_
              rintro e w3 ⟨rfl, k3⟩
              have H3 := Lib.hid (H2.out.kept k3)
              replace b0 := k3.cell b0 (by simp)
              replace b1 := k3.cell b1 (by simp)
              replace hXs : X < w3.heap.size := Nat.lt_of_lt_of_le hXs k3.size
              clear k3 H2
              have CD := Lib.hid (qu_devs H3.out.q)
              have CP := Lib.hid (qu_push_no H3.out.q kk ii HCA.out)
              go_wp2_with fail
              refine CD.out.mono ?_
              rintro e w' ⟨rfl, rfl⟩
              clear CD
              go_wp2_with fail
              refine CP.out.mono ?_
              rintro e w5 ⟨rfl, k5⟩
              have H5 := Lib.hid (H3.out.kept k5)
              replace b0 := k5.cell b0 (by simp)
              replace b1 := k5.cell b1 (by simp)
              clear k5 H3 CP
              go_wp2
              go_roundw
              case rel => exact ⟨j + 1, Q, hlt, by go_num, H5, Lib.hid (fun q hq => by
                obtain ⟨j', h1, h2⟩ := HS.out q hq
                exact ⟨j', by omega, h2⟩)⟩
              case measure => simp [intOf]; omega
      | some jj =>
        have HN := Lib.hid hn
        rcases numT_kind hn with ⟨rfl, hj1⟩ | ⟨rfl, hj1, hj2⟩
        · obtain ⟨_, hi2, _⟩ := numT_th2 hn
          have d0 : decide (0 ≤ ii) = true := by rw [decide_eq_true_iff, ← hi2]; unfold thI; split <;> omega
          have d1 : decide (ii < (T : Int)) = true := by rw [decide_eq_true_iff, ← hi2]; unfold thI; rw [if_pos hj1]; omega
          clear hi2
          by_cases hq : jj ∈ Q
          · have HIN : Hid (inQ T D Q 1 ii = some jj) := Lib.hid (by unfold inQ; rw [hn]; simp [hq])
            have HCA : Hid (canP T D M Q 1 ii = none) := Lib.hid (by unfold canP; rw [hn]; simp [hq])
            clear hn
            refine (qu_has_yes H2.out.q 1 ii jj HIN.out).mono ?_
            rintro e w3 ⟨rfl, k3⟩
            have H3 := Lib.hid (H2.out.kept k3)
            replace b0 := k3.cell b0 (by simp)
            replace b1 := k3.cell b1 (by simp)
            replace hXs : X < w3.heap.size := Nat.lt_of_lt_of_le hXs k3.size
            clear k3 H2
            have CD := Lib.hid (qu_devs H3.out.q)
            have CP := Lib.hid (qu_push_no H3.out.q 1 ii HCA.out)
            go_wp2_with fail
            refine CD.out.mono ?_
            rintro e w' ⟨rfl, rfl⟩
            clear CD
            go_wp2_with fail
            refine CP.out.mono ?_
            rintro e w5 ⟨rfl, k5⟩
            have H5 := Lib.hid (H3.out.kept k5)
            replace b0 := k5.cell b0 (by simp)
            replace b1 := k5.cell b1 (by simp)
            clear k5 H3 CP
            go_wp2
            go_roundw
            case rel => exact ⟨j + 1, Q, hlt, by go_num, H5, Lib.hid (fun q hq => by
              obtain ⟨j', h1, h2⟩ := HS.out q hq
              exact ⟨j', by omega, h2⟩)⟩
            case measure => simp [intOf]; omega
          · have HIN : Hid (inQ T D Q 1 ii = none) := Lib.hid (by unfold inQ; rw [hn]; simp [hq])
            have HCA : Hid (canP T D M Q 1 ii = some jj) := Lib.hid (by unfold canP; rw [hn]; simp [hq])
            clear hn
            refine (qu_has_no H2.out.q 1 ii HIN.out).mono ?_
            rintro e w3 ⟨rfl, k3⟩
            have H3 := Lib.hid (H2.out.kept k3)
            replace b0 := k3.cell b0 (by simp)
            replace b1 := k3.cell b1 (by simp)
            replace hXs : X < w3.heap.size := Nat.lt_of_lt_of_le hXs k3.size
            clear k3 H2
            have CD := Lib.hid (qu_devs H3.out.q)
            have CP := Lib.hid (qu_push_yes H3.out.q 1 ii jj HCA.out)
            go_wp2_with fail
            refine CD.out.mono ?_
            rintro e w' ⟨rfl, rfl⟩
            clear CD
            go_wp2_with fail
            refine CP.out.mono ?_
            rintro e w5 ⟨rfl, k5, h5⟩
            have H5 := Lib.hid (H3.out.on k5 h5)
            replace b0 := (k5.cell ⟨X, 0, none⟩ hXs (Or.inr hX)).trans b0
            replace b1 := (k5.cell ⟨X, 1, none⟩ hXs (Or.inr hX)).trans b1
            clear k5 h5 H3 CP
            go_wp2
            go_roundw
            case rel => exact ⟨j + 1, Q ++ [jj], hlt, by go_num, H5, Lib.hid (fun q hq => by
              rcases List.mem_append.1 hq with h | h
              · obtain ⟨j', h1, h2⟩ := HS.out q h
                exact ⟨j', by omega, h2⟩
              · obtain rfl : q = jj := by simpa using h
                exact ⟨j, by omega, by rw [HK.out.1, HK.out.2]; exact HN.out⟩)⟩
            case measure => simp [intOf]; omega
        · obtain ⟨_, hi2, _⟩ := numT_th2 hn
          have d0 : decide (0 ≤ ii) = true := by rw [decide_eq_true_iff, ← hi2]; unfold thI; split <;> omega
          have d1 : decide (ii < (D : Int)) = true := by rw [decide_eq_true_iff, ← hi2]; unfold thI; rw [if_neg (by omega)]; omega
          clear hi2
          by_cases hq : jj ∈ Q
          · have HIN : Hid (inQ T D Q 2 ii = some jj) := Lib.hid (by unfold inQ; rw [hn]; simp [hq])
            have HCA : Hid (canP T D M Q 2 ii = none) := Lib.hid (by unfold canP; rw [hn]; simp [hq])
            clear hn
            refine (qu_has_yes H2.out.q 2 ii jj HIN.out).mono ?_
            rintro e w3 ⟨rfl, k3⟩
            have H3 := Lib.hid (H2.out.kept k3)
            replace b0 := k3.cell b0 (by simp)
            replace b1 := k3.cell b1 (by simp)
            replace hXs : X < w3.heap.size := Nat.lt_of_lt_of_le hXs k3.size
            clear k3 H2
            have CD := Lib.hid (qu_devs H3.out.q)
            have CP := Lib.hid (qu_push_no H3.out.q 2 ii HCA.out)
            go_wp2_with fail
            refine CD.out.mono ?_
            rintro e w' ⟨rfl, rfl⟩
            clear CD
            go_wp2_with fail
            refine CP.out.mono ?_
            rintro e w5 ⟨rfl, k5⟩
            have H5 := Lib.hid (H3.out.kept k5)
            replace b0 := k5.cell b0 (by simp)
            replace b1 := k5.cell b1 (by simp)
            clear k5 H3 CP
            go_wp2
            go_roundw
            case rel => exact ⟨j + 1, Q, hlt, by go_num, H5, Lib.hid (fun q hq => by
              obtain ⟨j', h1, h2⟩ := HS.out q hq
              exact ⟨j', by omega, h2⟩)⟩
            case measure => simp [intOf]; omega
          · by_cases hf : (devN T Q : Int) < M
            · have d2 : decide ((devN T Q : Int) < (M : Int)) = true := by rw [decide_eq_true_iff]; exact hf
              have d3 : decide (devN T Q < M) = true := by rw [decide_eq_true_iff]; omega
              have d4 : devN T Q < M := by omega
              have HIN : Hid (inQ T D Q 2 ii = none) := Lib.hid (by unfold inQ; rw [hn]; simp [hq])
              have HCA : Hid (canP T D M Q 2 ii = some jj) := Lib.hid (by unfold canP; rw [hn]; simp [hq]; omega)
              clear hn
              clear hf
              refine (qu_has_no H2.out.q 2 ii HIN.out).mono ?_
              rintro e w3 ⟨rfl, k3⟩
              have H3 := Lib.hid (H2.out.kept k3)
              replace b0 := k3.cell b0 (by simp)
              replace b1 := k3.cell b1 (by simp)
              replace hXs : X < w3.heap.size := Nat.lt_of_lt_of_le hXs k3.size
              clear k3 H2
              have CD := Lib.hid (qu_devs H3.out.q)
              have CP := Lib.hid (qu_push_yes H3.out.q 2 ii jj HCA.out)
              go_wp2_with fail
              refine CD.out.mono ?_
              rintro e w' ⟨rfl, rfl⟩
              clear CD
              go_wp2_with fail
              refine CP.out.mono ?_
              rintro e w5 ⟨rfl, k5, h5⟩
              have H5 := Lib.hid (H3.out.on k5 h5)
              replace b0 := (k5.cell ⟨X, 0, none⟩ hXs (Or.inr hX)).trans b0
              replace b1 := (k5.cell ⟨X, 1, none⟩ hXs (Or.inr hX)).trans b1
              clear k5 h5 H3 CP
              go_wp2
              go_roundw
              case rel => exact ⟨j + 1, Q ++ [jj], hlt, by go_num, H5, Lib.hid (fun q hq => by
                rcases List.mem_append.1 hq with h | h
                · obtain ⟨j', h1, h2⟩ := HS.out q h
                  exact ⟨j', by omega, h2⟩
                · obtain rfl : q = jj := by simpa using h
                  exact ⟨j, by omega, by rw [HK.out.1, HK.out.2]; exact HN.out⟩)⟩
              case measure => simp [intOf]; omega
            · have d2 : decide ((devN T Q : Int) < (M : Int)) = false := by rw [decide_eq_false_iff_not]; exact hf
              have d3 : decide (devN T Q < M) = false := by rw [decide_eq_false_iff_not]; omega
              have d4 : ¬ devN T Q < M := by omega
              have HIN : Hid (inQ T D Q 2 ii = none) := Lib.hid (by unfold inQ; rw [hn]; simp [hq])
              have HCA : Hid (canP T D M Q 2 ii = none) := Lib.hid (by unfold canP; rw [hn]; simp [hq]; omega)
              clear hn
              clear hf
              refine (qu_has_no H2.out.q 2 ii HIN.out).mono ?_
              rintro e w3 ⟨rfl, k3⟩
              have H3 := Lib.hid (H2.out.kept k3)
              replace b0 := k3.cell b0 (by simp)
              replace b1 := k3.cell b1 (by simp)
              replace hXs : X < w3.heap.size := Nat.lt_of_lt_of_le hXs k3.size
              clear k3 H2
              have CD := Lib.hid (qu_devs H3.out.q)
              have CP := Lib.hid (qu_push_no H3.out.q 2 ii HCA.out)
              go_wp2_with fail
              refine CD.out.mono ?_
              rintro e w' ⟨rfl, rfl⟩
              clear CD
              go_wp2_with fail
              refine CP.out.mono ?_
              rintro e w5 ⟨rfl, k5⟩
              have H5 := Lib.hid (H3.out.kept k5)
              replace b0 := k5.cell b0 (by simp)
              replace b1 := k5.cell b1 (by simp)
              clear k5 H3 CP
              go_wp2
              go_roundw
              case rel => exact ⟨j + 1, Q, hlt, by go_num, H5, Lib.hid (fun q hq => by
                obtain ⟨j', h1, h2⟩ := HS.out q hq
                exact ⟨j', by omega, h2⟩)⟩
              case measure => simp [intOf]; omega
    · obtain rfl : j = len0 := by omega
      have qj : ¬ (j : Int) < (j : Int) := by omega
      clear hlt
      go_wp2_with fail
      go_loopw [109] (fun it wr => ∃ (i : Nat) (Q : List Nat), i ≤ len1 ∧ it = .int .i64 i ∧ Hid (QS w wr lo hi qb T D M Q (.slice (some ⟨hi, 0, none⟩) 0 0) []) ∧ Hid (∀ q ∈ Q, ∃ j', j' < j ∧ numT T D (zs0 j' 0) (zs0 j' 1) = some q)) (fun it _ => len1 - (intOf it).toNat)
      case atStart => exact ⟨0, Q, Nat.zero_le _, rfl, H1, HS⟩
      case round =>
        clear H1 HS
        obtain ⟨j0, hj0⟩ : ∃ c, j = c := ⟨_, rfl⟩
        subst hj0
        rename_i Q0
        obtain ⟨i, Q, hi', rfl, H1, HS⟩ := hrel
        by_cases hlt : i < len1
        · skip
          obtain ⟨rfl, z0, z1⟩ := R1.out wr i H1.out.gw hlt
          have qj : (i : Int) < (len1 : Int) := by omega
          obtain ⟨kk, hk⟩ : ∃ c, zs1 i 0 = c := ⟨_, rfl⟩
          obtain ⟨ii, hi'⟩ : ∃ c, zs1 i 1 = c := ⟨_, rfl⟩
          rw [hk] at z0
          rw [hi'] at z1
          have HK := Lib.hid (And.intro hk hi')
          clear hk hi'
          have ka := World.grownBy_alloc wr (.cells #[.int .i64 kk, .int .i64 ii] 24) none
          have H2 := Lib.hid (H1.out.kept ka)
          have hX : hi ≤ wr.heap.size := H1.out.q.hs
          obtain ⟨⟨b0, b1⟩, _⟩ := box2 wr (.int .i64 kk) (.int .i64 ii) 24 0
          have b0 : (wr.alloc (.cells #[.int .i64 kk, .int .i64 ii] 24)).cell? ⟨wr.heap.size, 0, none⟩ = some (.int .i64 kk) := b0
          have b1 : (wr.alloc (.cells #[.int .i64 kk, .int .i64 ii] 24)).cell? ⟨wr.heap.size, 1, none⟩ = some (.int .i64 ii) := b1
          have hXs : wr.heap.size < (wr.alloc (.cells #[.int .i64 kk, .int .i64 ii] 24)).heap.size := by rw [World.size_alloc]; omega
          clear ka H1
          go_wp2_with fail
          generalize wr.alloc (.cells #[.int .i64 kk, .int .i64 ii] 24) = v1 at *
          generalize wr.heap.size = X at *
          clear z0 z1
          cases hin : inQ T D Q kk ii with
          | none =>
            have HIN := Lib.hid hin
            clear hin
            refine (qu_has_no H2.out.q kk ii HIN.out).mono ?_
            rintro e w3 ⟨rfl, k3⟩
            have H3 := Lib.hid (H2.out.kept k3)
            replace b0 := k3.cell b0 (by simp)
            replace b1 := k3.cell b1 (by simp)
            replace hXs : X < w3.heap.size := Nat.lt_of_lt_of_le hXs k3.size
            clear k3 H2
            have CP := Lib.hid (qu_drop_no H3.out.q kk ii HIN.out)
            go_wp2_with fail
            refine CP.out.mono ?_
            rintro e w5 ⟨rfl, k5⟩
            have H5 := Lib.hid (H3.out.kept k5)
            replace b0 := k5.cell b0 (by simp)
            replace b1 := k5.cell b1 (by simp)
            clear k5 H3 CP
            have CQ := Lib.hid (qu_has_no H5.out.q kk ii HIN.out)
            go_wp2_with fail
            refine CQ.out.mono ?_
            rintro e w6 ⟨rfl, k6⟩
            have H6 := Lib.hid (H5.out.kept k6)
            clear k6 H5 CQ b0 b1
            go_wp2
            go_roundw
            case rel => exact ⟨i + 1, Q, hlt, by go_num, H6, HS⟩
            case measure => simp [intOf]; omega
          | some jj =>
            have HIN := Lib.hid hin
            have HIN2 : Hid (inQ T D (Q.erase jj) kk ii = none) := Lib.hid (by
              obtain ⟨h1, h2⟩ := inQ_some hin
              have hne : jj ∉ Q.erase jj := fun h => absurd rfl (List.Nodup.mem_erase_iff H2.out.q.nodup |>.1 h).1
              unfold inQ; rw [h1]; simp [hne])
            clear hin
            refine (qu_has_yes H2.out.q kk ii jj HIN.out).mono ?_
            rintro e w3 ⟨rfl, k3⟩
            have H3 := Lib.hid (H2.out.kept k3)
            replace b0 := k3.cell b0 (by simp)
            replace b1 := k3.cell b1 (by simp)
            replace hXs : X < w3.heap.size := Nat.lt_of_lt_of_le hXs k3.size
            clear k3 H2
            have CP := Lib.hid (qu_drop_yes H3.out.q kk ii jj HIN.out)
            go_wp2_with fail
            refine CP.out.mono ?_
            rintro e w5 ⟨rfl, k5, h5⟩
            have H5 := Lib.hid (H3.out.on k5 h5)
            replace b0 := (k5.cell ⟨X, 0, none⟩ hXs (Or.inr hX)).trans b0
            replace b1 := (k5.cell ⟨X, 1, none⟩ hXs (Or.inr hX)).trans b1
            clear k5 h5 H3 CP
            have CQ := Lib.hid (qu_has_no H5.out.q kk ii HIN2.out)
            go_wp2_with fail
            refine CQ.out.mono ?_
            rintro e w6 ⟨rfl, k6⟩
            have H6 := Lib.hid (H5.out.kept k6)
            clear k6 H5 CQ b0 b1
            go_wp2
            go_roundw
            case rel => exact ⟨i + 1, Q.erase jj, hlt, by go_num, H6, Lib.hid (fun q hq => HS.out q (List.mem_of_mem_erase hq))⟩
            case measure => simp [intOf]; omega
        · obtain rfl : i = len1 := by omega
          have qi : ¬ (i : Int) < (i : Int) := by omega
          clear hlt qj
          go_wp2_with fail
          obtain ⟨n0, hn0⟩ : ∃ c, j = c := ⟨_, rfl⟩
          subst hn0
          rename_i n0
          go_loopw [12, 129] (fun vi it wr => ∃ (k : Nat) (V : List Nat), k ≤ j ∧ it = .int .i64 k ∧ Hid (QS w wr lo hi qb T D M Q vi (thQ T V)) ∧ Hid (V.Nodup ∧ (∀ q ∈ V, q ∈ Q) ∧ ∀ j', j' < k → ∀ q, inQ T D Q (zs0 j' 0) (zs0 j' 1) = some q → q ∈ V)) (fun _ it _ => j - (intOf it).toNat)
          case atStart => exact ⟨0, [], Nat.zero_le _, rfl, H1, Lib.hid ⟨List.nodup_nil, (fun q hq => by cases hq), (fun j' hj' => by omega)⟩⟩
          case round =>
            clear H1 qi
            obtain ⟨k, V, hi', rfl, H1, HV⟩ := hrel
            obtain ⟨si, ci, rfl, _, _⟩ := own_formP H1.out.r
            rw [thQ_len] at H1 ⊢
            by_cases hlt : k < j
            · skip
              obtain ⟨rfl, z0, z1⟩ := R0.out wr k H1.out.gw hlt
              have qj : (k : Int) < (j : Int) := by omega
              obtain ⟨kk, hk⟩ : ∃ c, zs0 k 0 = c := ⟨_, rfl⟩
              obtain ⟨ii, hi'⟩ : ∃ c, zs0 k 1 = c := ⟨_, rfl⟩
              rw [hk] at z0
              rw [hi'] at z1
              have HK := Lib.hid (And.intro hk hi')
              clear hk hi'
              have ka := World.grownBy_alloc wr (.cells #[.int .i64 kk, .int .i64 ii] 24) none
              have H2 := Lib.hid (H1.out.kept ka)
              have hX : hi ≤ wr.heap.size := H1.out.q.hs
              obtain ⟨⟨b0, b1⟩, _⟩ := box2 wr (.int .i64 kk) (.int .i64 ii) 24 0
              have b0 : (wr.alloc (.cells #[.int .i64 kk, .int .i64 ii] 24)).cell? ⟨wr.heap.size, 0, none⟩ = some (.int .i64 kk) := b0
              have b1 : (wr.alloc (.cells #[.int .i64 kk, .int .i64 ii] 24)).cell? ⟨wr.heap.size, 1, none⟩ = some (.int .i64 ii) := b1
              have hXs : wr.heap.size < (wr.alloc (.cells #[.int .i64 kk, .int .i64 ii] 24)).heap.size := by rw [World.size_alloc]; omega
              clear ka H1
              go_wp2_with fail
              generalize wr.alloc (.cells #[.int .i64 kk, .int .i64 ii] 24) = v1 at *
              generalize wr.heap.size = X at *
              clear z0 z1
              cases hin : inQ T D Q kk ii with
              | none =>
                have HIN := Lib.hid hin
                clear hin
                refine (qu_has_no H2.out.q kk ii HIN.out).mono ?_
                rintro e w3 ⟨rfl, k3⟩
                have H3 := Lib.hid (H2.out.kept k3)
                replace b0 := k3.cell b0 (by simp)
                replace b1 := k3.cell b1 (by simp)
                replace hXs : X < w3.heap.size := Nat.lt_of_lt_of_le hXs k3.size
                clear k3 H2
                go_wp2
                go_roundw
                case rel => exact ⟨k + 1, V, hlt, by go_num, H3, Lib.hid ⟨HV.out.1, HV.out.2.1, fun j' hj' q hq => by
                  by_cases e : j' = k
                  · subst e
                    rw [HK.out.1, HK.out.2, HIN.out] at hq
                    cases hq
                  · exact HV.out.2.2 j' (by omega) q hq⟩⟩
                case measure => simp [intOf]; omega
              | some q =>
                have HIN := Lib.hid hin
                have HNQ := Lib.hid (inQ_some hin)
                clear hin
                refine (qu_has_yes H2.out.q kk ii q HIN.out).mono ?_
                rintro e w3 ⟨rfl, k3⟩
                have H3 := Lib.hid (H2.out.kept k3)
                replace b0 := k3.cell b0 (by simp)
                replace b1 := k3.cell b1 (by simp)
                replace hXs : X < w3.heap.size := Nat.lt_of_lt_of_le hXs k3.size
                clear k3 H2
                have BB := Lib.hid (And.intro b0 b1)
                have hvl : V.length ≤ 600 := by
                  have h1 := few_of_nodup (T + D) V HV.out.1 (fun x hx => H3.out.q.bound x (HV.out.2.1 x hx))
                  have := H3.out.q.tb
                  omega
                clear b0 b1
                go_wp2_with fail
                go_loopw [23, 138] (fun sn it wr => ∃ (m : Nat) (s : Bool), m ≤ V.length ∧ it = .int .i64 m ∧ sn = .bool s ∧ Hid (s = true ↔ q ∈ V.take m) ∧ Hid (QS w wr lo hi qb T D M Q (.slice si V.length ci) (thQ T V)) ∧ Hid (wr.cell? ⟨X, 0, none⟩ = some (.int .i64 kk) ∧ wr.cell? ⟨X, 1, none⟩ = some (.int .i64 ii)) ∧ Hid (X < wr.heap.size)) (fun _ it _ => V.length - (intOf it).toNat)
                case atStart => exact ⟨0, false, Nat.zero_le _, rfl, rfl, Lib.hid (by simp), H3, BB, Lib.hid hXs⟩
                case round =>
                  clear H3 BB hXs
                  obtain ⟨m, s, hm, rfl, rfl, HSe, H4, BB, HXs⟩ := hrel
                  by_cases hlm : m < V.length
                  · have qm : (m : Int) < (V.length : Int) := by omega
                    obtain ⟨v0, hv0⟩ : ∃ v0, V[m] = v0 := ⟨_, rfl⟩
                    obtain ⟨_, _, hsl, hno, hso⟩ := own_formP H4.out.r
                    obtain ⟨g, hg⟩ : ∃ g, (Value.slice si V.length ci).ownBlock = some g := by
                      cases e : (Value.slice si V.length ci).ownBlock with
                      | none => have := hno e; rw [thQ_len] at this; omega
                      | some g => exact ⟨g, rfl⟩
                    have esi := hso g hg
                    injection hsl with hsl hsl2 hsl3
                    have hat := cellsP_at (thQ T V) m (thK T v0, thI T v0) (by unfold thQ; rw [List.getElem?_map, List.getElem?_eq_getElem hlm, hv0]; rfl)
                    have y0 := own_cellP H4.out.r hat.1 hg
                    have y1 := own_cellP H4.out.r hat.2 hg
                    rw [← hsl] at esi
                    obtain ⟨xk, hxk⟩ : ∃ c, thK T v0 = c := ⟨_, rfl⟩
                    obtain ⟨xi, hxi⟩ : ∃ c, thI T v0 = c := ⟨_, rfl⟩
                    rw [hxk] at y0
                    rw [hxi] at y1
                    dsimp only at y0 y1
                    subst esi
                    have HVV := Lib.hid (And.intro hv0 (And.intro hxk hxi))
                    have ka := World.grownBy_alloc wr (.cells #[.int .i64 xk, .int .i64 xi] 24) none
                    have H5 := Lib.hid (H4.out.kept ka)
                    obtain ⟨⟨d0, d1⟩, _⟩ := box2 wr (.int .i64 xk) (.int .i64 xi) 24 0
                    have d0 : (wr.alloc (.cells #[.int .i64 xk, .int .i64 xi] 24)).cell? ⟨wr.heap.size, 0, none⟩ = some (.int .i64 xk) := d0
                    have d1 : (wr.alloc (.cells #[.int .i64 xk, .int .i64 xi] 24)).cell? ⟨wr.heap.size, 1, none⟩ = some (.int .i64 xi) := d1
                    have e0 := ka.cell BB.out.1 (by simp)
                    have e1 := ka.cell BB.out.2 (by simp)
                    have E01 := Lib.hid (And.intro e0 e1)
                    have HXs5 : Hid (X < (wr.alloc (.cells #[.int .i64 xk, .int .i64 xi] 24)).heap.size) := Lib.hid (by have := HXs.out; rw [World.size_alloc]; omega)
                    have htk : Hid (V.take (m + 1) = V.take m ++ [v0]) := Lib.hid (by rw [List.take_succ_eq_append_getElem hlm, hv0])
                    clear ka H4 BB HXs hv0 hxk hxi hsl hsl2 hsl3 hno hso hat
                    cases s with
                    | true =>
                      go_wp2_with fail
                      go_roundw
                      case rel => exact ⟨m + 1, true, hlm, by go_num, rfl, Lib.hid (by rw [htk.out]; have := HSe.out; simp at this ⊢; exact Or.inl this), H5, E01, HXs5⟩
                      case measure => simp [intOf]; omega
                    | false =>
                      by_cases hvq : v0 = q
                      · have hkk : xk = kk ∧ xi = ii := by
                          obtain ⟨h1, h2, _⟩ := numT_th2 HNQ.out.1
                          rw [← HVV.out.2.1, ← HVV.out.2.2, hvq]
                          exact ⟨h1, h2⟩
                        obtain ⟨rfl, rfl⟩ := hkk
                        have eqf : ∀ v : World, (binOp .eql 24 (.agg #[.int .i64 xk, .int .i64 xi]) (.agg #[.int .i64 xk, .int .i64 xi])).run Try.prog v = .ok (.bool true) v := fun v => by rw [eql_thing]; simp
                        go_wp2_with fail
                        go_roundw
                        case rel => exact ⟨m + 1, true, hlm, by go_num, rfl, Lib.hid (by rw [htk.out, hvq]; simp), H5, E01, HXs5⟩
                        case measure => simp [intOf]; omega
                      · have hkk : ¬ (xk = kk ∧ xi = ii) := by
                          rintro ⟨h1, h2⟩
                          have hb := H5.out.q.bound v0 (HV.out.2.1 v0 (by rw [← HVV.out.1]; exact List.getElem_mem hlm))
                          have := numT_th hb
                          rw [HVV.out.2.1, HVV.out.2.2, h1, h2, HNQ.out.1] at this
                          injection this with this
                          exact hvq this.symm
                        have eqf : ∀ v : World, (binOp .eql 24 (.agg #[.int .i64 xk, .int .i64 xi]) (.agg #[.int .i64 kk, .int .i64 ii])).run Try.prog v = .ok (.bool false) v := fun v => by
                          rw [eql_thing]
                          by_cases h1 : xk = kk
                          · have h2 : xi ≠ ii := fun h => hkk ⟨h1, h⟩
                            simp [h2]
                          · simp [h1]
                        have HVQ := Lib.hid hvq
                        clear hkk hvq
                        go_wp2_with fail
                        go_roundw
                        case rel => exact ⟨m + 1, false, hlm, by go_num, rfl, Lib.hid (by rw [htk.out]; have := HSe.out; have h2 := HVQ.out; simp at this ⊢; exact ⟨this, fun h => h2 h.symm⟩), H5, E01, HXs5⟩
                        case measure => simp [intOf]; omega
                  · obtain rfl : m = V.length := by omega
                    have qm : ¬ (V.length : Int) < (V.length : Int) := by omega
                    have hse := HSe.out
                    rw [List.take_length] at hse
                    have HSV := Lib.hid hse
                    obtain ⟨b0, b1⟩ := BB.out
                    clear hse HSe
                    cases s with
                    | true =>
                      go_wp2_with fail
                      go_roundw
                      case rel => exact ⟨k + 1, V, hlt, by go_num, H4, Lib.hid ⟨HV.out.1, HV.out.2.1, fun j' hj' q' hq' => by
                        by_cases e : j' = k
                        · subst e
                          rw [HK.out.1, HK.out.2, HIN.out] at hq'
                          injection hq' with hq'
                          subst hq'
                          exact HSV.out.1 rfl
                        · exact HV.out.2.2 j' (by omega) q' hq'⟩⟩
                      case measure => simp [intOf]; omega
                    | false =>
                      have hql : Hid (V.length ≤ 600) := Lib.hid (by
                        have h1 := few_of_nodup (T + D) V HV.out.1 (fun x hx => H4.out.q.bound x (HV.out.2.1 x hx))
                        have := H4.out.q.tb
                        omega)
                      have ka := World.grownBy_alloc wr (.cells #[.int .i64 kk, .int .i64 ii] 24) none
                      have SR := Lib.hid (src_P wr kk ii 24)
                      have H5 := Lib.hid (H4.out.kept ka)
                      have hb5 : Hid (hi ≤ (wr.alloc (.cells #[.int .i64 kk, .int .i64 ii] 24)).heap.size) := Lib.hid H5.out.q.hs
                      have hr5 := H5.out.r
                      rw [thQ_len] at hr5
                      have HR5 := Lib.hid hr5
                      clear ka hr5 H4
                      go_wp2_with (
                        at_builtin
                        refine wpList_append_src _ rfl _ _ 43 rfl hi 24 i0 (.agg #[.int .i64 0, .int .i64 0]) 2 16 Try.underlying43 I0.out I1.out I2.out I3.out rfl (by decide) _ _ _ rfl HR5.out _ 1 _ rfl SR.out (by have := hql.out; unfold maxLen; omega) (by have := hql.out; omega) hb5.out ?_
                        intro vi' w6 hown' hgrow hnil hat
                        have h6 := H5.out.app [(kk, ii)] (by rw [thQ_len]; exact hown') hgrow
                        rw [thQ_snoc HNQ.out.1] at h6
                        have H6 := Lib.hid h6
                        clear hown' hgrow hnil hat H5 SR hb5 h6 HR5 b0 b1)
                      go_roundw
                      case rel => exact ⟨k + 1, V ++ [q], hlt, by go_num, H6, Lib.hid ⟨by
                          refine List.nodup_append.2 ⟨HV.out.1, by simp, ?_⟩
                          intro a ha b hb
                          have hb : b = q := by simpa using hb
                          subst hb
                          intro e
                          subst e
                          exact absurd (HSV.out.2 ha) (by simp),
                        fun x hx => by
                          rcases List.mem_append.1 hx with h | h
                          · exact HV.out.2.1 x h
                          · obtain rfl : x = q := by simpa using h
                            exact HNQ.out.2,
                        fun j' hj' q' hq' => by
                          by_cases e : j' = k
                          · subst e
                            rw [HK.out.1, HK.out.2, HIN.out] at hq'
                            injection hq' with hq'
                            subst hq'
                            simp
                          · exact List.mem_append_left _ (HV.out.2.2 j' (by omega) q' hq')⟩⟩
                      case measure => simp [intOf]; omega
            · skip
              obtain rfl : k = j := by omega
              have eV : V.length = Q.length := ((List.perm_ext_iff_of_nodup HV.out.1 H1.out.q.nodup).2 (fun a => ⟨HV.out.2.1 a, fun ha => by
                obtain ⟨j', h1, h2⟩ := HS.out a ha
                exact HV.out.2.2 j' h1 a (by unfold inQ; rw [h2]; simp [ha])⟩)).length_eq
              rw [eV] at H1 ⊢
              have qj : ¬ (k : Int) < (k : Int) := by omega
              have hql : Q.length ≤ 600 := by
                have h1 := few_of_nodup (T + D) Q H1.out.q.nodup H1.out.q.bound
                have := H1.out.q.tb
                omega
              have CA := Lib.hid (qu_all H1.out.q)
              have B2 : Hid (w.heap.size ≤ wr.heap.size ∧ hi ≤ wr.heap.size) := Lib.hid ⟨H1.out.gw.size, H1.out.q.hs⟩
              clear eV hlt
              go_wp2_with fail
              refine CA.out.mono ?_
              rintro e w3 ⟨⟨va, rfl, ha⟩, k3⟩
              have H3 := Lib.hid (H1.out.kept k3)
              obtain ⟨sa', ca', rfl, _, _⟩ := own_formP ha
              have HA := Lib.hid ha
              clear ha k3 H1 CA
              generalize wr.heap.size = wb at *
              have qj2 : ¬ (k : Int) < (k : Int) := by omega
              go_wp2_with fail
              go_loopw [27, 165] (fun cn it wr => ∃ m : Nat, m ≤ Q.length ∧ it = .int .i64 m ∧ cn = .int .i64 m ∧ Hid (QS w wr lo hi qb T D M Q (.slice si Q.length ci) (thQ T V)) ∧ Hid (wr.ownsRow wb 24 2 (.slice sa' Q.length ca') Q.length (cellsP (thQ T Q)))) (fun _ it _ => Q.length - (intOf it).toNat)
              case atStart => exact ⟨0, Nat.zero_le _, rfl, rfl, H3, HA⟩
              case round =>
                clear H3 HA
                obtain ⟨m, hm, rfl, rfl, H4, HA⟩ := hrel
                by_cases hlm : m < Q.length
                · have qm : (m : Int) < (Q.length : Int) := by omega
                  obtain ⟨v0, hv0⟩ : ∃ v0, Q[m] = v0 := ⟨_, rfl⟩
                  obtain ⟨_, _, hsl, hno, hso⟩ := own_formP HA.out
                  obtain ⟨g, hg⟩ : ∃ g, (Value.slice sa' Q.length ca').ownBlock = some g := by
                    cases e : (Value.slice sa' Q.length ca').ownBlock with
                    | none => have := hno e; omega
                    | some g => exact ⟨g, rfl⟩
                  have esi := hso g hg
                  injection hsl with hsl hsl2 hsl3
                  have hat := cellsP_at (thQ T Q) m (thK T v0, thI T v0) (by unfold thQ; rw [List.getElem?_map, List.getElem?_eq_getElem hlm, hv0]; rfl)
                  have y0 := own_cellP HA.out hat.1 hg
                  have y1 := own_cellP HA.out hat.2 hg
                  rw [← hsl] at esi
                  obtain ⟨xk, hxk⟩ : ∃ c, thK T v0 = c := ⟨_, rfl⟩
                  obtain ⟨xi, hxi⟩ : ∃ c, thI T v0 = c := ⟨_, rfl⟩
                  rw [hxk] at y0
                  rw [hxi] at y1
                  dsimp only at y0 y1
                  subst esi
                  have HIN : Hid (inQ T D Q xk xi = some v0) := Lib.hid (by
                    have hmem : v0 ∈ Q := hv0 ▸ List.getElem_mem hlm
                    unfold inQ
                    rw [← hxk, ← hxi, numT_th (H4.out.q.bound v0 hmem)]
                    simp [hmem])
                  have ka := World.grownBy_alloc wr (.cells #[.int .i64 xk, .int .i64 xi] 24) none
                  have H5 := Lib.hid (H4.out.kept ka)
                  have HA5 := Lib.hid (own_keepP HA.out ka)
                  obtain ⟨⟨d0, d1⟩, _⟩ := box2 wr (.int .i64 xk) (.int .i64 xi) 24 0
                  have d0 : (wr.alloc (.cells #[.int .i64 xk, .int .i64 xi] 24)).cell? ⟨wr.heap.size, 0, none⟩ = some (.int .i64 xk) := d0
                  have d1 : (wr.alloc (.cells #[.int .i64 xk, .int .i64 xi] 24)).cell? ⟨wr.heap.size, 1, none⟩ = some (.int .i64 xi) := d1
                  have CH := Lib.hid (qu_has_yes H5.out.q xk xi v0 HIN.out)
                  clear ka H4 HA hv0 hxk hxi hsl hsl2 hsl3 hno hso hat
                  go_wp2_with fail
                  refine CH.out.mono ?_
                  rintro e w5 ⟨rfl, k5⟩
                  have H6 := Lib.hid (H5.out.kept k5)
                  have HA6 := Lib.hid (own_keepP HA5.out k5)
                  clear k5 H5 HA5 d0 d1 CH
                  go_wp2
                  go_roundw
                  case rel => exact ⟨m + 1, hlm, by go_num, by go_num, H6, HA6⟩
                  case measure => simp [intOf]; omega
                · obtain rfl : m = Q.length := by omega
                  have qm : ¬ (Q.length : Int) < (Q.length : Int) := by omega
                  have CL := Lib.hid (qu_len H4.out.q)
                  go_wp2_with fail
                  refine CL.out.mono ?_
                  rintro e w5 ⟨rfl, rfl⟩
                  go_wp2
                  go_ret
                  exact ⟨by simp, H4.out.gw⟩
end Go.Proofs.Ytmmpnfkfieikcaa
