/-
  QueueFew: there never wait more things than there are timers, and than devices may; they come out as they went in.
-/
import Derived.Test.YtmmpnfkfieikcaaQueueRow
import Derived.Deep.Cut
import Derived.Lib.MinMax
namespace Go.Proofs.Ytmmpnfkfieikcaa
open Go.RowKit Go.Lib
set_option maxRecDepth 100000
set_option linter.unusedVariables false
theorem neq_thing (a b : Int) (w : World) : (binOp .neq 24 (.agg #[.int .i64 a, .int .i64 b]) (.agg #[.int .i64 a, .int .i64 b])).run Try.prog w = .ok (.bool false) w := by
  simp [go_sem, Try.underlying24, Try.underlying3]
set_option maxRecDepth 100000 in
set_option maxHeartbeats 16000000 in
theorem few_walk (x0 x1 x2 : Int) (sa0 : Option Addr) (len0 cap0 sb0 off0 : Nat) (zs0 : Nat → Nat → Int) (w : World)
    (_hm0 : len0 ≤ maxLen) (hs0 : 0 < len0 → sa0 = some ⟨sb0, off0, none⟩ ∧ sb0 < w.heap.size) (hz0 : ∀ j, j < len0 → ∀ i, i < 2 → w.cell? ⟨sb0, off0 + j * 2 + i, none⟩ = some (.int .i64 (zs0 j i))) :
    Calls Try.prog 4 #[.int .i64 x0, .int .i64 x1, .int .i64 x2, .slice sa0 len0 cap0] w fun e w' => e = .returned (.bool true) ∧ w.grownBy w' none := by
  have C0 := Lib.hid (alive12 w)
  have R0 : Hid (∀ (v : World) (j : Nat), w.grownBy v none → j < len0 → sa0 = some ⟨sb0, off0, none⟩ ∧ v.cell? ⟨sb0, off0 + j * 2, none⟩ = some (.int .i64 (zs0 j 0)) ∧ v.cell? ⟨sb0, off0 + j * 2 + 1, none⟩ = some (.int .i64 (zs0 j 1))) := Lib.hid fun v j k hj => by
    obtain ⟨h1, h2⟩ := hs0 (by omega)
    exact ⟨h1, (k.cell_far ⟨sb0, off0 + j * 2, none⟩ h2 (by simp)).trans (hz0 j hj 0 (by omega)), (k.cell_far ⟨sb0, off0 + j * 2 + 1, none⟩ h2 (by simp)).trans (hz0 j hj 1 (by omega))⟩
  clear hs0 hz0
  by_cases hl0 : 60 < len0
  · have q : (60 : Int) < (len0 : Int) := by omega
    go_enter Try.func4, Try.ntmps4
    go_wp2_with fail
    refine C0.out.mono ?_
    rintro e w1 ⟨rfl, k1⟩
    go_wp2
    go_ret
    exact ⟨rfl, k1⟩
  have q0 : ¬ (60 : Int) < (len0 : Int) := by omega
  obtain ⟨T, hT, hT2⟩ : ∃ n : Nat, bits .and .i64 x0 31 = (n : Int) ∧ n < 32 := ⟨(x0 % 32).toNat, by rw [and31]; omega, by omega⟩
  obtain ⟨D, hD, hD2⟩ : ∃ n : Nat, bits .and .i64 x1 31 = (n : Int) ∧ n < 32 := ⟨(x1 % 32).toNat, by rw [and31]; omega, by omega⟩
  obtain ⟨M, hM, hM2⟩ : ∃ n : Nat, bits .and .i64 x2 31 = (n : Int) ∧ n < 32 := ⟨(x2 % 32).toNat, by rw [and31]; omega, by omega⟩
  obtain ⟨MN, hMN, hMNv⟩ : ∃ n : Nat, min (D : Int) (M : Int) = (n : Int) ∧ n = min D M := ⟨min D M, by omega, rfl⟩
  have HMN := Lib.hid hMNv
  have hMN2 : (if (M : Int) < (D : Int) then (M : Int) else (D : Int)) = (MN : Int) := by omega
  clear hMNv
  obtain ⟨i0, hi0, hi1, hi2, hi3⟩ := thing_info
  have I0 := Lib.hid hi0
  have I1 := Lib.hid hi1
  have I2 := Lib.hid hi2
  have I3 := Lib.hid hi3
  clear hi0 hi1 hi2 hi3
  have HB := Lib.hid (And.intro hT2 (And.intro hD2 hM2))
  go_enter Try.func4, Try.ntmps4
  go_wp2_with fail
  refine C0.out.mono ?_
  rintro e u1 ⟨rfl, k1⟩
  have G1 := Lib.hid k1
  have CN := Lib.hid (qu_new (T : Int) (D : Int) (M : Int) T D (by unfold clamp3; omega) (by unfold clamp3; omega) u1)
  clear k1 C0
  go_wp2_with fail
  refine CN.out.mono ?_
  rintro e u2 ⟨qb, rfl, k2, h2⟩
  have ka := World.grownBy_alloc u2 (.cells #[] 24) none
  have H0 : Hid (QS w (u2.alloc (.cells #[] 24)) u1.heap.size u2.heap.size qb T D M [] (.slice (some ⟨u2.heap.size, 0, none⟩) 0 0) (thQ T [])) :=
    Lib.hid ⟨h2.kept ka, litP u2 u2.heap.size (Nat.le_refl _), (G1.out.trans k2).trans ka, G1.out.size, k2.size⟩
  clear k2 h2 ka CN G1
  go_wp2_with fail
  generalize u2.alloc (.cells #[] 24) = u3 at *
  generalize u2.heap.size = hi at *
  generalize u1.heap.size = lo at *
  go_loopw [10, 37] (fun vi it wr => ∃ (j : Nat) (Q : List Nat), j ≤ len0 ∧ it = .int .i64 j ∧ Hid (QS w wr lo hi qb T D M Q vi (thQ T Q)) ∧ Hid (devN T Q ≤ M) ∧ Hid (Q.length ≤ j)) (fun _ it _ => len0 - (intOf it).toNat)
  case atStart => exact ⟨0, [], Nat.zero_le _, rfl, H0, Lib.hid (by simp [devN]), Lib.hid (Nat.le_refl _)⟩
  case round =>
    obtain ⟨j, Q, hj, rfl, H1, HD, HJ⟩ := hrel
    clear H0
    obtain ⟨si, ci, rfl, _, _⟩ := own_formP H1.out.r
    rw [thQ_len] at H1 ⊢
    by_cases hlt : j < len0
    · obtain ⟨rfl, z0, z1⟩ := R0.out wr j H1.out.gw hlt
      have qj : (j : Int) < (len0 : Int) := by omega
      obtain ⟨kk, hk⟩ : ∃ c, zs0 j 0 = c := ⟨_, rfl⟩
      obtain ⟨ii, hi'⟩ : ∃ c, zs0 j 1 = c := ⟨_, rfl⟩
      rw [hk] at z0
      rw [hi'] at z1
      clear hk hi'
      have ka := World.grownBy_alloc wr (.cells #[.int .i64 kk, .int .i64 ii] 24) none
      have H2 := Lib.hid (H1.out.kept ka)
      have hX : hi ≤ wr.heap.size := H1.out.q.hs
      obtain ⟨⟨b0, b1⟩, _⟩ := box2 wr (.int .i64 kk) (.int .i64 ii) 24 0
      have b0 : (wr.alloc (.cells #[.int .i64 kk, .int .i64 ii] 24)).cell? ⟨wr.heap.size, 0, none⟩ = some (.int .i64 kk) := b0
      have b1 : (wr.alloc (.cells #[.int .i64 kk, .int .i64 ii] 24)).cell? ⟨wr.heap.size, 1, none⟩ = some (.int .i64 ii) := b1
      have hXs : wr.heap.size < (wr.alloc (.cells #[.int .i64 kk, .int .i64 ii] 24)).heap.size := by rw [World.size_alloc]; omega
      clear ka H1
      go_wp2_with fail
      generalize wr.alloc (.cells #[.int .i64 kk, .int .i64 ii] 24) = v1 at *
      generalize wr.heap.size = X at *
      cases hc : canP T D M Q kk ii with
      | none =>
        refine (qu_push_no H2.out.q kk ii hc).mono ?_
        rintro e w3 ⟨rfl, k3⟩
        have H3 := Lib.hid (H2.out.kept k3)
        have few := few_two H3.out.q.nodup H3.out.q.bound
        have hd := HD.out
        have hmv := HMN.out
        have f1 : ¬ ((T : Int) + (MN : Int) < (Q.length : Int)) := by omega
        have f2 : ¬ ((MN : Int) < (devN T Q : Int)) := by omega
        have CL := Lib.hid (qu_len H3.out.q)
        have CD := Lib.hid (qu_devs H3.out.q)
        clear few hd hmv k3 H2 b0 b1 z0 z1 hc
        go_wp2_with fail
        refine CL.out.mono ?_
        rintro e w' ⟨rfl, rfl⟩
        go_wp2_with fail
        refine CD.out.mono ?_
        rintro e w' ⟨rfl, rfl⟩
        go_wp2_with fail
        refine CL.out.mono ?_
        rintro e w' ⟨rfl, rfl⟩
        go_wp2
        go_roundw
        case rel => exact ⟨j + 1, Q, hlt, by go_num, H3, HD, Lib.hid (by have := HJ.out; omega)⟩
        case measure => simp [intOf]; omega
      | some jj =>
        obtain ⟨hnum, hnq, hdev⟩ := canP_some hc
        have HNM := Lib.hid hnum
        refine (qu_push_yes H2.out.q kk ii jj hc).mono ?_
        rintro e w3 ⟨rfl, k3, h3⟩
        have H3 := Lib.hid (H2.out.on k3 h3)
        replace b0 := (k3.cell ⟨X, 0, none⟩ hXs (Or.inr hX)).trans b0
        replace b1 := (k3.cell ⟨X, 1, none⟩ hXs (Or.inr hX)).trans b1
        have few := few_two H3.out.q.nodup H3.out.q.bound
        have hd := HD.out
        have hmv := HMN.out
        have hdv : devN T (Q ++ [jj]) ≤ M := by
          have e := devN_push T Q jj
          rcases numT_kind hnum with ⟨_, h⟩ | ⟨h2, h, _⟩
          · rw [if_neg (by omega)] at e; omega
          · rw [if_pos h] at e; have := hdev h2; omega
        have HDV := Lib.hid hdv
        have f1 : ¬ ((T : Int) + (MN : Int) < ((Q ++ [jj]).length : Int)) := by omega
        have f2 : ¬ ((MN : Int) < (devN T (Q ++ [jj]) : Int)) := by omega
        have CL : Hid (∀ v, Qu v lo hi qb T D M (Q ++ [jj]) → Calls Try.prog 15 #[.pointer (some ⟨qb, 0, none⟩)] v fun e w' => e = .returned (.int .i64 ((Q ++ [jj]).length : Nat)) ∧ v = w') := Lib.hid fun v h => qu_len h
        have CD : Hid (∀ v, Qu v lo hi qb T D M (Q ++ [jj]) → Calls Try.prog 16 #[.pointer (some ⟨qb, 0, none⟩)] v fun e w' => e = .returned (.int .i64 (devN T (Q ++ [jj]) : Nat)) ∧ v = w') := Lib.hid fun v h => qu_devs h
        have ka := World.grownBy_alloc w3 (.cells #[.int .i64 kk, .int .i64 ii] 24) none
        have SR := Lib.hid (src_P w3 kk ii 24)
        have H4 := Lib.hid (H3.out.kept ka)
        have hb4 : Hid (hi ≤ (w3.alloc (.cells #[.int .i64 kk, .int .i64 ii] 24)).heap.size) := Lib.hid H4.out.q.hs
        have hr4 := H4.out.r
        rw [thQ_len] at hr4
        have HR4 := Lib.hid hr4
        have hql : Q.length ≤ 60 := by have := HJ.out; omega
        have eQ : (Q ++ [jj]).length = Q.length + 1 := by simp
        generalize hQ1 : Q ++ [jj] = Q1 at *
        clear few hd hmv k3 h3 H2 H3 z0 z1 hc ka hr4 hdev hnq hnum hdv
        go_wp2_with (
          at_builtin
          refine wpList_append_src _ rfl _ _ 43 rfl hi 24 i0 (.agg #[.int .i64 0, .int .i64 0]) 2 16 Try.underlying43 I0.out I1.out I2.out I3.out rfl (by decide) _ _ _ rfl HR4.out _ 1 _ rfl SR.out (by unfold maxLen; omega) (by omega) hb4.out ?_
          intro vi' w5 hown' hgrow hnil hat
          have h5 := H4.out.app [(kk, ii)] (by rw [thQ_len]; exact hown') hgrow
          rw [thQ_snoc HNM.out, hQ1] at h5
          have H5 := Lib.hid h5
          clear hown' hgrow hnil hat H4 SR hb4 h5 HR4 b0 b1
          obtain ⟨si', ci', rfl, _, _⟩ := own_formP H5.out.r
          rw [thQ_len] at H5 ⊢)
        refine (CL.out _ H5.out.q).mono ?_
        rintro e w' ⟨rfl, rfl⟩
        go_wp2_with fail
        refine (CD.out _ H5.out.q).mono ?_
        rintro e w' ⟨rfl, rfl⟩
        go_wp2_with fail
        refine (CL.out _ H5.out.q).mono ?_
        rintro e w' ⟨rfl, rfl⟩
        go_wp2
        go_roundw
        case rel => exact ⟨j + 1, Q1, hlt, by go_num, by rw [eQ] at H5; exact H5, HDV, Lib.hid (by have := HJ.out; omega)⟩
        case measure => simp [intOf]; omega
    · obtain rfl : j = len0 := by omega
      have qj : ¬ (j : Int) < (j : Int) := by omega
      have hql : Q.length ≤ 60 := by have := HJ.out; omega
      clear hMN hMN2 hT hD hM hlt
      go_wp2_with fail
      go_loopw [74] (fun it wr => ∃ j : Nat, j ≤ Q.length ∧ it = .int .i64 j ∧ Hid (QS w wr lo hi qb T D M (Q.drop j) (.slice si Q.length ci) (thQ T Q))) (fun it _ => Q.length - (intOf it).toNat)
      case atStart => exact ⟨0, Nat.zero_le _, rfl, H1⟩
      case round =>
        obtain ⟨p, hp, rfl, H2⟩ := hrel
        clear H1 qj
        by_cases hlt : p < Q.length
        · have qp : (p : Int) < (Q.length : Int) := by omega
          obtain ⟨q0, hq0⟩ : ∃ q0, Q[p] = q0 := ⟨_, rfl⟩
          have hdr : Q.drop p = q0 :: Q.drop (p + 1) := by rw [List.drop_eq_getElem_cons hlt, hq0]
          rw [hdr] at H2
          obtain ⟨_, _, hsl, hno, hso⟩ := own_formP H2.out.r
          obtain ⟨g, hg⟩ : ∃ g, (Value.slice si Q.length ci).ownBlock = some g := by
            cases e : (Value.slice si Q.length ci).ownBlock with
            | none => have := hno e; rw [thQ_len] at this; omega
            | some g => exact ⟨g, rfl⟩
          have esi := hso g hg
          injection hsl with hsl hsl2 hsl3
          have hat := cellsP_at (thQ T Q) p (thK T q0, thI T q0) (by unfold thQ; rw [List.getElem?_map, List.getElem?_eq_getElem hlt, hq0]; rfl)
          have z0 := own_cellP H2.out.r hat.1 hg
          have z1 := own_cellP H2.out.r hat.2 hg
          rw [← hsl] at esi
          subst esi
          obtain ⟨xk, hxk⟩ : ∃ c, thK T q0 = c := ⟨_, rfl⟩
          obtain ⟨xi, hxi⟩ : ∃ c, thI T q0 = c := ⟨_, rfl⟩
          rw [hxk] at z0
          rw [hxi] at z1
          dsimp only at z0 z1
          have ka := World.grownBy_alloc wr (.cells #[.int .i64 xk, .int .i64 xi] 24) none
          have H3 := Lib.hid (H2.out.kept ka)
          have hX : hi ≤ wr.heap.size := H2.out.q.hs
          obtain ⟨⟨b0, b1⟩, _⟩ := box2 wr (.int .i64 xk) (.int .i64 xi) 24 0
          have b0 : (wr.alloc (.cells #[.int .i64 xk, .int .i64 xi] 24)).cell? ⟨wr.heap.size, 0, none⟩ = some (.int .i64 xk) := b0
          have b1 : (wr.alloc (.cells #[.int .i64 xk, .int .i64 xi] 24)).cell? ⟨wr.heap.size, 1, none⟩ = some (.int .i64 xi) := b1
          have hXs : wr.heap.size < (wr.alloc (.cells #[.int .i64 xk, .int .i64 xi] 24)).heap.size := by rw [World.size_alloc]; omega
          have CP : Hid (∀ v, Qu v lo hi qb T D M (q0 :: Q.drop (p + 1)) → Calls Try.prog 13 #[.pointer (some ⟨qb, 0, none⟩)] v fun e w' => e = .returned (.tuple #[.agg #[.int .i64 xk, .int .i64 xi], .bool true]) ∧ Only lo hi v w' ∧ Qu w' lo hi qb T D M (Q.drop (p + 1))) := Lib.hid fun v h => by
            have := qu_pop_some q0 _ h
            rwa [hxk, hxi] at this
          clear ka H2 hq0 hdr hsl hsl2 hsl3 hno hso hat hxk hxi
          go_wp2_with fail
          generalize wr.alloc (.cells #[.int .i64 xk, .int .i64 xi] 24) = v1 at *
          generalize wr.heap.size = X at *
          refine (CP.out _ H3.out.q).mono ?_
          rintro e w3 ⟨rfl, k3, h3⟩
          have H4 := Lib.hid (H3.out.on k3 h3)
          replace b0 := (k3.cell ⟨X, 0, none⟩ hXs (Or.inr hX)).trans b0
          replace b1 := (k3.cell ⟨X, 1, none⟩ hXs (Or.inr hX)).trans b1
          have ka := World.grownBy_alloc w3 (.cells #[.int .i64 xk, .int .i64 xi] 24) none
          obtain ⟨⟨c0, c1⟩, _⟩ := box2 w3 (.int .i64 xk) (.int .i64 xi) 24 0
          have c0 : (w3.alloc (.cells #[.int .i64 xk, .int .i64 xi] 24)).cell? ⟨w3.heap.size, 0, none⟩ = some (.int .i64 xk) := c0
          have c1 : (w3.alloc (.cells #[.int .i64 xk, .int .i64 xi] 24)).cell? ⟨w3.heap.size, 1, none⟩ = some (.int .i64 xi) := c1
          replace b0 := ka.cell b0 (by simp)
          replace b1 := ka.cell b1 (by simp)
          have H5 := Lib.hid (H4.out.kept ka)
          have neqt := neq_thing xk xi
          clear H3 H4 k3 h3 ka CP z0 z1
          go_wp2
          go_roundw
          case rel => exact ⟨p + 1, hlt, by go_num, H5⟩
          case measure => simp [intOf]; omega
        · obtain rfl : p = Q.length := by omega
          have qp : ¬ (Q.length : Int) < (Q.length : Int) := by omega
          rw [List.drop_length] at H2
          have CP := Lib.hid (qu_pop_none H2.out.q)
          go_wp2_with fail
          refine CP.out.mono ?_
          rintro e w3 ⟨rfl, k3⟩
          have H3 := Lib.hid (H2.out.kept k3)
          have ka := World.grownBy_alloc w3 (.cells #[.int .i64 0, .int .i64 0] 24) none
          have H4 := Lib.hid (H3.out.kept ka)
          have CD : Hid (Calls Try.prog 16 #[.pointer (some ⟨qb, 0, none⟩)] (w3.alloc (.cells #[.int .i64 0, .int .i64 0] 24)) fun e w' => e = .returned (.int .i64 0) ∧ w3.alloc (.cells #[.int .i64 0, .int .i64 0] 24) = w') := Lib.hid (qu_devs H4.out.q)
          clear k3 H2 H3 ka CP
          go_wp2_with fail
          refine CD.out.mono ?_
          rintro e w5 ⟨rfl, rfl⟩
          go_wp2
          go_ret
          exact ⟨rfl, H4.out.gw⟩
end Go.Proofs.Ytmmpnfkfieikcaa
