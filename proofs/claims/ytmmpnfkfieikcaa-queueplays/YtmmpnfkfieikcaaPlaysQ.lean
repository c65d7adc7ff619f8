/-
  QueuePlays: of each row of steps every answer, and all that waits, are as the document says: the walk.
-/
import Derived.Test.YtmmpnfkfieikcaaPlaysQ0
import Derived.Deep.Cut
import Derived.Lib.MinMax
namespace Go.Proofs.Ytmmpnfkfieikcaa
open Go.RowKit Go.Lib
set_option maxRecDepth 100000
set_option linter.unusedVariables false
theorem few_Q {w : World} {lo hi qb T D : Nat} {M : Int} {Q : List Nat} (H : Qu w lo hi qb T D M Q) : Q.length ≤ 600 := by
  have := H.few
  have := H.tb
  omega
set_option maxRecDepth 100000 in
set_option maxHeartbeats 64000000 in
theorem qplays_walk (x0 x1 x2 : Int) (sa0 : Option Addr) (len0 cap0 sb0 off0 : Nat) (zs0 : Nat → Nat → Int) (ak ai : Int) (w : World)
    (_hm0 : len0 ≤ maxLen) (hs0 : 0 < len0 → sa0 = some ⟨sb0, off0, none⟩ ∧ sb0 < w.heap.size) (hz0 : ∀ j, j < len0 → ∀ i, i < 3 → w.cell? ⟨sb0, off0 + j * 3 + i, none⟩ = some (.int .i64 (zs0 j i))) :
    Calls Try.prog 3 #[.int .i64 x0, .int .i64 x1, .int .i64 x2, .slice sa0 len0 cap0, .agg #[.int .i64 ak, .int .i64 ai]] w fun e w' => e = .returned (.bool true) ∧ w.grownBy w' none := by
  have ka := World.grownBy_alloc w (.cells #[.int .i64 ak, .int .i64 ai] 24) none
  have KA := Lib.hid ka
  have C0 := Lib.hid (alive12 (w.alloc (.cells #[.int .i64 ak, .int .i64 ai] 24)))
  have R0 : Hid (∀ (v : World) (j : Nat), w.grownBy v none → j < len0 → sa0 = some ⟨sb0, off0, none⟩ ∧ v.cell? ⟨sb0, off0 + j * 3, none⟩ = some (.int .i64 (zs0 j 0)) ∧ v.cell? ⟨sb0, off0 + j * 3 + 1, none⟩ = some (.int .i64 (zs0 j 1)) ∧ v.cell? ⟨sb0, off0 + j * 3 + 2, none⟩ = some (.int .i64 (zs0 j 2))) := Lib.hid fun v j k hj => by
    obtain ⟨h1, h2⟩ := hs0 (by omega)
    exact ⟨h1, (k.cell_far ⟨sb0, off0 + j * 3, none⟩ h2 (by simp)).trans (hz0 j hj 0 (by omega)), (k.cell_far ⟨sb0, off0 + j * 3 + 1, none⟩ h2 (by simp)).trans (hz0 j hj 1 (by omega)), (k.cell_far ⟨sb0, off0 + j * 3 + 2, none⟩ h2 (by simp)).trans (hz0 j hj 2 (by omega))⟩
  obtain ⟨⟨A0, A1⟩, _⟩ := box2 w (.int .i64 ak) (.int .i64 ai) 24 0
  have A0 : (w.alloc (.cells #[.int .i64 ak, .int .i64 ai] 24)).cell? ⟨w.heap.size, 0, none⟩ = some (.int .i64 ak) := A0
  have A1 : (w.alloc (.cells #[.int .i64 ak, .int .i64 ai] 24)).cell? ⟨w.heap.size, 1, none⟩ = some (.int .i64 ai) := A1
  have AA := Lib.hid (And.intro A0 A1)
  have hsz : (w.alloc (.cells #[.int .i64 ak, .int .i64 ai] 24)).heap.size = w.heap.size + 1 := World.size_alloc ..
  have HSZ := Lib.hid hsz
  clear hs0 hz0 ka A0 A1 hsz
  by_cases g0 : 40 < len0
  · have q : (40 : Int) < (len0 : Int) := by omega
    go_enter Try.func3, Try.ntmps3
    go_wp2_with fail
    refine C0.out.mono ?_
    rintro e w1 ⟨rfl, k1⟩
    have KK := Lib.hid (KA.out.trans k1)
    clear k1
    go_wp2
    go_ret
    exact ⟨rfl, KK.out⟩
  have g0' : ¬ (40 : Int) < (len0 : Int) := by omega
  by_cases g1 : 300 < x0
  · have q : 300 < x0 := by omega
    go_enter Try.func3, Try.ntmps3
    go_wp2_with fail
    refine C0.out.mono ?_
    rintro e w1 ⟨rfl, k1⟩
    have KK := Lib.hid (KA.out.trans k1)
    clear k1
    go_wp2
    go_ret
    exact ⟨rfl, KK.out⟩
  have g1' : ¬ 300 < x0 := by omega
  by_cases g2 : 300 < x1
  · have q : 300 < x1 := by omega
    go_enter Try.func3, Try.ntmps3
    go_wp2_with fail
    refine C0.out.mono ?_
    rintro e w1 ⟨rfl, k1⟩
    have KK := Lib.hid (KA.out.trans k1)
    clear k1
    go_wp2
    go_ret
    exact ⟨rfl, KK.out⟩
  have g2' : ¬ 300 < x1 := by omega
  obtain ⟨T, hT, hT2⟩ : ∃ T : Nat, max x0 0 = (T : Int) ∧ clamp3 x0 = T := ⟨clamp3 x0, by unfold clamp3; omega, rfl⟩
  obtain ⟨D, hD, hD2⟩ : ∃ D : Nat, max x1 0 = (D : Int) ∧ clamp3 x1 = D := ⟨clamp3 x1, by unfold clamp3; omega, rfl⟩
  obtain ⟨Z, hZ⟩ : ∃ Z : Int, max x2 0 = Z := ⟨_, rfl⟩
  have HZ := Lib.hid hZ.symm
  have hT3 : (if 0 > x0 then 0 else x0) = (T : Int) := by rw [← hT]; omega
  have hD3 : (if 0 > x1 then 0 else x1) = (D : Int) := by rw [← hD]; omega
  have hZ3 : (if 0 > x2 then 0 else x2) = Z := by rw [← hZ]; omega
  have hT4 : (if x0 < 0 then 0 else x0) = (T : Int) := by rw [← hT]; omega
  have hD4 : (if x1 < 0 then 0 else x1) = (D : Int) := by rw [← hD]; omega
  have hZ4 : (if x2 < 0 then 0 else x2) = Z := by rw [← hZ]; omega
  go_enter Try.func3, Try.ntmps3
  go_wp2_with fail
  refine C0.out.mono ?_
  rintro e u1 ⟨rfl, k1⟩
  have K1 := Lib.hid k1
  have CN := Lib.hid (qu_new x0 x1 x2 T D hT2 hD2 u1)
  clear k1 C0
  go_wp2_with fail
  refine CN.out.mono ?_
  rintro e u2 ⟨qb, rfl, k2, h2⟩
  have k3 := World.grownBy_alloc u2 (.cells #[.int .i64 (T : Int), .int .i64 (D : Int), .int .i64 Z, .slice none 0 0] 30) none
  have kall := (K1.out.trans k2).trans k3
  have H0 : Hid (PQ w (u2.alloc (.cells #[.int .i64 (T : Int), .int .i64 (D : Int), .int .i64 Z, .slice none 0 0] 30)) u1.heap.size u2.heap.size qb u2.heap.size w.heap.size T D x2 Z ak ai [] (.slice none 0 0) (thQ T [])) := Lib.hid ⟨h2.kept k3, World.ownsRow_nil .., World.cell?_alloc_at _ _ _ 0 rfl, World.cell?_alloc_at _ _ _ 1 rfl, World.cell?_alloc_at _ _ _ 2 rfl, World.cell?_alloc_at _ _ _ 3 rfl, fun o => by simp [go_sem], kall.cell AA.out.1 (by simp), kall.cell AA.out.2 (by simp), KA.out.trans kall, Nat.le_refl _, (by have := K1.out.size; have := HSZ.out; omega), k2.size, Nat.le_refl _, (by rw [World.size_alloc]; omega)⟩
  clear k2 h2 k3 kall CN K1 AA
  go_wp2_with fail
  generalize u2.alloc (.cells #[.int .i64 (T : Int), .int .i64 (D : Int), .int .i64 Z, .slice none 0 0] 30) = u3 at *
  generalize hxb : u2.heap.size = hi at *
  generalize u1.heap.size = lo at *
  clear hT hD hZ hT3 hD3 hZ3 hT4 hD4 hZ4 hT2 hD2 hxb
  generalize hab : w.heap.size = ab at *
  go_loopw [50] (fun it wr => ∃ (j : Nat) (Q : List Nat) (v : Value), j ≤ len0 ∧ it = .int .i64 j ∧ Hid (PQ w wr lo hi qb hi ab T D x2 Z ak ai Q v (thQ T Q))) (fun it _ => len0 - (intOf it).toNat)
  case atStart => exact ⟨0, [], _, Nat.zero_le _, rfl, H0⟩
  case round =>
    clear H0
    obtain ⟨j, Q, v, hj, rfl, H1⟩ := hrel
    by_cases hlt : j < len0
    · obtain ⟨rfl, z0, z1, z2⟩ := R0.out wr j H1.out.gw hlt
      have qj : (j : Int) < (len0 : Int) := by omega
      obtain ⟨kd, hkd⟩ : ∃ c, zs0 j 0 = c := ⟨_, rfl⟩
      obtain ⟨tk, htk⟩ : ∃ c, zs0 j 1 = c := ⟨_, rfl⟩
      obtain ⟨ti, hti⟩ : ∃ c, zs0 j 2 = c := ⟨_, rfl⟩
      rw [hkd] at z0
      rw [htk] at z1
      rw [hti] at z2
      clear hkd htk hti
      have ka := World.grownBy_alloc wr (.cells #[.int .i64 kd, .int .i64 tk, .int .i64 ti] 32) none
      have H2 := Lib.hid (H1.out.kept ka)
      have b0 : (wr.alloc (.cells #[.int .i64 kd, .int .i64 tk, .int .i64 ti] 32)).cell? ⟨wr.heap.size, 0, none⟩ = some (.int .i64 kd) := World.cell?_alloc_at _ _ _ 0 rfl
      have b1 : (wr.alloc (.cells #[.int .i64 kd, .int .i64 tk, .int .i64 ti] 32)).cell? ⟨wr.heap.size, 1, none⟩ = some (.int .i64 tk) := World.cell?_alloc_at _ _ _ 1 rfl
      have b2 : (wr.alloc (.cells #[.int .i64 kd, .int .i64 tk, .int .i64 ti] 32)).cell? ⟨wr.heap.size, 2, none⟩ = some (.int .i64 ti) := World.cell?_alloc_at _ _ _ 2 rfl
      have hob : hi < wr.heap.size := H1.out.lw.2.2.2.2
      have hos : wr.heap.size < (wr.alloc (.cells #[.int .i64 kd, .int .i64 tk, .int .i64 ti] 32)).heap.size := by rw [World.size_alloc]; omega
      have hfl : Hid (Q.length ≤ 100000) := Lib.hid (by have := few_Q H1.out.q; omega)
      obtain ⟨sv, cv, rfl, _, _⟩ := own_formP H1.out.r
      clear ka H1
      by_cases e0 : kd = 0
      · subst e0
        cases hc : canP T D x2 Q tk ti with
        | some jj =>
          have HC := Lib.hid hc
          have c0 := H2.out.x0
          have c1 := H2.out.x1
          have c2 := H2.out.x2
          have c3 := H2.out.x3
          have cr := ref_push_any tk ti H2.out HZ.out hfl.out
          rw [hc] at cr
          simp only [Option.isSome_some, Option.toList_some] at cr
          clear hc
          have CR := Lib.hid cr
          clear cr
          go_wp2_with fail
          generalize wr.alloc (.cells #[.int .i64 0, .int .i64 tk, .int .i64 ti] 32) = v1 at *
          generalize wr.heap.size = ob at *
          clear z0 z1 z2
          refine CR.out.mono ?_
          rintro e w3 ⟨⟨v', rfl, hr'⟩, k3⟩
          have H3 := Lib.hid (H2.out.kept k3)
          replace b1 := k3.cell b1 (by simp)
          replace b2 := k3.cell b2 (by simp)
          replace hos := Nat.lt_of_lt_of_le hos k3.size
          clear k3 H2 CR c0 c1 c2 c3
          obtain ⟨s', c', hv', _, _⟩ := own_formP hr'
          subst hv'
          have y0 : (w3.alloc (.cells #[.int .i64 (T : Int), .int .i64 (D : Int), .int .i64 Z, Value.slice s' (thQ T (Q ++ [jj])).length c'] 30)).cell? ⟨w3.heap.size, 0, none⟩ = some (.int .i64 (T : Int)) := World.cell?_alloc_at _ _ _ 0 rfl
          have y1 : (w3.alloc (.cells #[.int .i64 (T : Int), .int .i64 (D : Int), .int .i64 Z, Value.slice s' (thQ T (Q ++ [jj])).length c'] 30)).cell? ⟨w3.heap.size, 1, none⟩ = some (.int .i64 (D : Int)) := World.cell?_alloc_at _ _ _ 1 rfl
          have y2 : (w3.alloc (.cells #[.int .i64 (T : Int), .int .i64 (D : Int), .int .i64 Z, Value.slice s' (thQ T (Q ++ [jj])).length c'] 30)).cell? ⟨w3.heap.size, 2, none⟩ = some (.int .i64 Z) := World.cell?_alloc_at _ _ _ 2 rfl
          have y3 : (w3.alloc (.cells #[.int .i64 (T : Int), .int .i64 (D : Int), .int .i64 Z, Value.slice s' (thQ T (Q ++ [jj])).length c'] 30)).cell? ⟨w3.heap.size, 3, none⟩ = some (Value.slice s' (thQ T (Q ++ [jj])).length c') := World.cell?_alloc_at _ _ _ 3 rfl
          have ky := World.grownBy_alloc w3 (.cells #[.int .i64 (T : Int), .int .i64 (D : Int), .int .i64 Z, Value.slice s' (thQ T (Q ++ [jj])).length c'] 30) none
          have H4 := Lib.hid (H3.out.kept ky)
          have HR4 := Lib.hid (own_keepP hr' ky)
          replace b1 := ky.cell b1 (by simp)
          replace b2 := ky.cell b2 (by simp)
          replace hos := Nat.lt_of_lt_of_le hos ky.size
          clear hr' H3 ky
          generalize hyb : w3.heap.size = yb at *
          have c0 := H4.out.x0
          have c1 := H4.out.x1
          have c2 := H4.out.x2
          have c3 := H4.out.x3
          have f0 := H4.out.fz 0
          have f1 := H4.out.fz 1
          have f2 := H4.out.fz 2
          have f3 := H4.out.fz 3
          go_wp2_with fail
          have H5 := Lib.hid (H4.out.setx HR4.out)
          have k5 := only4 (w := w3.alloc (.cells #[.int .i64 (T : Int), .int .i64 (D : Int), .int .i64 Z, Value.slice s' (thQ T (Q ++ [jj])).length c'] 30)) (b := hi) (.int .i64 (T : Int)) (.int .i64 (D : Int)) (.int .i64 Z) (Value.slice s' (thQ T (Q ++ [jj])).length c')
          replace b1 := (k5.cell ⟨ob, 1, none⟩ hos (Or.inr (by show _ ≤ ob; omega))).trans b1
          replace b2 := (k5.cell ⟨ob, 2, none⟩ hos (Or.inr (by show _ ≤ ob; omega))).trans b2
          replace hos := Nat.lt_of_lt_of_le hos k5.size
          clear H4 HR4 k5 c0 c1 c2 c3 f0 f1 f2 f3 y0 y1 y2 y3
          generalize (((((w3.alloc (.cells #[.int .i64 (T : Int), .int .i64 (D : Int), .int .i64 Z, Value.slice s' (thQ T (Q ++ [jj])).length c'] 30)).setCell ⟨hi, 0, none⟩ (.int .i64 (T : Int))).setCell ⟨hi, 1, none⟩ (.int .i64 (D : Int))).setCell ⟨hi, 2, none⟩ (.int .i64 Z)).setCell ⟨hi, 3, none⟩ (Value.slice s' (thQ T (Q ++ [jj])).length c')) = w5 at *
          have CP := Lib.hid (qu_push_yes H5.out.q tk ti jj HC.out)
          go_wp2_with fail
          refine CP.out.mono ?_
          rintro e w6 ⟨rfl, k6, h6⟩
          have H6 := Lib.hid (H5.out.on k6 h6)
          replace b1 := (k6.cell ⟨ob, 1, none⟩ hos (Or.inr (by show _ ≤ ob; omega))).trans b1
          replace b2 := (k6.cell ⟨ob, 2, none⟩ hos (Or.inr (by show _ ≤ ob; omega))).trans b2
          replace hos := Nat.lt_of_lt_of_le hos k6.size
          clear k6 h6 H5 CP
          have c0 := H6.out.x0
          have c1 := H6.out.x1
          have c2 := H6.out.x2
          have c3 := H6.out.x3
          have S1 := Lib.hid (qsame H6.out.q (T : Int) (D : Int) Z tk ti H6.out.r)
          go_wp2_with fail
          refine S1.out.mono ?_
          rintro e w8 ⟨rfl, k8⟩
          have H8 := Lib.hid (H6.out.kept k8)
          clear k8 S1 H6 b1 b2 c0 c1 c2 c3
          have c0 := H8.out.x0
          have c1 := H8.out.x1
          have c2 := H8.out.x2
          have c3 := H8.out.x3
          have d0 := H8.out.a0
          have d1 := H8.out.a1
          have S2 := Lib.hid (qsame H8.out.q (T : Int) (D : Int) Z ak ai H8.out.r)
          go_wp2_with fail
          refine S2.out.mono ?_
          rintro e w9 ⟨rfl, k9⟩
          have H9 := Lib.hid (H8.out.kept k9)
          clear k9 S2 H8 c0 c1 c2 c3 d0 d1
          go_wp2
          go_roundw
          case rel => exact ⟨j + 1, Q ++ [jj], _, hlt, by go_num, H9⟩
          case measure => simp [intOf]; omega
        | none =>
          have HC := Lib.hid hc
          have c0 := H2.out.x0
          have c1 := H2.out.x1
          have c2 := H2.out.x2
          have c3 := H2.out.x3
          have cr := ref_push_any tk ti H2.out HZ.out hfl.out
          rw [hc] at cr
          simp only [Option.isSome_none, Option.toList_none, List.append_nil] at cr
          clear hc
          have CR := Lib.hid cr
          clear cr
          go_wp2_with fail
          generalize wr.alloc (.cells #[.int .i64 0, .int .i64 tk, .int .i64 ti] 32) = v1 at *
          generalize wr.heap.size = ob at *
          clear z0 z1 z2
          refine CR.out.mono ?_
          rintro e w3 ⟨⟨v', rfl, hr'⟩, k3⟩
          have H3 := Lib.hid (H2.out.kept k3)
          replace b1 := k3.cell b1 (by simp)
          replace b2 := k3.cell b2 (by simp)
          replace hos := Nat.lt_of_lt_of_le hos k3.size
          clear k3 H2 CR c0 c1 c2 c3
          obtain ⟨s', c', hv', _, _⟩ := own_formP hr'
          subst hv'
          have y0 : (w3.alloc (.cells #[.int .i64 (T : Int), .int .i64 (D : Int), .int .i64 Z, Value.slice s' (thQ T Q).length c'] 30)).cell? ⟨w3.heap.size, 0, none⟩ = some (.int .i64 (T : Int)) := World.cell?_alloc_at _ _ _ 0 rfl
          have y1 : (w3.alloc (.cells #[.int .i64 (T : Int), .int .i64 (D : Int), .int .i64 Z, Value.slice s' (thQ T Q).length c'] 30)).cell? ⟨w3.heap.size, 1, none⟩ = some (.int .i64 (D : Int)) := World.cell?_alloc_at _ _ _ 1 rfl
          have y2 : (w3.alloc (.cells #[.int .i64 (T : Int), .int .i64 (D : Int), .int .i64 Z, Value.slice s' (thQ T Q).length c'] 30)).cell? ⟨w3.heap.size, 2, none⟩ = some (.int .i64 Z) := World.cell?_alloc_at _ _ _ 2 rfl
          have y3 : (w3.alloc (.cells #[.int .i64 (T : Int), .int .i64 (D : Int), .int .i64 Z, Value.slice s' (thQ T Q).length c'] 30)).cell? ⟨w3.heap.size, 3, none⟩ = some (Value.slice s' (thQ T Q).length c') := World.cell?_alloc_at _ _ _ 3 rfl
          have ky := World.grownBy_alloc w3 (.cells #[.int .i64 (T : Int), .int .i64 (D : Int), .int .i64 Z, Value.slice s' (thQ T Q).length c'] 30) none
          have H4 := Lib.hid (H3.out.kept ky)
          have HR4 := Lib.hid (own_keepP hr' ky)
          replace b1 := ky.cell b1 (by simp)
          replace b2 := ky.cell b2 (by simp)
          replace hos := Nat.lt_of_lt_of_le hos ky.size
          clear hr' H3 ky
          generalize hyb : w3.heap.size = yb at *
          have c0 := H4.out.x0
          have c1 := H4.out.x1
          have c2 := H4.out.x2
          have c3 := H4.out.x3
          have f0 := H4.out.fz 0
          have f1 := H4.out.fz 1
          have f2 := H4.out.fz 2
          have f3 := H4.out.fz 3
          go_wp2_with fail
          have H5 := Lib.hid (H4.out.setx HR4.out)
          have k5 := only4 (w := w3.alloc (.cells #[.int .i64 (T : Int), .int .i64 (D : Int), .int .i64 Z, Value.slice s' (thQ T Q).length c'] 30)) (b := hi) (.int .i64 (T : Int)) (.int .i64 (D : Int)) (.int .i64 Z) (Value.slice s' (thQ T Q).length c')
          replace b1 := (k5.cell ⟨ob, 1, none⟩ hos (Or.inr (by show _ ≤ ob; omega))).trans b1
          replace b2 := (k5.cell ⟨ob, 2, none⟩ hos (Or.inr (by show _ ≤ ob; omega))).trans b2
          replace hos := Nat.lt_of_lt_of_le hos k5.size
          clear H4 HR4 k5 c0 c1 c2 c3 f0 f1 f2 f3 y0 y1 y2 y3
          generalize (((((w3.alloc (.cells #[.int .i64 (T : Int), .int .i64 (D : Int), .int .i64 Z, Value.slice s' (thQ T Q).length c'] 30)).setCell ⟨hi, 0, none⟩ (.int .i64 (T : Int))).setCell ⟨hi, 1, none⟩ (.int .i64 (D : Int))).setCell ⟨hi, 2, none⟩ (.int .i64 Z)).setCell ⟨hi, 3, none⟩ (Value.slice s' (thQ T Q).length c')) = w5 at *
          have CP := Lib.hid (qu_push_no H5.out.q tk ti HC.out)
          go_wp2_with fail
          refine CP.out.mono ?_
          rintro e w6 ⟨rfl, k6⟩
          have H6 := Lib.hid (H5.out.kept k6)
          replace b1 := k6.cell b1 (by simp)
          replace b2 := k6.cell b2 (by simp)
          replace hos := Nat.lt_of_lt_of_le hos k6.size
          clear k6 H5 CP
          have c0 := H6.out.x0
          have c1 := H6.out.x1
          have c2 := H6.out.x2
          have c3 := H6.out.x3
          have S1 := Lib.hid (qsame H6.out.q (T : Int) (D : Int) Z tk ti H6.out.r)
          go_wp2_with fail
          refine S1.out.mono ?_
          rintro e w8 ⟨rfl, k8⟩
          have H8 := Lib.hid (H6.out.kept k8)
          clear k8 S1 H6 b1 b2 c0 c1 c2 c3
          have c0 := H8.out.x0
          have c1 := H8.out.x1
          have c2 := H8.out.x2
          have c3 := H8.out.x3
          have d0 := H8.out.a0
          have d1 := H8.out.a1
          have S2 := Lib.hid (qsame H8.out.q (T : Int) (D : Int) Z ak ai H8.out.r)
          go_wp2_with fail
          refine S2.out.mono ?_
          rintro e w9 ⟨rfl, k9⟩
          have H9 := Lib.hid (H8.out.kept k9)
          clear k9 S2 H8 c0 c1 c2 c3 d0 d1
          go_wp2
          go_roundw
          case rel => exact ⟨j + 1, Q, _, hlt, by go_num, H9⟩
          case measure => simp [intOf]; omega
      by_cases e1 : kd = 1
      · subst e1
        cases hc : inQ T D Q tk ti with
        | some jj =>
          have HC := Lib.hid hc
          have c0 := H2.out.x0
          have c1 := H2.out.x1
          have c2 := H2.out.x2
          have c3 := H2.out.x3
          have cr := ref_drop_any tk ti H2.out hfl.out
          rw [hc] at cr
          have eq2 : (Q.filter fun q => !((some jj).toList.contains q)) = Q.erase jj := by
            rw [List.Nodup.erase_eq_filter H2.out.q.nodup]
            refine List.filter_congr fun q _ => ?_
            by_cases h : q = jj <;> simp [h]
          rw [eq2] at cr
          simp only [Option.isSome_some] at cr
          clear hc eq2
          have CR := Lib.hid cr
          clear cr
          go_wp2_with fail
          generalize wr.alloc (.cells #[.int .i64 1, .int .i64 tk, .int .i64 ti] 32) = v1 at *
          generalize wr.heap.size = ob at *
          clear z0 z1 z2
          refine CR.out.mono ?_
          rintro e w3 ⟨⟨v', rfl, hr'⟩, k3⟩
          have H3 := Lib.hid (H2.out.kept k3)
          replace b1 := k3.cell b1 (by simp)
          replace b2 := k3.cell b2 (by simp)
          replace hos := Nat.lt_of_lt_of_le hos k3.size
          clear k3 H2 CR c0 c1 c2 c3
          obtain ⟨s', c', hv', _, _⟩ := own_formP hr'
          subst hv'
          have y0 : (w3.alloc (.cells #[.int .i64 (T : Int), .int .i64 (D : Int), .int .i64 Z, Value.slice s' (thQ T (Q.erase jj)).length c'] 30)).cell? ⟨w3.heap.size, 0, none⟩ = some (.int .i64 (T : Int)) := World.cell?_alloc_at _ _ _ 0 rfl
          have y1 : (w3.alloc (.cells #[.int .i64 (T : Int), .int .i64 (D : Int), .int .i64 Z, Value.slice s' (thQ T (Q.erase jj)).length c'] 30)).cell? ⟨w3.heap.size, 1, none⟩ = some (.int .i64 (D : Int)) := World.cell?_alloc_at _ _ _ 1 rfl
          have y2 : (w3.alloc (.cells #[.int .i64 (T : Int), .int .i64 (D : Int), .int .i64 Z, Value.slice s' (thQ T (Q.erase jj)).length c'] 30)).cell? ⟨w3.heap.size, 2, none⟩ = some (.int .i64 Z) := World.cell?_alloc_at _ _ _ 2 rfl
          have y3 : (w3.alloc (.cells #[.int .i64 (T : Int), .int .i64 (D : Int), .int .i64 Z, Value.slice s' (thQ T (Q.erase jj)).length c'] 30)).cell? ⟨w3.heap.size, 3, none⟩ = some (Value.slice s' (thQ T (Q.erase jj)).length c') := World.cell?_alloc_at _ _ _ 3 rfl
          have ky := World.grownBy_alloc w3 (.cells #[.int .i64 (T : Int), .int .i64 (D : Int), .int .i64 Z, Value.slice s' (thQ T (Q.erase jj)).length c'] 30) none
          have H4 := Lib.hid (H3.out.kept ky)
          have HR4 := Lib.hid (own_keepP hr' ky)
          replace b1 := ky.cell b1 (by simp)
          replace b2 := ky.cell b2 (by simp)
          replace hos := Nat.lt_of_lt_of_le hos ky.size
          clear hr' H3 ky
          generalize hyb : w3.heap.size = yb at *
          have c0 := H4.out.x0
          have c1 := H4.out.x1
          have c2 := H4.out.x2
          have c3 := H4.out.x3
          have f0 := H4.out.fz 0
          have f1 := H4.out.fz 1
          have f2 := H4.out.fz 2
          have f3 := H4.out.fz 3
          go_wp2_with fail
          have H5 := Lib.hid (H4.out.setx HR4.out)
          have k5 := only4 (w := w3.alloc (.cells #[.int .i64 (T : Int), .int .i64 (D : Int), .int .i64 Z, Value.slice s' (thQ T (Q.erase jj)).length c'] 30)) (b := hi) (.int .i64 (T : Int)) (.int .i64 (D : Int)) (.int .i64 Z) (Value.slice s' (thQ T (Q.erase jj)).length c')
          replace b1 := (k5.cell ⟨ob, 1, none⟩ hos (Or.inr (by show _ ≤ ob; omega))).trans b1
          replace b2 := (k5.cell ⟨ob, 2, none⟩ hos (Or.inr (by show _ ≤ ob; omega))).trans b2
          replace hos := Nat.lt_of_lt_of_le hos k5.size
          clear H4 HR4 k5 c0 c1 c2 c3 f0 f1 f2 f3 y0 y1 y2 y3
          generalize (((((w3.alloc (.cells #[.int .i64 (T : Int), .int .i64 (D : Int), .int .i64 Z, Value.slice s' (thQ T (Q.erase jj)).length c'] 30)).setCell ⟨hi, 0, none⟩ (.int .i64 (T : Int))).setCell ⟨hi, 1, none⟩ (.int .i64 (D : Int))).setCell ⟨hi, 2, none⟩ (.int .i64 Z)).setCell ⟨hi, 3, none⟩ (Value.slice s' (thQ T (Q.erase jj)).length c')) = w5 at *
          have CP := Lib.hid (qu_drop_yes H5.out.q tk ti jj HC.out)
          go_wp2_with fail
          refine CP.out.mono ?_
          rintro e w6 ⟨rfl, k6, h6⟩
          have H6 := Lib.hid (H5.out.on k6 h6)
          replace b1 := (k6.cell ⟨ob, 1, none⟩ hos (Or.inr (by show _ ≤ ob; omega))).trans b1
          replace b2 := (k6.cell ⟨ob, 2, none⟩ hos (Or.inr (by show _ ≤ ob; omega))).trans b2
          replace hos := Nat.lt_of_lt_of_le hos k6.size
          clear k6 h6 H5 CP
          have c0 := H6.out.x0
          have c1 := H6.out.x1
          have c2 := H6.out.x2
          have c3 := H6.out.x3
          have S1 := Lib.hid (qsame H6.out.q (T : Int) (D : Int) Z tk ti H6.out.r)
          go_wp2_with fail
          refine S1.out.mono ?_
          rintro e w8 ⟨rfl, k8⟩
          have H8 := Lib.hid (H6.out.kept k8)
          clear k8 S1 H6 b1 b2 c0 c1 c2 c3
          have c0 := H8.out.x0
          have c1 := H8.out.x1
          have c2 := H8.out.x2
          have c3 := H8.out.x3
          have d0 := H8.out.a0
          have d1 := H8.out.a1
          have S2 := Lib.hid (qsame H8.out.q (T : Int) (D : Int) Z ak ai H8.out.r)
          go_wp2_with fail
          refine S2.out.mono ?_
          rintro e w9 ⟨rfl, k9⟩
          have H9 := Lib.hid (H8.out.kept k9)
          clear k9 S2 H8 c0 c1 c2 c3 d0 d1
          go_wp2
          go_roundw
          case rel => exact ⟨j + 1, Q.erase jj, _, hlt, by go_num, H9⟩
          case measure => simp [intOf]; omega
        | none =>
          have HC := Lib.hid hc
          have c0 := H2.out.x0
          have c1 := H2.out.x1
          have c2 := H2.out.x2
          have c3 := H2.out.x3
          have cr := ref_drop_any tk ti H2.out hfl.out
          rw [hc] at cr
          have eq2 : (Q.filter fun q => !((none : Option Nat).toList.contains q)) = Q := List.filter_eq_self.2 (fun _ _ => rfl)
          rw [eq2] at cr
          simp only [Option.isSome_none] at cr
          clear hc eq2
          have CR := Lib.hid cr
          clear cr
          go_wp2_with fail
          generalize wr.alloc (.cells #[.int .i64 1, .int .i64 tk, .int .i64 ti] 32) = v1 at *
          generalize wr.heap.size = ob at *
          clear z0 z1 z2
          refine CR.out.mono ?_
          rintro e w3 ⟨⟨v', rfl, hr'⟩, k3⟩
          have H3 := Lib.hid (H2.out.kept k3)
          replace b1 := k3.cell b1 (by simp)
          replace b2 := k3.cell b2 (by simp)
          replace hos := Nat.lt_of_lt_of_le hos k3.size
          clear k3 H2 CR c0 c1 c2 c3
          obtain ⟨s', c', hv', _, _⟩ := own_formP hr'
          subst hv'
          have y0 : (w3.alloc (.cells #[.int .i64 (T : Int), .int .i64 (D : Int), .int .i64 Z, Value.slice s' (thQ T Q).length c'] 30)).cell? ⟨w3.heap.size, 0, none⟩ = some (.int .i64 (T : Int)) := World.cell?_alloc_at _ _ _ 0 rfl
          have y1 : (w3.alloc (.cells #[.int .i64 (T : Int), .int .i64 (D : Int), .int .i64 Z, Value.slice s' (thQ T Q).length c'] 30)).cell? ⟨w3.heap.size, 1, none⟩ = some (.int .i64 (D : Int)) := World.cell?_alloc_at _ _ _ 1 rfl
          have y2 : (w3.alloc (.cells #[.int .i64 (T : Int), .int .i64 (D : Int), .int .i64 Z, Value.slice s' (thQ T Q).length c'] 30)).cell? ⟨w3.heap.size, 2, none⟩ = some (.int .i64 Z) := World.cell?_alloc_at _ _ _ 2 rfl
          have y3 : (w3.alloc (.cells #[.int .i64 (T : Int), .int .i64 (D : Int), .int .i64 Z, Value.slice s' (thQ T Q).length c'] 30)).cell? ⟨w3.heap.size, 3, none⟩ = some (Value.slice s' (thQ T Q).length c') := World.cell?_alloc_at _ _ _ 3 rfl
          have ky := World.grownBy_alloc w3 (.cells #[.int .i64 (T : Int), .int .i64 (D : Int), .int .i64 Z, Value.slice s' (thQ T Q).length c'] 30) none
          have H4 := Lib.hid (H3.out.kept ky)
          have HR4 := Lib.hid (own_keepP hr' ky)
          replace b1 := ky.cell b1 (by simp)
          replace b2 := ky.cell b2 (by simp)
          replace hos := Nat.lt_of_lt_of_le hos ky.size
          clear hr' H3 ky
          generalize hyb : w3.heap.size = yb at *
          have c0 := H4.out.x0
          have c1 := H4.out.x1
          have c2 := H4.out.x2
          have c3 := H4.out.x3
          have f0 := H4.out.fz 0
          have f1 := H4.out.fz 1
          have f2 := H4.out.fz 2
          have f3 := H4.out.fz 3
          go_wp2_with fail
          have H5 := Lib.hid (H4.out.setx HR4.out)
          have k5 := only4 (w := w3.alloc (.cells #[.int .i64 (T : Int), .int .i64 (D : Int), .int .i64 Z, Value.slice s' (thQ T Q).length c'] 30)) (b := hi) (.int .i64 (T : Int)) (.int .i64 (D : Int)) (.int .i64 Z) (Value.slice s' (thQ T Q).length c')
          replace b1 := (k5.cell ⟨ob, 1, none⟩ hos (Or.inr (by show _ ≤ ob; omega))).trans b1
          replace b2 := (k5.cell ⟨ob, 2, none⟩ hos (Or.inr (by show _ ≤ ob; omega))).trans b2
          replace hos := Nat.lt_of_lt_of_le hos k5.size
          clear H4 HR4 k5 c0 c1 c2 c3 f0 f1 f2 f3 y0 y1 y2 y3
          generalize (((((w3.alloc (.cells #[.int .i64 (T : Int), .int .i64 (D : Int), .int .i64 Z, Value.slice s' (thQ T Q).length c'] 30)).setCell ⟨hi, 0, none⟩ (.int .i64 (T : Int))).setCell ⟨hi, 1, none⟩ (.int .i64 (D : Int))).setCell ⟨hi, 2, none⟩ (.int .i64 Z)).setCell ⟨hi, 3, none⟩ (Value.slice s' (thQ T Q).length c')) = w5 at *
          have CP := Lib.hid (qu_drop_no H5.out.q tk ti HC.out)
          go_wp2_with fail
          refine CP.out.mono ?_
          rintro e w6 ⟨rfl, k6⟩
          have H6 := Lib.hid (H5.out.kept k6)
          replace b1 := k6.cell b1 (by simp)
          replace b2 := k6.cell b2 (by simp)
          replace hos := Nat.lt_of_lt_of_le hos k6.size
          clear k6 H5 CP
          have c0 := H6.out.x0
          have c1 := H6.out.x1
          have c2 := H6.out.x2
          have c3 := H6.out.x3
          have S1 := Lib.hid (qsame H6.out.q (T : Int) (D : Int) Z tk ti H6.out.r)
          go_wp2_with fail
          refine S1.out.mono ?_
          rintro e w8 ⟨rfl, k8⟩
          have H8 := Lib.hid (H6.out.kept k8)
          clear k8 S1 H6 b1 b2 c0 c1 c2 c3
          have c0 := H8.out.x0
          have c1 := H8.out.x1
          have c2 := H8.out.x2
          have c3 := H8.out.x3
          have d0 := H8.out.a0
          have d1 := H8.out.a1
          have S2 := Lib.hid (qsame H8.out.q (T : Int) (D : Int) Z ak ai H8.out.r)
          go_wp2_with fail
          refine S2.out.mono ?_
          rintro e w9 ⟨rfl, k9⟩
          have H9 := Lib.hid (H8.out.kept k9)
          clear k9 S2 H8 c0 c1 c2 c3 d0 d1
          go_wp2
          go_roundw
          case rel => exact ⟨j + 1, Q, _, hlt, by go_num, H9⟩
          case measure => simp [intOf]; omega
      by_cases e2 : kd = 2
      · subst e2
        cases Q with
        | nil =>
          have c0 := H2.out.x0
          have c1 := H2.out.x1
          have c2 := H2.out.x2
          have c3 := H2.out.x3
          have cr := ref_pop_none (B := hi + 1) (v := .slice sv (thQ T []).length cv) (T : Int) (D : Int) Z (show _ from H2.out.r)
          have CR := Lib.hid cr
          clear cr
          go_wp2_with fail
          generalize wr.alloc (.cells #[.int .i64 2, .int .i64 tk, .int .i64 ti] 32) = v1 at *
          generalize wr.heap.size = ob at *
          clear z0 z1 z2
          refine CR.out.mono ?_
          rintro e w3 ⟨rfl, k3⟩
          have H3 := Lib.hid (H2.out.kept k3)
          replace b1 := k3.cell b1 (by simp)
          replace b2 := k3.cell b2 (by simp)
          replace hos := Nat.lt_of_lt_of_le hos k3.size
          clear k3 H2 CR c0 c1 c2 c3
          have hr' : w3.ownsRow (hi + 1) 35 2 (.slice sv (thQ T []).length cv) (thQ T []).length (cellsP (thQ T [])) := H3.out.r
          have y0 : (w3.alloc (.cells #[.int .i64 (T : Int), .int .i64 (D : Int), .int .i64 Z, Value.slice sv (thQ T []).length cv] 30)).cell? ⟨w3.heap.size, 0, none⟩ = some (.int .i64 (T : Int)) := World.cell?_alloc_at _ _ _ 0 rfl
          have y1 : (w3.alloc (.cells #[.int .i64 (T : Int), .int .i64 (D : Int), .int .i64 Z, Value.slice sv (thQ T []).length cv] 30)).cell? ⟨w3.heap.size, 1, none⟩ = some (.int .i64 (D : Int)) := World.cell?_alloc_at _ _ _ 1 rfl
          have y2 : (w3.alloc (.cells #[.int .i64 (T : Int), .int .i64 (D : Int), .int .i64 Z, Value.slice sv (thQ T []).length cv] 30)).cell? ⟨w3.heap.size, 2, none⟩ = some (.int .i64 Z) := World.cell?_alloc_at _ _ _ 2 rfl
          have y3 : (w3.alloc (.cells #[.int .i64 (T : Int), .int .i64 (D : Int), .int .i64 Z, Value.slice sv (thQ T []).length cv] 30)).cell? ⟨w3.heap.size, 3, none⟩ = some (Value.slice sv (thQ T []).length cv) := World.cell?_alloc_at _ _ _ 3 rfl
          have ky := World.grownBy_alloc w3 (.cells #[.int .i64 (T : Int), .int .i64 (D : Int), .int .i64 Z, Value.slice sv (thQ T []).length cv] 30) none
          have kt := World.grownBy_alloc (w3.alloc (.cells #[.int .i64 (T : Int), .int .i64 (D : Int), .int .i64 Z, Value.slice sv (thQ T []).length cv] 30)) (.cells #[.int .i64 0, .int .i64 0] 35) none
          replace y0 := kt.cell y0 (by simp)
          replace y1 := kt.cell y1 (by simp)
          replace y2 := kt.cell y2 (by simp)
          replace y3 := kt.cell y3 (by simp)
          obtain ⟨⟨t0, t1⟩, _⟩ := box2 (w3.alloc (.cells #[.int .i64 (T : Int), .int .i64 (D : Int), .int .i64 Z, Value.slice sv (thQ T []).length cv] 30)) (.int .i64 0) (.int .i64 0) 35 0
          have t0 : ((w3.alloc (.cells #[.int .i64 (T : Int), .int .i64 (D : Int), .int .i64 Z, Value.slice sv (thQ T []).length cv] 30)).alloc (.cells #[.int .i64 0, .int .i64 0] 35)).cell? ⟨(w3.alloc (.cells #[.int .i64 (T : Int), .int .i64 (D : Int), .int .i64 Z, Value.slice sv (thQ T []).length cv] 30)).heap.size, 0, none⟩ = some (.int .i64 0) := t0
          have t1 : ((w3.alloc (.cells #[.int .i64 (T : Int), .int .i64 (D : Int), .int .i64 Z, Value.slice sv (thQ T []).length cv] 30)).alloc (.cells #[.int .i64 0, .int .i64 0] 35)).cell? ⟨(w3.alloc (.cells #[.int .i64 (T : Int), .int .i64 (D : Int), .int .i64 Z, Value.slice sv (thQ T []).length cv] 30)).heap.size, 1, none⟩ = some (.int .i64 0) := t1
          have hys : (w3.alloc (.cells #[.int .i64 (T : Int), .int .i64 (D : Int), .int .i64 Z, Value.slice sv (thQ T []).length cv] 30)).heap.size = w3.heap.size + 1 := World.size_alloc ..
          have hts : w3.heap.size + 1 < ((w3.alloc (.cells #[.int .i64 (T : Int), .int .i64 (D : Int), .int .i64 Z, Value.slice sv (thQ T []).length cv] 30)).alloc (.cells #[.int .i64 0, .int .i64 0] 35)).heap.size := by rw [World.size_alloc, hys]; omega
          rw [hys] at t0 t1
          have ky2 := ky.trans kt
          have H4 := Lib.hid (H3.out.kept ky2)
          have HR4 := Lib.hid (own_keepP hr' ky2)
          have hyb2 : hi ≤ w3.heap.size := by have := H3.out.lw; omega
          replace b1 := ky2.cell b1 (by simp)
          replace b2 := ky2.cell b2 (by simp)
          replace hos := Nat.lt_of_lt_of_le hos ky2.size
          clear hr' H3 ky kt ky2 hys
          generalize hyb : w3.heap.size = yb at *
          have c0 := H4.out.x0
          have c1 := H4.out.x1
          have c2 := H4.out.x2
          have c3 := H4.out.x3
          have f0 := H4.out.fz 0
          have f1 := H4.out.fz 1
          have f2 := H4.out.fz 2
          have f3 := H4.out.fz 3
          go_wp2_with fail
          have H5 := Lib.hid (H4.out.setx HR4.out)
          have k5 := only4 (w := (w3.alloc (.cells #[.int .i64 (T : Int), .int .i64 (D : Int), .int .i64 Z, Value.slice sv (thQ T []).length cv] 30)).alloc (.cells #[.int .i64 0, .int .i64 0] 35)) (b := hi) (.int .i64 (T : Int)) (.int .i64 (D : Int)) (.int .i64 Z) (Value.slice sv (thQ T []).length cv)
          replace t0 := (k5.cell ⟨yb + 1, 0, none⟩ hts (Or.inr (by show _ ≤ yb + 1; omega))).trans t0
          replace t1 := (k5.cell ⟨yb + 1, 1, none⟩ hts (Or.inr (by show _ ≤ yb + 1; omega))).trans t1
          replace hts := Nat.lt_of_lt_of_le hts k5.size
          replace b1 := (k5.cell ⟨ob, 1, none⟩ hos (Or.inr (by show _ ≤ ob; omega))).trans b1
          replace b2 := (k5.cell ⟨ob, 2, none⟩ hos (Or.inr (by show _ ≤ ob; omega))).trans b2
          replace hos := Nat.lt_of_lt_of_le hos k5.size
          clear H4 HR4 k5 c0 c1 c2 c3 f0 f1 f2 f3 y0 y1 y2 y3
          generalize ((((((w3.alloc (.cells #[.int .i64 (T : Int), .int .i64 (D : Int), .int .i64 Z, Value.slice sv (thQ T []).length cv] 30)).alloc (.cells #[.int .i64 0, .int .i64 0] 35)).setCell ⟨hi, 0, none⟩ (.int .i64 (T : Int))).setCell ⟨hi, 1, none⟩ (.int .i64 (D : Int))).setCell ⟨hi, 2, none⟩ (.int .i64 Z)).setCell ⟨hi, 3, none⟩ (Value.slice sv (thQ T []).length cv)) = w5 at *
          have CP := Lib.hid (qu_pop_none H5.out.q)
          go_wp2_with fail
          refine CP.out.mono ?_
          rintro e w6 ⟨rfl, k6⟩
          have H6 := Lib.hid (H5.out.kept k6)
          replace t0 := k6.cell t0 (by simp)
          replace t1 := k6.cell t1 (by simp)
          replace b1 := k6.cell b1 (by simp)
          replace b2 := k6.cell b2 (by simp)
          replace hos := Nat.lt_of_lt_of_le hos k6.size
          clear k6 H5 CP
          have ku := World.grownBy_alloc w6 (.cells #[.int .i64 0, .int .i64 0] 24) none
          obtain ⟨⟨u0, u1⟩, _⟩ := box2 w6 (.int .i64 0) (.int .i64 0) 24 0
          have u0 : (w6.alloc (.cells #[.int .i64 0, .int .i64 0] 24)).cell? ⟨w6.heap.size, 0, none⟩ = some (.int .i64 0) := u0
          have u1 : (w6.alloc (.cells #[.int .i64 0, .int .i64 0] 24)).cell? ⟨w6.heap.size, 1, none⟩ = some (.int .i64 0) := u1
          replace t0 := ku.cell t0 (by simp)
          replace t1 := ku.cell t1 (by simp)
          have H7 := Lib.hid (H6.out.kept ku)
          replace b1 := ku.cell b1 (by simp)
          replace b2 := ku.cell b2 (by simp)
          replace hos := Nat.lt_of_lt_of_le hos ku.size
          have neqf : ∀ v : World, (binOp .neq 35 (.agg #[.int .i64 0, .int .i64 0]) (.agg #[.int .i64 0, .int .i64 0])).run Try.prog v = .ok (.bool false) v := fun v => by rw [neq_thingR]; simp
          clear ku H6
          have c0 := H7.out.x0
          have c1 := H7.out.x1
          have c2 := H7.out.x2
          have c3 := H7.out.x3
          have S1 := Lib.hid (qsame H7.out.q (T : Int) (D : Int) Z tk ti H7.out.r)
          go_wp2_with fail
          refine S1.out.mono ?_
          rintro e w8 ⟨rfl, k8⟩
          have H8 := Lib.hid (H7.out.kept k8)
          clear k8 S1 H7 b1 b2 t0 t1 u0 u1 neqf c0 c1 c2 c3
          have c0 := H8.out.x0
          have c1 := H8.out.x1
          have c2 := H8.out.x2
          have c3 := H8.out.x3
          have d0 := H8.out.a0
          have d1 := H8.out.a1
          have S2 := Lib.hid (qsame H8.out.q (T : Int) (D : Int) Z ak ai H8.out.r)
          go_wp2_with fail
          refine S2.out.mono ?_
          rintro e w9 ⟨rfl, k9⟩
          have H9 := Lib.hid (H8.out.kept k9)
          clear k9 S2 H8 c0 c1 c2 c3 d0 d1
          go_wp2
          go_roundw
          case rel => exact ⟨j + 1, [], _, hlt, by go_num, H9⟩
          case measure => simp [intOf]; omega
        | cons q0 rest =>
          have c0 := H2.out.x0
          have c1 := H2.out.x1
          have c2 := H2.out.x2
          have c3 := H2.out.x3
          obtain ⟨xk, hxk⟩ : ∃ c, thK T q0 = c := ⟨_, rfl⟩
          obtain ⟨xi, hxi⟩ : ∃ c, thI T q0 = c := ⟨_, rfl⟩
          have cr := ref_pop_some (T : Int) (D : Int) Z (thK T q0) (thI T q0) (thQ T rest) (show _ from H2.out.r) (by have := hfl.out; simp [thQ_len] at this ⊢; omega)
          have CPH : Hid (∀ x, Qu x lo hi qb T D x2 (q0 :: rest) → Calls Try.prog 13 #[.pointer (some ⟨qb, 0, none⟩)] x fun e w' => e = .returned (.tuple #[.agg #[.int .i64 xk, .int .i64 xi], .bool true]) ∧ Only lo hi x w' ∧ Qu w' lo hi qb T D x2 rest) := Lib.hid fun x hx => by
            have := qu_pop_some q0 rest hx
            rwa [hxk, hxi] at this
          rw [hxk, hxi] at cr
          clear hxk hxi
          have hbase : hi + 1 ≤ (wr.alloc (.cells #[.int .i64 2, .int .i64 tk, .int .i64 ti] 32)).heap.size := by omega
          have CR := Lib.hid cr
          clear cr
          go_wp2_with fail
          generalize wr.alloc (.cells #[.int .i64 2, .int .i64 tk, .int .i64 ti] 32) = v1 at *
          generalize wr.heap.size = ob at *
          clear z0 z1 z2
          refine CR.out.mono ?_
          rintro e w3 ⟨⟨v', rfl, hr'⟩, k3⟩
          have H3 := Lib.hid (H2.out.kept k3)
          replace b1 := k3.cell b1 (by simp)
          replace b2 := k3.cell b2 (by simp)
          replace hos := Nat.lt_of_lt_of_le hos k3.size
          clear k3 H2 CR c0 c1 c2 c3
          replace hr' := own_mono hr' hbase
          clear hbase
          obtain ⟨s', c', hv', _, _⟩ := own_formP hr'
          subst hv'
          have y0 : (w3.alloc (.cells #[.int .i64 (T : Int), .int .i64 (D : Int), .int .i64 Z, Value.slice s' (thQ T rest).length c'] 30)).cell? ⟨w3.heap.size, 0, none⟩ = some (.int .i64 (T : Int)) := World.cell?_alloc_at _ _ _ 0 rfl
          have y1 : (w3.alloc (.cells #[.int .i64 (T : Int), .int .i64 (D : Int), .int .i64 Z, Value.slice s' (thQ T rest).length c'] 30)).cell? ⟨w3.heap.size, 1, none⟩ = some (.int .i64 (D : Int)) := World.cell?_alloc_at _ _ _ 1 rfl
          have y2 : (w3.alloc (.cells #[.int .i64 (T : Int), .int .i64 (D : Int), .int .i64 Z, Value.slice s' (thQ T rest).length c'] 30)).cell? ⟨w3.heap.size, 2, none⟩ = some (.int .i64 Z) := World.cell?_alloc_at _ _ _ 2 rfl
          have y3 : (w3.alloc (.cells #[.int .i64 (T : Int), .int .i64 (D : Int), .int .i64 Z, Value.slice s' (thQ T rest).length c'] 30)).cell? ⟨w3.heap.size, 3, none⟩ = some (Value.slice s' (thQ T rest).length c') := World.cell?_alloc_at _ _ _ 3 rfl
          have ky := World.grownBy_alloc w3 (.cells #[.int .i64 (T : Int), .int .i64 (D : Int), .int .i64 Z, Value.slice s' (thQ T rest).length c'] 30) none
          have kt := World.grownBy_alloc (w3.alloc (.cells #[.int .i64 (T : Int), .int .i64 (D : Int), .int .i64 Z, Value.slice s' (thQ T rest).length c'] 30)) (.cells #[.int .i64 xk, .int .i64 xi] 35) none
          replace y0 := kt.cell y0 (by simp)
          replace y1 := kt.cell y1 (by simp)
          replace y2 := kt.cell y2 (by simp)
          replace y3 := kt.cell y3 (by simp)
          obtain ⟨⟨t0, t1⟩, _⟩ := box2 (w3.alloc (.cells #[.int .i64 (T : Int), .int .i64 (D : Int), .int .i64 Z, Value.slice s' (thQ T rest).length c'] 30)) (.int .i64 xk) (.int .i64 xi) 35 0
          have t0 : ((w3.alloc (.cells #[.int .i64 (T : Int), .int .i64 (D : Int), .int .i64 Z, Value.slice s' (thQ T rest).length c'] 30)).alloc (.cells #[.int .i64 xk, .int .i64 xi] 35)).cell? ⟨(w3.alloc (.cells #[.int .i64 (T : Int), .int .i64 (D : Int), .int .i64 Z, Value.slice s' (thQ T rest).length c'] 30)).heap.size, 0, none⟩ = some (.int .i64 xk) := t0
          have t1 : ((w3.alloc (.cells #[.int .i64 (T : Int), .int .i64 (D : Int), .int .i64 Z, Value.slice s' (thQ T rest).length c'] 30)).alloc (.cells #[.int .i64 xk, .int .i64 xi] 35)).cell? ⟨(w3.alloc (.cells #[.int .i64 (T : Int), .int .i64 (D : Int), .int .i64 Z, Value.slice s' (thQ T rest).length c'] 30)).heap.size, 1, none⟩ = some (.int .i64 xi) := t1
          have hys : (w3.alloc (.cells #[.int .i64 (T : Int), .int .i64 (D : Int), .int .i64 Z, Value.slice s' (thQ T rest).length c'] 30)).heap.size = w3.heap.size + 1 := World.size_alloc ..
          have hts : w3.heap.size + 1 < ((w3.alloc (.cells #[.int .i64 (T : Int), .int .i64 (D : Int), .int .i64 Z, Value.slice s' (thQ T rest).length c'] 30)).alloc (.cells #[.int .i64 xk, .int .i64 xi] 35)).heap.size := by rw [World.size_alloc, hys]; omega
          rw [hys] at t0 t1
          have ky2 := ky.trans kt
          have H4 := Lib.hid (H3.out.kept ky2)
          have HR4 := Lib.hid (own_keepP hr' ky2)
          have hyb2 : hi ≤ w3.heap.size := by have := H3.out.lw; omega
          replace b1 := ky2.cell b1 (by simp)
          replace b2 := ky2.cell b2 (by simp)
          replace hos := Nat.lt_of_lt_of_le hos ky2.size
          clear hr' H3 ky kt ky2 hys
          generalize hyb : w3.heap.size = yb at *
          have c0 := H4.out.x0
          have c1 := H4.out.x1
          have c2 := H4.out.x2
          have c3 := H4.out.x3
          have f0 := H4.out.fz 0
          have f1 := H4.out.fz 1
          have f2 := H4.out.fz 2
          have f3 := H4.out.fz 3
          go_wp2_with fail
          have H5 := Lib.hid (H4.out.setx HR4.out)
          have k5 := only4 (w := (w3.alloc (.cells #[.int .i64 (T : Int), .int .i64 (D : Int), .int .i64 Z, Value.slice s' (thQ T rest).length c'] 30)).alloc (.cells #[.int .i64 xk, .int .i64 xi] 35)) (b := hi) (.int .i64 (T : Int)) (.int .i64 (D : Int)) (.int .i64 Z) (Value.slice s' (thQ T rest).length c')
          replace t0 := (k5.cell ⟨yb + 1, 0, none⟩ hts (Or.inr (by show _ ≤ yb + 1; omega))).trans t0
          replace t1 := (k5.cell ⟨yb + 1, 1, none⟩ hts (Or.inr (by show _ ≤ yb + 1; omega))).trans t1
          replace hts := Nat.lt_of_lt_of_le hts k5.size
          replace b1 := (k5.cell ⟨ob, 1, none⟩ hos (Or.inr (by show _ ≤ ob; omega))).trans b1
          replace b2 := (k5.cell ⟨ob, 2, none⟩ hos (Or.inr (by show _ ≤ ob; omega))).trans b2
          replace hos := Nat.lt_of_lt_of_le hos k5.size
          clear H4 HR4 k5 c0 c1 c2 c3 f0 f1 f2 f3 y0 y1 y2 y3
          generalize ((((((w3.alloc (.cells #[.int .i64 (T : Int), .int .i64 (D : Int), .int .i64 Z, Value.slice s' (thQ T rest).length c'] 30)).alloc (.cells #[.int .i64 xk, .int .i64 xi] 35)).setCell ⟨hi, 0, none⟩ (.int .i64 (T : Int))).setCell ⟨hi, 1, none⟩ (.int .i64 (D : Int))).setCell ⟨hi, 2, none⟩ (.int .i64 Z)).setCell ⟨hi, 3, none⟩ (Value.slice s' (thQ T rest).length c')) = w5 at *
          have CP := Lib.hid (CPH.out _ H5.out.q)
          go_wp2_with fail
          refine CP.out.mono ?_
          rintro e w6 ⟨rfl, k6, h6⟩
          have H6 := Lib.hid (H5.out.on k6 h6)
          replace t0 := (k6.cell ⟨yb + 1, 0, none⟩ hts (Or.inr (by show _ ≤ yb + 1; omega))).trans t0
          replace t1 := (k6.cell ⟨yb + 1, 1, none⟩ hts (Or.inr (by show _ ≤ yb + 1; omega))).trans t1
          replace b1 := (k6.cell ⟨ob, 1, none⟩ hos (Or.inr (by show _ ≤ ob; omega))).trans b1
          replace b2 := (k6.cell ⟨ob, 2, none⟩ hos (Or.inr (by show _ ≤ ob; omega))).trans b2
          replace hos := Nat.lt_of_lt_of_le hos k6.size
          clear k6 h6 H5 CP CPH
          have ku := World.grownBy_alloc w6 (.cells #[.int .i64 xk, .int .i64 xi] 24) none
          obtain ⟨⟨u0, u1⟩, _⟩ := box2 w6 (.int .i64 xk) (.int .i64 xi) 24 0
          have u0 : (w6.alloc (.cells #[.int .i64 xk, .int .i64 xi] 24)).cell? ⟨w6.heap.size, 0, none⟩ = some (.int .i64 xk) := u0
          have u1 : (w6.alloc (.cells #[.int .i64 xk, .int .i64 xi] 24)).cell? ⟨w6.heap.size, 1, none⟩ = some (.int .i64 xi) := u1
          replace t0 := ku.cell t0 (by simp)
          replace t1 := ku.cell t1 (by simp)
          have H7 := Lib.hid (H6.out.kept ku)
          replace b1 := ku.cell b1 (by simp)
          replace b2 := ku.cell b2 (by simp)
          replace hos := Nat.lt_of_lt_of_le hos ku.size
          have neqf : ∀ v : World, (binOp .neq 35 (.agg #[.int .i64 xk, .int .i64 xi]) (.agg #[.int .i64 xk, .int .i64 xi])).run Try.prog v = .ok (.bool false) v := fun v => by rw [neq_thingR]; simp
          clear ku H6
          have c0 := H7.out.x0
          have c1 := H7.out.x1
          have c2 := H7.out.x2
          have c3 := H7.out.x3
          have S1 := Lib.hid (qsame H7.out.q (T : Int) (D : Int) Z tk ti H7.out.r)
          go_wp2_with fail
          refine S1.out.mono ?_
          rintro e w8 ⟨rfl, k8⟩
          have H8 := Lib.hid (H7.out.kept k8)
          clear k8 S1 H7 b1 b2 t0 t1 u0 u1 neqf c0 c1 c2 c3
          have c0 := H8.out.x0
          have c1 := H8.out.x1
          have c2 := H8.out.x2
          have c3 := H8.out.x3
          have d0 := H8.out.a0
          have d1 := H8.out.a1
          have S2 := Lib.hid (qsame H8.out.q (T : Int) (D : Int) Z ak ai H8.out.r)
          go_wp2_with fail
          refine S2.out.mono ?_
          rintro e w9 ⟨rfl, k9⟩
          have H9 := Lib.hid (H8.out.kept k9)
          clear k9 S2 H8 c0 c1 c2 c3 d0 d1
          go_wp2
          go_roundw
          case rel => exact ⟨j + 1, rest, _, hlt, by go_num, H9⟩
          case measure => simp [intOf]; omega
      · skip
        have d1 : (kd == 0) = false := by simpa using e0
        have d2 : (kd == 1) = false := by simpa using e1
        have d3 : (kd == 2) = false := by simpa using e2
        have d4 : decide (kd = 0) = false := by simpa using e0
        have d5 : decide (kd = 1) = false := by simpa using e1
        have d6 : decide (kd = 2) = false := by simpa using e2
        clear e0 e1 e2
        have c0 := H2.out.x0
        have c1 := H2.out.x1
        have c2 := H2.out.x2
        have c3 := H2.out.x3
        have S1 := Lib.hid (qsame H2.out.q (T : Int) (D : Int) Z tk ti H2.out.r)
        go_wp2_with fail
        refine S1.out.mono ?_
        rintro e w8 ⟨rfl, k8⟩
        have H8 := Lib.hid (H2.out.kept k8)
        clear k8 S1 H2 b1 b2 c0 c1 c2 c3
        have c0 := H8.out.x0
        have c1 := H8.out.x1
        have c2 := H8.out.x2
        have c3 := H8.out.x3
        have d0 := H8.out.a0
        have d1 := H8.out.a1
        have S2 := Lib.hid (qsame H8.out.q (T : Int) (D : Int) Z ak ai H8.out.r)
        go_wp2_with fail
        refine S2.out.mono ?_
        rintro e w9 ⟨rfl, k9⟩
        have H9 := Lib.hid (H8.out.kept k9)
        clear k9 S2 H8 c0 c1 c2 c3 d0 d1
        go_wp2
        go_roundw
        case rel => exact ⟨j + 1, Q, _, hlt, by go_num, H9⟩
        case measure => simp [intOf]; omega
    · obtain rfl : j = len0 := by omega
      have qj : ¬ (j : Int) < (j : Int) := by omega
      go_wp2
      go_ret
      exact ⟨rfl, H1.out.gw⟩
end Go.Proofs.Ytmmpnfkfieikcaa
