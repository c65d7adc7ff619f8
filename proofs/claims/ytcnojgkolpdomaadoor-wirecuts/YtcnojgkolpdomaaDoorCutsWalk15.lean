/-
  WireCuts, the walk, over this seat's translation.
-/
import Derived.Test.YtcnojgkolpdomaaDoorWireM
namespace Go.Proofs.YtcnojgkolpdomaaDoor
open Go.RowKit Go.Lib
set_option maxRecDepth 100000
set_option linter.unusedVariables false

set_option maxHeartbeats 8000000 in
theorem cuts_law (vb : Value) (F : List Nat) (cut : Int) (w : World) (HT : FormsAt w) (H : ReadsB w vb F) :
    Calls Tryd.prog 10 #[vb, .int .i64 cut] w fun r w' => r = .returned (.bool true) ∧ w.grownBy w' none := by
  have HT0 := Lib.hid HT
  have HF0 := Lib.hid H
  have hB := H.b
  have AL := Lib.hid (alive15 HT)
  obtain ⟨a, cap, rfl, hcap, hcm⟩ := H.form
  clear HT H
  by_cases hl : 3000 < F.length
  · have q : ((F.length : Nat) : Int) > 3000 := by omega
    go_enter Tryd.func10, Tryd.ntmps10
    go_wp2_with fail
    refine AL.out.mono ?_
    rintro r w1 ⟨rfl, g1⟩
    go_wp2
    go_ret
    exact ⟨rfl, g1⟩
  have q : ¬ (((F.length : Nat) : Int) > 3000) := by omega
  obtain ⟨y, hy, hy2⟩ := cut_mask cut
  obtain ⟨k, hk⟩ : ∃ k : Nat, k = y % (F.length + 1) := ⟨_, rfl⟩
  have hkl : k ≤ F.length := by have := Nat.mod_lt y (show 0 < F.length + 1 by omega); omega
  have hkm : (y : Int) % ((F.length : Int) + 1) = (k : Int) := by rw [hk]; push_cast; rfl
  have hwl : wrap64 ((F.length : Int) + 1) = (F.length : Int) + 1 := by unfold wrap64; omega
  have qk0 : ¬ (k : Int) < 0 := by omega
  have qkc : (k : Int) ≤ (cap : Int) := by omega
  -- the plain part
  obtain ⟨hc1, hc2⟩ := rdT_cut hB k
  have hokA := rdT_ok hB
  have hokB := rdT_ok (isB_take hB k)
  have hsz := rdT_size hB
  have hAl := rdT_len F
  obtain ⟨A, hA⟩ : ∃ A, A = (rd F).take 2048 := ⟨_, rfl⟩
  obtain ⟨C, hC⟩ : ∃ C, C = (rd (F.take k)).take 2048 := ⟨_, rfl⟩
  have CR1 : Hid (∀ wz : World, w.grownBy wz none → Calls Tryd.prog 28 #[.slice a F.length cap] wz fun r w' => wz.grownBy w' none ∧ ∃ v', r = .returned (.tuple #[v', .int .i64 0]) ∧ ERow w' wz.heap.size v' A) := Lib.hid (fun wz hg => by rw [hA]; exact wread (HF0.out.grown hg) (HT0.out.kept hg) (by omega))
  have CR2 : Hid (∀ wz : World, w.grownBy wz none → Calls Tryd.prog 28 #[.slice a k cap] wz fun r w' => wz.grownBy w' none ∧ ∃ v', r = .returned (.tuple #[v', .int .i64 0]) ∧ ERow w' wz.heap.size v' C) := Lib.hid (fun wz hg => by rw [hC]; exact wread (reads_takeA (HF0.out.grown hg) hkl) (HT0.out.kept hg) (by rw [List.length_take]; omega))
  rw [← hA] at hc1 hc2 hokA hsz hAl
  rw [← hC] at hc1 hc2 hokB
  have HC2 := Lib.hid hc2
  have HOA := Lib.hid hokA
  have HOB := Lib.hid hokB
  have HSZ := Lib.hid hsz
  clear hA hC hk hB hc2 hokA hokB
  have q3 : ¬ (((C.length : Nat) : Int) > ((A.length : Nat) : Int)) := by omega
  go_enter Tryd.func10, Tryd.ntmps10
  go_wp2_with fail
  refine AL.out.mono ?_
  rintro r w1 ⟨rfl, g1⟩
  have G1 := Lib.hid g1
  clear g1 AL
  go_wp2_with fail
  refine (CR1.out _ G1.out).mono ?_
  rintro r w2 ⟨g2, v2, rfl, e2⟩
  have G2 := Lib.hid (G1.out.trans g2)
  have RA := Lib.hid (e2.reads' HOA.out)
  obtain ⟨la, lc, rfl, hlc, hlm⟩ := RA.out.form
  clear g2 e2
  cases a with
  | none =>
    have hF0 : F.length = 0 := by
      by_cases h : 0 < F.length
      · obtain ⟨a', cap', e, _, _, _, h5⟩ := HF0.out
        injection e with e1 e2 e3
        obtain ⟨_, _, e4, _⟩ := h5 h
        rw [← e1] at e4
        cases e4
      · omega
    obtain rfl : k = 0 := by omega
    have hFn : F = [] := List.eq_nil_of_length_eq_zero hF0
    subst hFn
    simp only [List.length_nil] at *
    clear hF0
    go_wp2_with fail
    refine (CR2.out _ G2.out).mono ?_
    rintro r w3 ⟨g3, v3, rfl, e3⟩
    have G3 := Lib.hid (G2.out.trans g3)
    have RC := Lib.hid (e3.reads' HOB.out)
    obtain ⟨lb, lcb, rfl, hlc2, hlm2⟩ := RC.out.form
    have RA3 := Lib.hid (RA.out.grown g3)
    have RT := reads_takeE RA3.out hc1
    rw [HC2.out] at RT
    have SE := Lib.hid (rsameE RC.out RT)
    have CW := Lib.hid (fun (wz : World) (hg : w3.grownBy wz none) => wwrite (RA3.out.grown hg) (HT0.out.kept (G3.out.trans hg)) hAl)
    clear g3 e3 RT
    have qc1 : ((C.length : Nat) : Int) ≤ ((lc : Nat) : Int) := by omega
    have qc0 : ¬ ((C.length : Nat) : Int) < 0 := by omega
    cases la with
    | none =>
      have hA0 : A.length = 0 := by
        by_cases h : 0 < A.length
        · obtain ⟨a', cap', e, _, _, _, h5⟩ := RA.out
          injection e with e1 e2 e3
          obtain ⟨_, _, e4, _⟩ := h5 h
          rw [← e1] at e4
          cases e4
        · omega
      have hAn : A = [] := List.eq_nil_of_length_eq_zero hA0
      have hCn : C = [] := List.eq_nil_of_length_eq_zero (by omega)
      subst hAn
      subst hCn
      simp only [List.length_nil] at *
      clear hA0
      go_wp2_with fail
      refine SE.out.mono ?_
      rintro r w4 ⟨rfl, g4⟩
      have G4 := Lib.hid (G3.out.trans g4)
      go_wp2_with fail
      refine (CW.out _ g4).mono ?_
      rintro r w5 ⟨g5, v5, rfl, hb5⟩
      have hall := okL_all HOA.out
      have hb5 := hb5 hall
      have hv5 : wrV ([] : List En) v5 = .tuple #[v5, .int .i64 0] := by rw [wrV, hall]; rfl
      rw [hv5]
      have G5 := Lib.hid (G4.out.trans g5)
      have hrd5 := hb5.reads (wrB_isB (fun e he => List.all_eq_true.1 hall e he))
      obtain ⟨l5, c5, rfl, _, _⟩ := hrd5.form
      have CR3 := wread hrd5 (HT0.out.kept G5.out) (by have := HSZ.out; omega)
      rw [wrB_rd HOA.out hAl] at CR3
      have CR3 := Lib.hid CR3
      have RA5 := Lib.hid (RA3.out.grown (g4.trans g5))
      have hsz5 : (((wrB ([] : List En)).length : Nat) : Int) ≤ ((([] : List Nat).length : Nat) : Int) := by have := HSZ.out; omega
      clear g4 g5 hb5 hall hv5 hrd5 CW SE
      go_wp2_with fail
      refine CR3.out.mono ?_
      rintro r w6 ⟨g6, v6, rfl, e6⟩
      have SE6 := Lib.hid (rsameE (e6.reads' HOA.out) (RA5.out.grown g6))
      have G6 := Lib.hid (G5.out.trans g6)
      clear g6 e6 CR3
      go_wp2_with fail
      refine SE6.out.mono ?_
      rintro r w7 ⟨rfl, g7⟩
      have G7 := Lib.hid (G6.out.trans g7)
      clear g7
      go_wp2
      go_ret
      exact ⟨by first | (simp; done) | (have hz : wrB ([] : List En) = [] := List.eq_nil_of_length_eq_zero (by omega); simp [hz]), G7.out⟩
    | some p2 =>
      go_wp2_with fail
      refine SE.out.mono ?_
      rintro r w4 ⟨rfl, g4⟩
      have G4 := Lib.hid (G3.out.trans g4)
      go_wp2_with fail
      refine (CW.out _ g4).mono ?_
      rintro r w5 ⟨g5, v5, rfl, hb5⟩
      have hall := okL_all HOA.out
      have hb5 := hb5 hall
      have hv5 : wrV A v5 = .tuple #[v5, .int .i64 0] := by rw [wrV, hall]; rfl
      rw [hv5]
      have G5 := Lib.hid (G4.out.trans g5)
      have hrd5 := hb5.reads (wrB_isB (fun e he => List.all_eq_true.1 hall e he))
      obtain ⟨l5, c5, rfl, _, _⟩ := hrd5.form
      have CR3 := wread hrd5 (HT0.out.kept G5.out) (by have := HSZ.out; omega)
      rw [wrB_rd HOA.out hAl] at CR3
      have CR3 := Lib.hid CR3
      have RA5 := Lib.hid (RA3.out.grown (g4.trans g5))
      have hsz5 : (((wrB A).length : Nat) : Int) ≤ ((([] : List Nat).length : Nat) : Int) := by have := HSZ.out; omega
      clear g4 g5 hb5 hall hv5 hrd5 CW SE
      go_wp2_with fail
      refine CR3.out.mono ?_
      rintro r w6 ⟨g6, v6, rfl, e6⟩
      have SE6 := Lib.hid (rsameE (e6.reads' HOA.out) (RA5.out.grown g6))
      have G6 := Lib.hid (G5.out.trans g6)
      clear g6 e6 CR3
      go_wp2_with fail
      refine SE6.out.mono ?_
      rintro r w7 ⟨rfl, g7⟩
      have G7 := Lib.hid (G6.out.trans g7)
      clear g7
      go_wp2
      go_ret
      exact ⟨by first | (simp; done) | (have hz : wrB A = [] := List.eq_nil_of_length_eq_zero (by omega); simp [hz]), G7.out⟩
  | some p =>
    go_wp2_with fail
    refine (CR2.out _ G2.out).mono ?_
    rintro r w3 ⟨g3, v3, rfl, e3⟩
    have G3 := Lib.hid (G2.out.trans g3)
    have RC := Lib.hid (e3.reads' HOB.out)
    obtain ⟨lb, lcb, rfl, hlc2, hlm2⟩ := RC.out.form
    have RA3 := Lib.hid (RA.out.grown g3)
    have RT := reads_takeE RA3.out hc1
    rw [HC2.out] at RT
    have SE := Lib.hid (rsameE RC.out RT)
    have CW := Lib.hid (fun (wz : World) (hg : w3.grownBy wz none) => wwrite (RA3.out.grown hg) (HT0.out.kept (G3.out.trans hg)) hAl)
    clear g3 e3 RT
    have qc1 : ((C.length : Nat) : Int) ≤ ((lc : Nat) : Int) := by omega
    have qc0 : ¬ ((C.length : Nat) : Int) < 0 := by omega
    cases la with
    | none =>
      have hA0 : A.length = 0 := by
        by_cases h : 0 < A.length
        · obtain ⟨a', cap', e, _, _, _, h5⟩ := RA.out
          injection e with e1 e2 e3
          obtain ⟨_, _, e4, _⟩ := h5 h
          rw [← e1] at e4
          cases e4
        · omega
      have hAn : A = [] := List.eq_nil_of_length_eq_zero hA0
      have hCn : C = [] := List.eq_nil_of_length_eq_zero (by omega)
      subst hAn
      subst hCn
      simp only [List.length_nil] at *
      clear hA0
      go_wp2_with fail
      refine SE.out.mono ?_
      rintro r w4 ⟨rfl, g4⟩
      have G4 := Lib.hid (G3.out.trans g4)
      go_wp2_with fail
      refine (CW.out _ g4).mono ?_
      rintro r w5 ⟨g5, v5, rfl, hb5⟩
      have hall := okL_all HOA.out
      have hb5 := hb5 hall
      have hv5 : wrV ([] : List En) v5 = .tuple #[v5, .int .i64 0] := by rw [wrV, hall]; rfl
      rw [hv5]
      have G5 := Lib.hid (G4.out.trans g5)
      have hrd5 := hb5.reads (wrB_isB (fun e he => List.all_eq_true.1 hall e he))
      obtain ⟨l5, c5, rfl, _, _⟩ := hrd5.form
      have CR3 := wread hrd5 (HT0.out.kept G5.out) (by have := HSZ.out; omega)
      rw [wrB_rd HOA.out hAl] at CR3
      have CR3 := Lib.hid CR3
      have RA5 := Lib.hid (RA3.out.grown (g4.trans g5))
      have hsz5 : (((wrB ([] : List En)).length : Nat) : Int) ≤ ((F.length : Nat) : Int) := by have := HSZ.out; omega
      clear g4 g5 hb5 hall hv5 hrd5 CW SE
      go_wp2_with fail
      refine CR3.out.mono ?_
      rintro r w6 ⟨g6, v6, rfl, e6⟩
      have SE6 := Lib.hid (rsameE (e6.reads' HOA.out) (RA5.out.grown g6))
      have G6 := Lib.hid (G5.out.trans g6)
      clear g6 e6 CR3
      go_wp2_with fail
      refine SE6.out.mono ?_
      rintro r w7 ⟨rfl, g7⟩
      have G7 := Lib.hid (G6.out.trans g7)
      clear g7
      go_wp2
      go_ret
      exact ⟨by first | (simp; done) | (have hz : wrB ([] : List En) = [] := List.eq_nil_of_length_eq_zero (by omega); simp [hz]), G7.out⟩
    | some p2 =>
      go_wp2_with fail
      refine SE.out.mono ?_
      rintro r w4 ⟨rfl, g4⟩
      have G4 := Lib.hid (G3.out.trans g4)
      go_wp2_with fail
      refine (CW.out _ g4).mono ?_
      rintro r w5 ⟨g5, v5, rfl, hb5⟩
      have hall := okL_all HOA.out
      have hb5 := hb5 hall
      have hv5 : wrV A v5 = .tuple #[v5, .int .i64 0] := by rw [wrV, hall]; rfl
      rw [hv5]
      have G5 := Lib.hid (G4.out.trans g5)
      have hrd5 := hb5.reads (wrB_isB (fun e he => List.all_eq_true.1 hall e he))
      obtain ⟨l5, c5, rfl, _, _⟩ := hrd5.form
      have CR3 := wread hrd5 (HT0.out.kept G5.out) (by have := HSZ.out; omega)
      rw [wrB_rd HOA.out hAl] at CR3
      have CR3 := Lib.hid CR3
      have RA5 := Lib.hid (RA3.out.grown (g4.trans g5))
      have hsz5 : (((wrB A).length : Nat) : Int) ≤ ((F.length : Nat) : Int) := by have := HSZ.out; omega
      clear g4 g5 hb5 hall hv5 hrd5 CW SE
      go_wp2_with fail
      refine CR3.out.mono ?_
      rintro r w6 ⟨g6, v6, rfl, e6⟩
      have SE6 := Lib.hid (rsameE (e6.reads' HOA.out) (RA5.out.grown g6))
      have G6 := Lib.hid (G5.out.trans g6)
      clear g6 e6 CR3
      go_wp2_with fail
      refine SE6.out.mono ?_
      rintro r w7 ⟨rfl, g7⟩
      have G7 := Lib.hid (G6.out.trans g7)
      clear g7
      go_wp2
      go_ret
      exact ⟨by first | (simp; done) | (have hz : wrB A = [] := List.eq_nil_of_length_eq_zero (by omega); simp [hz]), G7.out⟩
end Go.Proofs.YtcnojgkolpdomaaDoor
