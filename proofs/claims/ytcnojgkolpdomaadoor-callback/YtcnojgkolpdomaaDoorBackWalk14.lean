/-
  CallBack, the walk, over this seat's translation.
-/
import Derived.Test.YtcnojgkolpdomaaDoorAlive14
import Derived.Test.YtcnojgkolpdomaaDoorRefC3
namespace Go.Proofs.YtcnojgkolpdomaaDoor
open Go.RowKit Go.Lib
set_option maxRecDepth 100000
set_option linter.unusedVariables false

set_option maxHeartbeats 4000000 in
theorem back_walk {w : World} (x : Cl) (hs : smC x) {vb : Value} {F : List Nat} (H : ReadsB w vb F) (HT : FormsAt w) :
    Calls Tryd.prog 5 #[x.val, vb] w fun e w' => e = .returned (.bool true) ∧ w.grownBy w' none := by
  obtain ⟨op, a, b, c⟩ := x
  have k0 := World.grownBy_alloc w (.cells #[.int .i64 op, .int .u64 (a : Nat), .int .u64 (b : Nat), .int .u64 (c : Nat)] 24) none
  have G0 := Lib.hid k0
  have HT0 := Lib.hid HT
  have HS := Lib.hid hs
  have HB := Lib.hid (H.grown k0)
  clear HT hs k0 H
  obtain ⟨ok, hok⟩ : ∃ ok, ok = okC ⟨op, a, b, c⟩ := ⟨_, rfl⟩
  have HOK := Lib.hid hok
  unfold Cl.val
  simp only
  obtain ⟨sl, cp, rfl, hcp⟩ : ∃ sl cp, vb = .slice sl F.length cp ∧ F.length ≤ cp := by
    obtain ⟨sl, cp, h1, h2, _⟩ := HB.out
    exact ⟨sl, cp, h1, h2⟩
  go_enter Tryd.func5, Tryd.ntmps5
  have x0 : (w.alloc (.cells #[.int .i64 op, .int .u64 (a : Nat), .int .u64 (b : Nat), .int .u64 (c : Nat)] 24)).cell? ⟨w.heap.size, 0, none⟩ = some (.int .i64 op) := World.cell?_alloc_new ..
  have x1 : (w.alloc (.cells #[.int .i64 op, .int .u64 (a : Nat), .int .u64 (b : Nat), .int .u64 (c : Nat)] 24)).cell? ⟨w.heap.size, 1, none⟩ = some (.int .u64 (a : Nat)) := World.cell?_alloc_new ..
  have x2 : (w.alloc (.cells #[.int .i64 op, .int .u64 (a : Nat), .int .u64 (b : Nat), .int .u64 (c : Nat)] 24)).cell? ⟨w.heap.size, 2, none⟩ = some (.int .u64 (b : Nat)) := World.cell?_alloc_new ..
  have x3 : (w.alloc (.cells #[.int .i64 op, .int .u64 (a : Nat), .int .u64 (b : Nat), .int .u64 (c : Nat)] 24)).cell? ⟨w.heap.size, 3, none⟩ = some (.int .u64 (c : Nat)) := World.cell?_alloc_new ..
  have hs_x : w.heap.size < (w.alloc (.cells #[.int .i64 op, .int .u64 (a : Nat), .int .u64 (b : Nat), .int .u64 (c : Nat)] 24)).heap.size := by simp
  have AL := Lib.hid (alive14 (HT0.out.kept G0.out))
  go_wp2_with fail
  refine (AL.out).mono ?_
  rintro e w1 ⟨rfl, g1⟩
  replace x0 := (g1.cell_far ⟨w.heap.size, 0, none⟩ hs_x (by simp)).trans x0
  replace x1 := (g1.cell_far ⟨w.heap.size, 1, none⟩ hs_x (by simp)).trans x1
  replace x2 := (g1.cell_far ⟨w.heap.size, 2, none⟩ hs_x (by simp)).trans x2
  replace x3 := (g1.cell_far ⟨w.heap.size, 3, none⟩ hs_x (by simp)).trans x3
  replace hs_x := Nat.lt_of_lt_of_le hs_x g1.size
  replace HB := Lib.hid (HB.out.grown g1)
  have G1 := Lib.hid (G0.out.trans g1)
  have CR0 := Lib.hid (fun (wz : World) (h : w.grownBy wz none) => cright ⟨op, a, b, c⟩ HS.out (HT0.out.kept h))
  unfold Cl.val at CR0
  simp only at CR0
  rw [← hok] at CR0
  clear hok
  cases ok with
  | false =>
    have CB := Lib.hid (cbytes_no ⟨op, a, b, c⟩ HS.out (HT0.out.kept G1.out) HOK.out.symm)
    unfold Cl.val at CB
    simp only at CB
    go_wp2_with fail
    refine (CB.out).mono ?_
    rintro e w2 ⟨rfl, g2⟩
    replace x0 := (g2.cell_far ⟨w.heap.size, 0, none⟩ hs_x (by simp)).trans x0
    replace x1 := (g2.cell_far ⟨w.heap.size, 1, none⟩ hs_x (by simp)).trans x1
    replace x2 := (g2.cell_far ⟨w.heap.size, 2, none⟩ hs_x (by simp)).trans x2
    replace x3 := (g2.cell_far ⟨w.heap.size, 3, none⟩ hs_x (by simp)).trans x3
    replace hs_x := Nat.lt_of_lt_of_le hs_x g2.size
    replace HB := Lib.hid (HB.out.grown g2)
    have G2 := Lib.hid (G1.out.trans g2)
    go_wp2_with fail
    refine (CR0.out _ G2.out).mono ?_
    rintro e w3 ⟨rfl, g3⟩
    replace x0 := (g3.cell_far ⟨w.heap.size, 0, none⟩ hs_x (by simp)).trans x0
    replace x1 := (g3.cell_far ⟨w.heap.size, 1, none⟩ hs_x (by simp)).trans x1
    replace x2 := (g3.cell_far ⟨w.heap.size, 2, none⟩ hs_x (by simp)).trans x2
    replace x3 := (g3.cell_far ⟨w.heap.size, 3, none⟩ hs_x (by simp)).trans x3
    replace hs_x := Nat.lt_of_lt_of_le hs_x g3.size
    replace HB := Lib.hid (HB.out.grown g3)
    have G3 := Lib.hid (G2.out.trans g3)
    by_cases hl : 100 < F.length
    · skip
      have q : (F.length : Int) > 100 := by omega
      go_wp2
      go_ret
      exact ⟨rfl, G3.out⟩
    · skip
      have q : ¬ (F.length : Int) > 100 := by omega
      have q' : (F.length : Int) ≤ 100 := by omega
      have CR := Lib.hid (cread HB.out (HT0.out.kept G3.out))
      cases hcr : cr F with
      | none =>
        have hcv : crV F = .tuple #[.agg #[.int .i64 0, .int .u64 0, .int .u64 0, .int .u64 0], .bool false] := by rw [crV, hcr]; rfl
        rw [hcv] at CR
        go_wp2_with fail
        refine (CR.out).mono ?_
        rintro e w4 ⟨rfl, g4⟩
        replace x0 := (g4.cell_far ⟨w.heap.size, 0, none⟩ hs_x (by simp)).trans x0
        replace x1 := (g4.cell_far ⟨w.heap.size, 1, none⟩ hs_x (by simp)).trans x1
        replace x2 := (g4.cell_far ⟨w.heap.size, 2, none⟩ hs_x (by simp)).trans x2
        replace x3 := (g4.cell_far ⟨w.heap.size, 3, none⟩ hs_x (by simp)).trans x3
        replace hs_x := Nat.lt_of_lt_of_le hs_x g4.size
        replace HB := Lib.hid (HB.out.grown g4)
        have G4 := Lib.hid (G3.out.trans g4)
        have k4 := World.grownBy_alloc w4 (.cells #[.int .i64 0, .int .u64 0, .int .u64 0, .int .u64 0] 24) none
        have hne4_x : w.heap.size ≠ w4.heap.size := by omega
        replace x0 := (k4.cell_far ⟨w.heap.size, 0, none⟩ hs_x (by simp)).trans x0
        replace x1 := (k4.cell_far ⟨w.heap.size, 1, none⟩ hs_x (by simp)).trans x1
        replace x2 := (k4.cell_far ⟨w.heap.size, 2, none⟩ hs_x (by simp)).trans x2
        replace x3 := (k4.cell_far ⟨w.heap.size, 3, none⟩ hs_x (by simp)).trans x3
        replace hs_x := Nat.lt_of_lt_of_le hs_x k4.size
        replace HB := Lib.hid (HB.out.grown k4)
        have G4a := Lib.hid (G4.out.trans k4)
        have d0 : (w4.alloc (.cells #[.int .i64 0, .int .u64 0, .int .u64 0, .int .u64 0] 24)).cell? ⟨w4.heap.size, 0, none⟩ = some (.int .i64 0) := World.cell?_alloc_new ..
        have d1 : (w4.alloc (.cells #[.int .i64 0, .int .u64 0, .int .u64 0, .int .u64 0] 24)).cell? ⟨w4.heap.size, 1, none⟩ = some (.int .u64 0) := World.cell?_alloc_new ..
        have d2 : (w4.alloc (.cells #[.int .i64 0, .int .u64 0, .int .u64 0, .int .u64 0] 24)).cell? ⟨w4.heap.size, 2, none⟩ = some (.int .u64 0) := World.cell?_alloc_new ..
        have d3 : (w4.alloc (.cells #[.int .i64 0, .int .u64 0, .int .u64 0, .int .u64 0] 24)).cell? ⟨w4.heap.size, 3, none⟩ = some (.int .u64 0) := World.cell?_alloc_new ..
        have hs_d : w4.heap.size < (w4.alloc (.cells #[.int .i64 0, .int .u64 0, .int .u64 0, .int .u64 0] 24)).heap.size := by simp
        go_wp2
        go_ret
        exact ⟨rfl, G4a.out⟩
      | some y =>
        have hb3 : isB F := by obtain ⟨_, _, _, _, _, h, _⟩ := HB.out; exact h
        obtain ⟨hy1, hy2, hy3⟩ := cb_cr hb3 hcr
        have hcv : crV F = .tuple #[y.val, .bool true] := by rw [crV, hcr]; rfl
        rw [hcv] at CR
        obtain ⟨dop, da, db, dc⟩ := y
        unfold Cl.val at CR
        simp only at CR
        have HY := Lib.hid (And.intro hy1 (And.intro hy2 hy3))
        clear hy1 hy2 hy3 hcv hcr
        go_wp2_with fail
        refine (CR.out).mono ?_
        rintro e w4 ⟨rfl, g4⟩
        replace x0 := (g4.cell_far ⟨w.heap.size, 0, none⟩ hs_x (by simp)).trans x0
        replace x1 := (g4.cell_far ⟨w.heap.size, 1, none⟩ hs_x (by simp)).trans x1
        replace x2 := (g4.cell_far ⟨w.heap.size, 2, none⟩ hs_x (by simp)).trans x2
        replace x3 := (g4.cell_far ⟨w.heap.size, 3, none⟩ hs_x (by simp)).trans x3
        replace hs_x := Nat.lt_of_lt_of_le hs_x g4.size
        replace HB := Lib.hid (HB.out.grown g4)
        have G4 := Lib.hid (G3.out.trans g4)
        have k4 := World.grownBy_alloc w4 (.cells #[.int .i64 dop, .int .u64 (da : Nat), .int .u64 (db : Nat), .int .u64 (dc : Nat)] 24) none
        have hne4_x : w.heap.size ≠ w4.heap.size := by omega
        replace x0 := (k4.cell_far ⟨w.heap.size, 0, none⟩ hs_x (by simp)).trans x0
        replace x1 := (k4.cell_far ⟨w.heap.size, 1, none⟩ hs_x (by simp)).trans x1
        replace x2 := (k4.cell_far ⟨w.heap.size, 2, none⟩ hs_x (by simp)).trans x2
        replace x3 := (k4.cell_far ⟨w.heap.size, 3, none⟩ hs_x (by simp)).trans x3
        replace hs_x := Nat.lt_of_lt_of_le hs_x k4.size
        replace HB := Lib.hid (HB.out.grown k4)
        have G4a := Lib.hid (G4.out.trans k4)
        have d0 : (w4.alloc (.cells #[.int .i64 dop, .int .u64 (da : Nat), .int .u64 (db : Nat), .int .u64 (dc : Nat)] 24)).cell? ⟨w4.heap.size, 0, none⟩ = some (.int .i64 dop) := World.cell?_alloc_new ..
        have d1 : (w4.alloc (.cells #[.int .i64 dop, .int .u64 (da : Nat), .int .u64 (db : Nat), .int .u64 (dc : Nat)] 24)).cell? ⟨w4.heap.size, 1, none⟩ = some (.int .u64 (da : Nat)) := World.cell?_alloc_new ..
        have d2 : (w4.alloc (.cells #[.int .i64 dop, .int .u64 (da : Nat), .int .u64 (db : Nat), .int .u64 (dc : Nat)] 24)).cell? ⟨w4.heap.size, 2, none⟩ = some (.int .u64 (db : Nat)) := World.cell?_alloc_new ..
        have d3 : (w4.alloc (.cells #[.int .i64 dop, .int .u64 (da : Nat), .int .u64 (db : Nat), .int .u64 (dc : Nat)] 24)).cell? ⟨w4.heap.size, 3, none⟩ = some (.int .u64 (dc : Nat)) := World.cell?_alloc_new ..
        have hs_d : w4.heap.size < (w4.alloc (.cells #[.int .i64 dop, .int .u64 (da : Nat), .int .u64 (db : Nat), .int .u64 (dc : Nat)] 24)).heap.size := by simp
        have CB := Lib.hid (cbytes_ok ⟨dop, da, db, dc⟩ HY.out.2.2 (HT0.out.kept G4a.out) HY.out.2.1)
        unfold Cl.val at CB
        simp only at CB
        go_wp2_with fail
        refine (CB.out).mono ?_
        rintro e w5 ⟨v2, rfl, q2, g5⟩
        replace x0 := (g5.cell_far ⟨w.heap.size, 0, none⟩ hs_x (by simp)).trans x0
        replace x1 := (g5.cell_far ⟨w.heap.size, 1, none⟩ hs_x (by simp)).trans x1
        replace x2 := (g5.cell_far ⟨w.heap.size, 2, none⟩ hs_x (by simp)).trans x2
        replace x3 := (g5.cell_far ⟨w.heap.size, 3, none⟩ hs_x (by simp)).trans x3
        replace d0 := (g5.cell_far ⟨w4.heap.size, 0, none⟩ hs_d (by simp)).trans d0
        replace d1 := (g5.cell_far ⟨w4.heap.size, 1, none⟩ hs_d (by simp)).trans d1
        replace d2 := (g5.cell_far ⟨w4.heap.size, 2, none⟩ hs_d (by simp)).trans d2
        replace d3 := (g5.cell_far ⟨w4.heap.size, 3, none⟩ hs_d (by simp)).trans d3
        replace hs_x := Nat.lt_of_lt_of_le hs_x g5.size
        replace hs_d := Nat.lt_of_lt_of_le hs_d g5.size
        replace HB := Lib.hid (HB.out.grown g5)
        have G5 := Lib.hid (G4a.out.trans g5)
        have hrd := q2.reads (cb_isB HY.out.2.1)
        have SM := Lib.hid (rsameB hrd HB.out)
        rw [HY.out.1] at SM
        simp only [decide_true] at SM
        clear hrd
        go_wp2_with fail
        refine SM.out.mono ?_
        rintro e w9 ⟨rfl, rfl⟩
        go_wp2
        go_ret
        exact ⟨rfl, G5.out⟩
  | true =>
    have CB := Lib.hid (cbytes_ok ⟨op, a, b, c⟩ HS.out (HT0.out.kept G1.out) HOK.out.symm)
    unfold Cl.val at CB
    simp only at CB
    go_wp2_with fail
    refine (CB.out).mono ?_
    rintro e w2 ⟨v1, rfl, q1, g2⟩
    replace x0 := (g2.cell_far ⟨w.heap.size, 0, none⟩ hs_x (by simp)).trans x0
    replace x1 := (g2.cell_far ⟨w.heap.size, 1, none⟩ hs_x (by simp)).trans x1
    replace x2 := (g2.cell_far ⟨w.heap.size, 2, none⟩ hs_x (by simp)).trans x2
    replace x3 := (g2.cell_far ⟨w.heap.size, 3, none⟩ hs_x (by simp)).trans x3
    replace hs_x := Nat.lt_of_lt_of_le hs_x g2.size
    replace HB := Lib.hid (HB.out.grown g2)
    have G2 := Lib.hid (G1.out.trans g2)
    have HR := Lib.hid (q1.reads (cb_isB HOK.out.symm))
    clear q1
    go_wp2_with fail
    refine (CR0.out _ G2.out).mono ?_
    rintro e w3 ⟨rfl, g3⟩
    replace x0 := (g3.cell_far ⟨w.heap.size, 0, none⟩ hs_x (by simp)).trans x0
    replace x1 := (g3.cell_far ⟨w.heap.size, 1, none⟩ hs_x (by simp)).trans x1
    replace x2 := (g3.cell_far ⟨w.heap.size, 2, none⟩ hs_x (by simp)).trans x2
    replace x3 := (g3.cell_far ⟨w.heap.size, 3, none⟩ hs_x (by simp)).trans x3
    replace hs_x := Nat.lt_of_lt_of_le hs_x g3.size
    replace HB := Lib.hid (HB.out.grown g3)
    replace HR := Lib.hid (HR.out.grown g3)
    have G3 := Lib.hid (G2.out.trans g3)
    have CX := cread HR.out (HT0.out.kept G3.out)
    have hcv : crV (cb ⟨op, a, b, c⟩) = .tuple #[.agg #[.int .i64 op, .int .u64 (a : Nat), .int .u64 (b : Nat), .int .u64 (c : Nat)], .bool true] := by rw [crV, cr_cb HOK.out.symm HS.out]; rfl
    rw [hcv] at CX
    have CX := Lib.hid CX
    clear hcv
    go_wp2_with fail
    refine (CX.out).mono ?_
    rintro e w4 ⟨rfl, g4⟩
    replace x0 := (g4.cell_far ⟨w.heap.size, 0, none⟩ hs_x (by simp)).trans x0
    replace x1 := (g4.cell_far ⟨w.heap.size, 1, none⟩ hs_x (by simp)).trans x1
    replace x2 := (g4.cell_far ⟨w.heap.size, 2, none⟩ hs_x (by simp)).trans x2
    replace x3 := (g4.cell_far ⟨w.heap.size, 3, none⟩ hs_x (by simp)).trans x3
    replace hs_x := Nat.lt_of_lt_of_le hs_x g4.size
    replace HB := Lib.hid (HB.out.grown g4)
    replace HR := Lib.hid (HR.out.grown g4)
    have G4 := Lib.hid (G3.out.trans g4)
    have k4 := World.grownBy_alloc w4 (.cells #[.int .i64 op, .int .u64 (a : Nat), .int .u64 (b : Nat), .int .u64 (c : Nat)] 24) none
    have hne4_x : w.heap.size ≠ w4.heap.size := by omega
    replace x0 := (k4.cell_far ⟨w.heap.size, 0, none⟩ hs_x (by simp)).trans x0
    replace x1 := (k4.cell_far ⟨w.heap.size, 1, none⟩ hs_x (by simp)).trans x1
    replace x2 := (k4.cell_far ⟨w.heap.size, 2, none⟩ hs_x (by simp)).trans x2
    replace x3 := (k4.cell_far ⟨w.heap.size, 3, none⟩ hs_x (by simp)).trans x3
    replace hs_x := Nat.lt_of_lt_of_le hs_x k4.size
    replace HB := Lib.hid (HB.out.grown k4)
    replace HR := Lib.hid (HR.out.grown k4)
    have G4a := Lib.hid (G4.out.trans k4)
    have e0 : (w4.alloc (.cells #[.int .i64 op, .int .u64 (a : Nat), .int .u64 (b : Nat), .int .u64 (c : Nat)] 24)).cell? ⟨w4.heap.size, 0, none⟩ = some (.int .i64 op) := World.cell?_alloc_new ..
    have e1 : (w4.alloc (.cells #[.int .i64 op, .int .u64 (a : Nat), .int .u64 (b : Nat), .int .u64 (c : Nat)] 24)).cell? ⟨w4.heap.size, 1, none⟩ = some (.int .u64 (a : Nat)) := World.cell?_alloc_new ..
    have e2 : (w4.alloc (.cells #[.int .i64 op, .int .u64 (a : Nat), .int .u64 (b : Nat), .int .u64 (c : Nat)] 24)).cell? ⟨w4.heap.size, 2, none⟩ = some (.int .u64 (b : Nat)) := World.cell?_alloc_new ..
    have e3 : (w4.alloc (.cells #[.int .i64 op, .int .u64 (a : Nat), .int .u64 (b : Nat), .int .u64 (c : Nat)] 24)).cell? ⟨w4.heap.size, 3, none⟩ = some (.int .u64 (c : Nat)) := World.cell?_alloc_new ..
    have hs_e : w4.heap.size < (w4.alloc (.cells #[.int .i64 op, .int .u64 (a : Nat), .int .u64 (b : Nat), .int .u64 (c : Nat)] 24)).heap.size := by simp
    by_cases hl : 100 < F.length
    · skip
      have q : (F.length : Int) > 100 := by omega
      go_wp2
      go_ret
      exact ⟨rfl, G4a.out⟩
    · skip
      have q : ¬ (F.length : Int) > 100 := by omega
      have q' : (F.length : Int) ≤ 100 := by omega
      have CR := Lib.hid (cread HB.out (HT0.out.kept G4a.out))
      cases hcr : cr F with
      | none =>
        have hcv : crV F = .tuple #[.agg #[.int .i64 0, .int .u64 0, .int .u64 0, .int .u64 0], .bool false] := by rw [crV, hcr]; rfl
        rw [hcv] at CR
        go_wp2_with fail
        refine (CR.out).mono ?_
        rintro e w5 ⟨rfl, g5⟩
        replace x0 := (g5.cell_far ⟨w.heap.size, 0, none⟩ hs_x (by simp)).trans x0
        replace x1 := (g5.cell_far ⟨w.heap.size, 1, none⟩ hs_x (by simp)).trans x1
        replace x2 := (g5.cell_far ⟨w.heap.size, 2, none⟩ hs_x (by simp)).trans x2
        replace x3 := (g5.cell_far ⟨w.heap.size, 3, none⟩ hs_x (by simp)).trans x3
        replace e0 := (g5.cell_far ⟨w4.heap.size, 0, none⟩ hs_e (by simp)).trans e0
        replace e1 := (g5.cell_far ⟨w4.heap.size, 1, none⟩ hs_e (by simp)).trans e1
        replace e2 := (g5.cell_far ⟨w4.heap.size, 2, none⟩ hs_e (by simp)).trans e2
        replace e3 := (g5.cell_far ⟨w4.heap.size, 3, none⟩ hs_e (by simp)).trans e3
        replace hs_x := Nat.lt_of_lt_of_le hs_x g5.size
        replace hs_e := Nat.lt_of_lt_of_le hs_e g5.size
        replace HB := Lib.hid (HB.out.grown g5)
        replace HR := Lib.hid (HR.out.grown g5)
        have G5 := Lib.hid (G4a.out.trans g5)
        have k5 := World.grownBy_alloc w5 (.cells #[.int .i64 0, .int .u64 0, .int .u64 0, .int .u64 0] 24) none
        have hne5_x : w.heap.size ≠ w5.heap.size := by omega
        have hne5_e : w4.heap.size ≠ w5.heap.size := by omega
        replace x0 := (k5.cell_far ⟨w.heap.size, 0, none⟩ hs_x (by simp)).trans x0
        replace x1 := (k5.cell_far ⟨w.heap.size, 1, none⟩ hs_x (by simp)).trans x1
        replace x2 := (k5.cell_far ⟨w.heap.size, 2, none⟩ hs_x (by simp)).trans x2
        replace x3 := (k5.cell_far ⟨w.heap.size, 3, none⟩ hs_x (by simp)).trans x3
        replace e0 := (k5.cell_far ⟨w4.heap.size, 0, none⟩ hs_e (by simp)).trans e0
        replace e1 := (k5.cell_far ⟨w4.heap.size, 1, none⟩ hs_e (by simp)).trans e1
        replace e2 := (k5.cell_far ⟨w4.heap.size, 2, none⟩ hs_e (by simp)).trans e2
        replace e3 := (k5.cell_far ⟨w4.heap.size, 3, none⟩ hs_e (by simp)).trans e3
        replace hs_x := Nat.lt_of_lt_of_le hs_x k5.size
        replace hs_e := Nat.lt_of_lt_of_le hs_e k5.size
        replace HB := Lib.hid (HB.out.grown k5)
        replace HR := Lib.hid (HR.out.grown k5)
        have G5a := Lib.hid (G5.out.trans k5)
        have d0 : (w5.alloc (.cells #[.int .i64 0, .int .u64 0, .int .u64 0, .int .u64 0] 24)).cell? ⟨w5.heap.size, 0, none⟩ = some (.int .i64 0) := World.cell?_alloc_new ..
        have d1 : (w5.alloc (.cells #[.int .i64 0, .int .u64 0, .int .u64 0, .int .u64 0] 24)).cell? ⟨w5.heap.size, 1, none⟩ = some (.int .u64 0) := World.cell?_alloc_new ..
        have d2 : (w5.alloc (.cells #[.int .i64 0, .int .u64 0, .int .u64 0, .int .u64 0] 24)).cell? ⟨w5.heap.size, 2, none⟩ = some (.int .u64 0) := World.cell?_alloc_new ..
        have d3 : (w5.alloc (.cells #[.int .i64 0, .int .u64 0, .int .u64 0, .int .u64 0] 24)).cell? ⟨w5.heap.size, 3, none⟩ = some (.int .u64 0) := World.cell?_alloc_new ..
        have hs_d : w5.heap.size < (w5.alloc (.cells #[.int .i64 0, .int .u64 0, .int .u64 0, .int .u64 0] 24)).heap.size := by simp
        go_wp2
        go_ret
        exact ⟨rfl, G5a.out⟩
      | some y =>
        have hb3 : isB F := by obtain ⟨_, _, _, _, _, h, _⟩ := HB.out; exact h
        obtain ⟨hy1, hy2, hy3⟩ := cb_cr hb3 hcr
        have hcv : crV F = .tuple #[y.val, .bool true] := by rw [crV, hcr]; rfl
        rw [hcv] at CR
        obtain ⟨dop, da, db, dc⟩ := y
        unfold Cl.val at CR
        simp only at CR
        have HY := Lib.hid (And.intro hy1 (And.intro hy2 hy3))
        clear hy1 hy2 hy3 hcv hcr
        go_wp2_with fail
        refine (CR.out).mono ?_
        rintro e w5 ⟨rfl, g5⟩
        replace x0 := (g5.cell_far ⟨w.heap.size, 0, none⟩ hs_x (by simp)).trans x0
        replace x1 := (g5.cell_far ⟨w.heap.size, 1, none⟩ hs_x (by simp)).trans x1
        replace x2 := (g5.cell_far ⟨w.heap.size, 2, none⟩ hs_x (by simp)).trans x2
        replace x3 := (g5.cell_far ⟨w.heap.size, 3, none⟩ hs_x (by simp)).trans x3
        replace e0 := (g5.cell_far ⟨w4.heap.size, 0, none⟩ hs_e (by simp)).trans e0
        replace e1 := (g5.cell_far ⟨w4.heap.size, 1, none⟩ hs_e (by simp)).trans e1
        replace e2 := (g5.cell_far ⟨w4.heap.size, 2, none⟩ hs_e (by simp)).trans e2
        replace e3 := (g5.cell_far ⟨w4.heap.size, 3, none⟩ hs_e (by simp)).trans e3
        replace hs_x := Nat.lt_of_lt_of_le hs_x g5.size
        replace hs_e := Nat.lt_of_lt_of_le hs_e g5.size
        replace HB := Lib.hid (HB.out.grown g5)
        replace HR := Lib.hid (HR.out.grown g5)
        have G5 := Lib.hid (G4a.out.trans g5)
        have k5 := World.grownBy_alloc w5 (.cells #[.int .i64 dop, .int .u64 (da : Nat), .int .u64 (db : Nat), .int .u64 (dc : Nat)] 24) none
        have hne5_x : w.heap.size ≠ w5.heap.size := by omega
        have hne5_e : w4.heap.size ≠ w5.heap.size := by omega
        replace x0 := (k5.cell_far ⟨w.heap.size, 0, none⟩ hs_x (by simp)).trans x0
        replace x1 := (k5.cell_far ⟨w.heap.size, 1, none⟩ hs_x (by simp)).trans x1
        replace x2 := (k5.cell_far ⟨w.heap.size, 2, none⟩ hs_x (by simp)).trans x2
        replace x3 := (k5.cell_far ⟨w.heap.size, 3, none⟩ hs_x (by simp)).trans x3
        replace e0 := (k5.cell_far ⟨w4.heap.size, 0, none⟩ hs_e (by simp)).trans e0
        replace e1 := (k5.cell_far ⟨w4.heap.size, 1, none⟩ hs_e (by simp)).trans e1
        replace e2 := (k5.cell_far ⟨w4.heap.size, 2, none⟩ hs_e (by simp)).trans e2
        replace e3 := (k5.cell_far ⟨w4.heap.size, 3, none⟩ hs_e (by simp)).trans e3
        replace hs_x := Nat.lt_of_lt_of_le hs_x k5.size
        replace hs_e := Nat.lt_of_lt_of_le hs_e k5.size
        replace HB := Lib.hid (HB.out.grown k5)
        replace HR := Lib.hid (HR.out.grown k5)
        have G5a := Lib.hid (G5.out.trans k5)
        have d0 : (w5.alloc (.cells #[.int .i64 dop, .int .u64 (da : Nat), .int .u64 (db : Nat), .int .u64 (dc : Nat)] 24)).cell? ⟨w5.heap.size, 0, none⟩ = some (.int .i64 dop) := World.cell?_alloc_new ..
        have d1 : (w5.alloc (.cells #[.int .i64 dop, .int .u64 (da : Nat), .int .u64 (db : Nat), .int .u64 (dc : Nat)] 24)).cell? ⟨w5.heap.size, 1, none⟩ = some (.int .u64 (da : Nat)) := World.cell?_alloc_new ..
        have d2 : (w5.alloc (.cells #[.int .i64 dop, .int .u64 (da : Nat), .int .u64 (db : Nat), .int .u64 (dc : Nat)] 24)).cell? ⟨w5.heap.size, 2, none⟩ = some (.int .u64 (db : Nat)) := World.cell?_alloc_new ..
        have d3 : (w5.alloc (.cells #[.int .i64 dop, .int .u64 (da : Nat), .int .u64 (db : Nat), .int .u64 (dc : Nat)] 24)).cell? ⟨w5.heap.size, 3, none⟩ = some (.int .u64 (dc : Nat)) := World.cell?_alloc_new ..
        have hs_d : w5.heap.size < (w5.alloc (.cells #[.int .i64 dop, .int .u64 (da : Nat), .int .u64 (db : Nat), .int .u64 (dc : Nat)] 24)).heap.size := by simp
        have CB := Lib.hid (cbytes_ok ⟨dop, da, db, dc⟩ HY.out.2.2 (HT0.out.kept G5a.out) HY.out.2.1)
        unfold Cl.val at CB
        simp only at CB
        go_wp2_with fail
        refine (CB.out).mono ?_
        rintro e w6 ⟨v2, rfl, q2, g6⟩
        replace x0 := (g6.cell_far ⟨w.heap.size, 0, none⟩ hs_x (by simp)).trans x0
        replace x1 := (g6.cell_far ⟨w.heap.size, 1, none⟩ hs_x (by simp)).trans x1
        replace x2 := (g6.cell_far ⟨w.heap.size, 2, none⟩ hs_x (by simp)).trans x2
        replace x3 := (g6.cell_far ⟨w.heap.size, 3, none⟩ hs_x (by simp)).trans x3
        replace e0 := (g6.cell_far ⟨w4.heap.size, 0, none⟩ hs_e (by simp)).trans e0
        replace e1 := (g6.cell_far ⟨w4.heap.size, 1, none⟩ hs_e (by simp)).trans e1
        replace e2 := (g6.cell_far ⟨w4.heap.size, 2, none⟩ hs_e (by simp)).trans e2
        replace e3 := (g6.cell_far ⟨w4.heap.size, 3, none⟩ hs_e (by simp)).trans e3
        replace d0 := (g6.cell_far ⟨w5.heap.size, 0, none⟩ hs_d (by simp)).trans d0
        replace d1 := (g6.cell_far ⟨w5.heap.size, 1, none⟩ hs_d (by simp)).trans d1
        replace d2 := (g6.cell_far ⟨w5.heap.size, 2, none⟩ hs_d (by simp)).trans d2
        replace d3 := (g6.cell_far ⟨w5.heap.size, 3, none⟩ hs_d (by simp)).trans d3
        replace hs_x := Nat.lt_of_lt_of_le hs_x g6.size
        replace hs_e := Nat.lt_of_lt_of_le hs_e g6.size
        replace hs_d := Nat.lt_of_lt_of_le hs_d g6.size
        replace HB := Lib.hid (HB.out.grown g6)
        replace HR := Lib.hid (HR.out.grown g6)
        have G6 := Lib.hid (G5a.out.trans g6)
        have hrd := q2.reads (cb_isB HY.out.2.1)
        have SM := Lib.hid (rsameB hrd HB.out)
        rw [HY.out.1] at SM
        simp only [decide_true] at SM
        clear hrd
        go_wp2_with fail
        refine SM.out.mono ?_
        rintro e w9 ⟨rfl, rfl⟩
        go_wp2
        go_ret
        exact ⟨rfl, G6.out⟩
theorem back_law (x : Cl) (vb : Value) (F : List Nat) (w : World) (HT : FormsAt w) (hs : smC x) (H : ReadsB w vb F) :
    Calls Tryd.prog 5 #[x.val, vb] w fun e w' => e = .returned (.bool true) ∧ w.grownBy w' none := back_walk x hs H HT
end Go.Proofs.YtcnojgkolpdomaaDoor
