/-
  CallReads, the walk, over this seat's translation.
-/
import Derived.Test.YtcnojgkolpdomaaDoorAlive14
import Derived.Test.YtcnojgkolpdomaaDoorRefC3
namespace Go.Proofs.YtcnojgkolpdomaaDoor
open Go.RowKit Go.Lib
set_option maxRecDepth 100000
set_option linter.unusedVariables false

set_option maxHeartbeats 4000000 in
theorem reads_walk {w : World} (x : Cl) (hs : smC x) {vb : Value} {F : List Nat} (H : ReadsB w vb F) (HT : FormsAt w) :
    Calls Tryd.prog 4 #[x.val, vb] w fun e w' => e = .returned (.bool true) ∧ w.grownBy w' none := by
  obtain ⟨op, a, b, c⟩ := x
  have k0 := World.grownBy_alloc w (.cells #[.int .i64 op, .int .u64 (a : Nat), .int .u64 (b : Nat), .int .u64 (c : Nat)] 24) none
  have G0 := Lib.hid k0
  have HT0 := Lib.hid HT
  have HS := Lib.hid hs
  have HB := Lib.hid (H.grown k0)
  clear HT hs k0 H
  obtain ⟨ok, hok⟩ : ∃ ok, ok = okC ⟨op, a, b, c⟩ := ⟨_, rfl⟩
  have HOK := Lib.hid hok
  unfold Cl.val
  simp only
  obtain ⟨sl, cp, rfl, hcp⟩ : ∃ sl cp, vb = .slice sl F.length cp ∧ F.length ≤ cp := by
    obtain ⟨sl, cp, h1, h2, _⟩ := HB.out
    exact ⟨sl, cp, h1, h2⟩
  go_enter Tryd.func4, Tryd.ntmps4
  have x0 : (w.alloc (.cells #[.int .i64 op, .int .u64 (a : Nat), .int .u64 (b : Nat), .int .u64 (c : Nat)] 24)).cell? ⟨w.heap.size, 0, none⟩ = some (.int .i64 op) := World.cell?_alloc_new ..
  have x1 : (w.alloc (.cells #[.int .i64 op, .int .u64 (a : Nat), .int .u64 (b : Nat), .int .u64 (c : Nat)] 24)).cell? ⟨w.heap.size, 1, none⟩ = some (.int .u64 (a : Nat)) := World.cell?_alloc_new ..
  have x2 : (w.alloc (.cells #[.int .i64 op, .int .u64 (a : Nat), .int .u64 (b : Nat), .int .u64 (c : Nat)] 24)).cell? ⟨w.heap.size, 2, none⟩ = some (.int .u64 (b : Nat)) := World.cell?_alloc_new ..
  have x3 : (w.alloc (.cells #[.int .i64 op, .int .u64 (a : Nat), .int .u64 (b : Nat), .int .u64 (c : Nat)] 24)).cell? ⟨w.heap.size, 3, none⟩ = some (.int .u64 (c : Nat)) := World.cell?_alloc_new ..
  have hs_x : w.heap.size < (w.alloc (.cells #[.int .i64 op, .int .u64 (a : Nat), .int .u64 (b : Nat), .int .u64 (c : Nat)] 24)).heap.size := by simp
  have AL := Lib.hid (alive14 (HT0.out.kept G0.out))
  go_wp2_with fail
  refine (AL.out).mono ?_
  rintro e w1 ⟨rfl, g1⟩
  replace x0 := (g1.cell_far ⟨w.heap.size, 0, none⟩ hs_x (by simp)).trans x0
  replace x1 := (g1.cell_far ⟨w.heap.size, 1, none⟩ hs_x (by simp)).trans x1
  replace x2 := (g1.cell_far ⟨w.heap.size, 2, none⟩ hs_x (by simp)).trans x2
  replace x3 := (g1.cell_far ⟨w.heap.size, 3, none⟩ hs_x (by simp)).trans x3
  replace hs_x := Nat.lt_of_lt_of_le hs_x g1.size
  replace HB := Lib.hid (HB.out.grown g1)
  have G1 := Lib.hid (G0.out.trans g1)
  have CR0 := Lib.hid (fun (wz : World) => rright wz ⟨op, a, b, c⟩ HS.out)
  unfold Cl.val at CR0
  simp only at CR0
  rw [← hok] at CR0
  clear hok
  cases ok with
  | false =>
    have CB := Lib.hid (cbytes_no ⟨op, a, b, c⟩ HS.out (HT0.out.kept G1.out) HOK.out.symm)
    unfold Cl.val at CB
    simp only at CB
    go_wp2_with fail
    refine (CB.out).mono ?_
    rintro e w2 ⟨rfl, g2⟩
    replace x0 := (g2.cell_far ⟨w.heap.size, 0, none⟩ hs_x (by simp)).trans x0
    replace x1 := (g2.cell_far ⟨w.heap.size, 1, none⟩ hs_x (by simp)).trans x1
    replace x2 := (g2.cell_far ⟨w.heap.size, 2, none⟩ hs_x (by simp)).trans x2
    replace x3 := (g2.cell_far ⟨w.heap.size, 3, none⟩ hs_x (by simp)).trans x3
    replace hs_x := Nat.lt_of_lt_of_le hs_x g2.size
    replace HB := Lib.hid (HB.out.grown g2)
    have G2 := Lib.hid (G1.out.trans g2)
    go_wp2_with fail
    refine (CR0.out _).mono ?_
    rintro e w3 ⟨rfl, g3⟩
    replace x0 := (g3.cell_far ⟨w.heap.size, 0, none⟩ hs_x (by simp)).trans x0
    replace x1 := (g3.cell_far ⟨w.heap.size, 1, none⟩ hs_x (by simp)).trans x1
    replace x2 := (g3.cell_far ⟨w.heap.size, 2, none⟩ hs_x (by simp)).trans x2
    replace x3 := (g3.cell_far ⟨w.heap.size, 3, none⟩ hs_x (by simp)).trans x3
    replace hs_x := Nat.lt_of_lt_of_le hs_x g3.size
    replace HB := Lib.hid (HB.out.grown g3)
    have G3 := Lib.hid (G2.out.trans g3)
    have CR := cread HB.out (HT0.out.kept G3.out)
    obtain ⟨⟨dop, da, db, dc⟩, dk, hcv⟩ : ∃ (y : Cl) (k : Bool), crV F = .tuple #[y.val, .bool k] := ⟨_, _, rfl⟩
    unfold Cl.val at hcv
    simp only at hcv
    have HCV := Lib.hid hcv
    rw [hcv] at CR
    have CR := Lib.hid CR
    clear hcv
    go_wp2_with fail
    refine (CR.out).mono ?_
    rintro e w4 ⟨rfl, g4⟩
    replace x0 := (g4.cell_far ⟨w.heap.size, 0, none⟩ hs_x (by simp)).trans x0
    replace x1 := (g4.cell_far ⟨w.heap.size, 1, none⟩ hs_x (by simp)).trans x1
    replace x2 := (g4.cell_far ⟨w.heap.size, 2, none⟩ hs_x (by simp)).trans x2
    replace x3 := (g4.cell_far ⟨w.heap.size, 3, none⟩ hs_x (by simp)).trans x3
    replace hs_x := Nat.lt_of_lt_of_le hs_x g4.size
    replace HB := Lib.hid (HB.out.grown g4)
    have G4 := Lib.hid (G3.out.trans g4)
    have k4 := World.grownBy_alloc w4 (.cells #[.int .i64 dop, .int .u64 (da : Nat), .int .u64 (db : Nat), .int .u64 (dc : Nat)] 24) none
    have hne4_x : w.heap.size ≠ w4.heap.size := by omega
    replace x0 := (k4.cell_far ⟨w.heap.size, 0, none⟩ hs_x (by simp)).trans x0
    replace x1 := (k4.cell_far ⟨w.heap.size, 1, none⟩ hs_x (by simp)).trans x1
    replace x2 := (k4.cell_far ⟨w.heap.size, 2, none⟩ hs_x (by simp)).trans x2
    replace x3 := (k4.cell_far ⟨w.heap.size, 3, none⟩ hs_x (by simp)).trans x3
    replace hs_x := Nat.lt_of_lt_of_le hs_x k4.size
    replace HB := Lib.hid (HB.out.grown k4)
    have G4a := Lib.hid (G4.out.trans k4)
    have d0 : (w4.alloc (.cells #[.int .i64 dop, .int .u64 (da : Nat), .int .u64 (db : Nat), .int .u64 (dc : Nat)] 24)).cell? ⟨w4.heap.size, 0, none⟩ = some (.int .i64 dop) := World.cell?_alloc_new ..
    have d1 : (w4.alloc (.cells #[.int .i64 dop, .int .u64 (da : Nat), .int .u64 (db : Nat), .int .u64 (dc : Nat)] 24)).cell? ⟨w4.heap.size, 1, none⟩ = some (.int .u64 (da : Nat)) := World.cell?_alloc_new ..
    have d2 : (w4.alloc (.cells #[.int .i64 dop, .int .u64 (da : Nat), .int .u64 (db : Nat), .int .u64 (dc : Nat)] 24)).cell? ⟨w4.heap.size, 2, none⟩ = some (.int .u64 (db : Nat)) := World.cell?_alloc_new ..
    have d3 : (w4.alloc (.cells #[.int .i64 dop, .int .u64 (da : Nat), .int .u64 (db : Nat), .int .u64 (dc : Nat)] 24)).cell? ⟨w4.heap.size, 3, none⟩ = some (.int .u64 (dc : Nat)) := World.cell?_alloc_new ..
    have hs_d : w4.heap.size < (w4.alloc (.cells #[.int .i64 dop, .int .u64 (da : Nat), .int .u64 (db : Nat), .int .u64 (dc : Nat)] 24)).heap.size := by simp
    have CS := rread HB.out
    rw [HCV.out] at CS
    have CS := Lib.hid CS
    go_wp2_with fail
    refine (CS.out).mono ?_
    rintro e w5 ⟨rfl, g5⟩
    replace x0 := (g5.cell_far ⟨w.heap.size, 0, none⟩ hs_x (by simp)).trans x0
    replace x1 := (g5.cell_far ⟨w.heap.size, 1, none⟩ hs_x (by simp)).trans x1
    replace x2 := (g5.cell_far ⟨w.heap.size, 2, none⟩ hs_x (by simp)).trans x2
    replace x3 := (g5.cell_far ⟨w.heap.size, 3, none⟩ hs_x (by simp)).trans x3
    replace d0 := (g5.cell_far ⟨w4.heap.size, 0, none⟩ hs_d (by simp)).trans d0
    replace d1 := (g5.cell_far ⟨w4.heap.size, 1, none⟩ hs_d (by simp)).trans d1
    replace d2 := (g5.cell_far ⟨w4.heap.size, 2, none⟩ hs_d (by simp)).trans d2
    replace d3 := (g5.cell_far ⟨w4.heap.size, 3, none⟩ hs_d (by simp)).trans d3
    replace hs_x := Nat.lt_of_lt_of_le hs_x g5.size
    replace hs_d := Nat.lt_of_lt_of_le hs_d g5.size
    replace HB := Lib.hid (HB.out.grown g5)
    have G5 := Lib.hid (G4a.out.trans g5)
    have k5 := World.grownBy_alloc w5 (.cells #[.int .i64 dop, .int .u64 (da : Nat), .int .u64 (db : Nat), .int .u64 (dc : Nat)] 24) none
    have hne5_x : w.heap.size ≠ w5.heap.size := by omega
    have hne5_d : w4.heap.size ≠ w5.heap.size := by omega
    replace x0 := (k5.cell_far ⟨w.heap.size, 0, none⟩ hs_x (by simp)).trans x0
    replace x1 := (k5.cell_far ⟨w.heap.size, 1, none⟩ hs_x (by simp)).trans x1
    replace x2 := (k5.cell_far ⟨w.heap.size, 2, none⟩ hs_x (by simp)).trans x2
    replace x3 := (k5.cell_far ⟨w.heap.size, 3, none⟩ hs_x (by simp)).trans x3
    replace d0 := (k5.cell_far ⟨w4.heap.size, 0, none⟩ hs_d (by simp)).trans d0
    replace d1 := (k5.cell_far ⟨w4.heap.size, 1, none⟩ hs_d (by simp)).trans d1
    replace d2 := (k5.cell_far ⟨w4.heap.size, 2, none⟩ hs_d (by simp)).trans d2
    replace d3 := (k5.cell_far ⟨w4.heap.size, 3, none⟩ hs_d (by simp)).trans d3
    replace hs_x := Nat.lt_of_lt_of_le hs_x k5.size
    replace hs_d := Nat.lt_of_lt_of_le hs_d k5.size
    replace HB := Lib.hid (HB.out.grown k5)
    have G5a := Lib.hid (G5.out.trans k5)
    have e0 : (w5.alloc (.cells #[.int .i64 dop, .int .u64 (da : Nat), .int .u64 (db : Nat), .int .u64 (dc : Nat)] 24)).cell? ⟨w5.heap.size, 0, none⟩ = some (.int .i64 dop) := World.cell?_alloc_new ..
    have e1 : (w5.alloc (.cells #[.int .i64 dop, .int .u64 (da : Nat), .int .u64 (db : Nat), .int .u64 (dc : Nat)] 24)).cell? ⟨w5.heap.size, 1, none⟩ = some (.int .u64 (da : Nat)) := World.cell?_alloc_new ..
    have e2 : (w5.alloc (.cells #[.int .i64 dop, .int .u64 (da : Nat), .int .u64 (db : Nat), .int .u64 (dc : Nat)] 24)).cell? ⟨w5.heap.size, 2, none⟩ = some (.int .u64 (db : Nat)) := World.cell?_alloc_new ..
    have e3 : (w5.alloc (.cells #[.int .i64 dop, .int .u64 (da : Nat), .int .u64 (db : Nat), .int .u64 (dc : Nat)] 24)).cell? ⟨w5.heap.size, 3, none⟩ = some (.int .u64 (dc : Nat)) := World.cell?_alloc_new ..
    have hs_e : w5.heap.size < (w5.alloc (.cells #[.int .i64 dop, .int .u64 (da : Nat), .int .u64 (db : Nat), .int .u64 (dc : Nat)] 24)).heap.size := by simp
    cases dk
    · go_wp2
      go_ret
      exact ⟨rfl, G5a.out⟩
    · go_wp2
      go_ret
      exact ⟨rfl, G5a.out⟩
  | true =>
    have CB := Lib.hid (cbytes_ok ⟨op, a, b, c⟩ HS.out (HT0.out.kept G1.out) HOK.out.symm)
    unfold Cl.val at CB
    simp only at CB
    go_wp2_with fail
    refine (CB.out).mono ?_
    rintro e w2 ⟨v1, rfl, q1, g2⟩
    replace x0 := (g2.cell_far ⟨w.heap.size, 0, none⟩ hs_x (by simp)).trans x0
    replace x1 := (g2.cell_far ⟨w.heap.size, 1, none⟩ hs_x (by simp)).trans x1
    replace x2 := (g2.cell_far ⟨w.heap.size, 2, none⟩ hs_x (by simp)).trans x2
    replace x3 := (g2.cell_far ⟨w.heap.size, 3, none⟩ hs_x (by simp)).trans x3
    replace hs_x := Nat.lt_of_lt_of_le hs_x g2.size
    replace HB := Lib.hid (HB.out.grown g2)
    have G2 := Lib.hid (G1.out.trans g2)
    have HR := Lib.hid (q1.reads (cb_isB HOK.out.symm))
    obtain ⟨l1, c1, rfl, _⟩ := HR.out
    clear q1
    go_wp2_with fail
    refine (CR0.out _).mono ?_
    rintro e w3 ⟨rfl, g3⟩
    replace x0 := (g3.cell_far ⟨w.heap.size, 0, none⟩ hs_x (by simp)).trans x0
    replace x1 := (g3.cell_far ⟨w.heap.size, 1, none⟩ hs_x (by simp)).trans x1
    replace x2 := (g3.cell_far ⟨w.heap.size, 2, none⟩ hs_x (by simp)).trans x2
    replace x3 := (g3.cell_far ⟨w.heap.size, 3, none⟩ hs_x (by simp)).trans x3
    replace hs_x := Nat.lt_of_lt_of_le hs_x g3.size
    replace HB := Lib.hid (HB.out.grown g3)
    replace HR := Lib.hid (HR.out.grown g3)
    have G3 := Lib.hid (G2.out.trans g3)
    have CB2 := Lib.hid (fun (wz : World) => rbytes wz ⟨op, a, b, c⟩ HS.out HOK.out.symm)
    unfold Cl.val at CB2
    simp only at CB2
    go_wp2_with fail
    refine (CB2.out _).mono ?_
    rintro e w4 ⟨v2, rfl, q2, g4⟩
    replace x0 := (g4.cell_far ⟨w.heap.size, 0, none⟩ hs_x (by simp)).trans x0
    replace x1 := (g4.cell_far ⟨w.heap.size, 1, none⟩ hs_x (by simp)).trans x1
    replace x2 := (g4.cell_far ⟨w.heap.size, 2, none⟩ hs_x (by simp)).trans x2
    replace x3 := (g4.cell_far ⟨w.heap.size, 3, none⟩ hs_x (by simp)).trans x3
    replace hs_x := Nat.lt_of_lt_of_le hs_x g4.size
    replace HB := Lib.hid (HB.out.grown g4)
    replace HR := Lib.hid (HR.out.grown g4)
    have G4 := Lib.hid (G3.out.trans g4)
    have SM := Lib.hid (rsameB HR.out (q2.reads (cb_isB HOK.out.symm)))
    simp only [decide_true] at SM
    clear q2
    go_wp2_with fail
    refine SM.out.mono ?_
    rintro e w9 ⟨rfl, rfl⟩
    have CR := cread HB.out (HT0.out.kept G4.out)
    obtain ⟨⟨dop, da, db, dc⟩, dk, hcv⟩ : ∃ (y : Cl) (k : Bool), crV F = .tuple #[y.val, .bool k] := ⟨_, _, rfl⟩
    unfold Cl.val at hcv
    simp only at hcv
    have HCV := Lib.hid hcv
    rw [hcv] at CR
    have CR := Lib.hid CR
    clear hcv
    go_wp2_with fail
    refine (CR.out).mono ?_
    rintro e w5 ⟨rfl, g5⟩
    replace x0 := (g5.cell_far ⟨w.heap.size, 0, none⟩ hs_x (by simp)).trans x0
    replace x1 := (g5.cell_far ⟨w.heap.size, 1, none⟩ hs_x (by simp)).trans x1
    replace x2 := (g5.cell_far ⟨w.heap.size, 2, none⟩ hs_x (by simp)).trans x2
    replace x3 := (g5.cell_far ⟨w.heap.size, 3, none⟩ hs_x (by simp)).trans x3
    replace hs_x := Nat.lt_of_lt_of_le hs_x g5.size
    replace HB := Lib.hid (HB.out.grown g5)
    replace HR := Lib.hid (HR.out.grown g5)
    have G5 := Lib.hid (G4.out.trans g5)
    have k5 := World.grownBy_alloc w5 (.cells #[.int .i64 dop, .int .u64 (da : Nat), .int .u64 (db : Nat), .int .u64 (dc : Nat)] 24) none
    have hne5_x : w.heap.size ≠ w5.heap.size := by omega
    replace x0 := (k5.cell_far ⟨w.heap.size, 0, none⟩ hs_x (by simp)).trans x0
    replace x1 := (k5.cell_far ⟨w.heap.size, 1, none⟩ hs_x (by simp)).trans x1
    replace x2 := (k5.cell_far ⟨w.heap.size, 2, none⟩ hs_x (by simp)).trans x2
    replace x3 := (k5.cell_far ⟨w.heap.size, 3, none⟩ hs_x (by simp)).trans x3
    replace hs_x := Nat.lt_of_lt_of_le hs_x k5.size
    replace HB := Lib.hid (HB.out.grown k5)
    replace HR := Lib.hid (HR.out.grown k5)
    have G5a := Lib.hid (G5.out.trans k5)
    have d0 : (w5.alloc (.cells #[.int .i64 dop, .int .u64 (da : Nat), .int .u64 (db : Nat), .int .u64 (dc : Nat)] 24)).cell? ⟨w5.heap.size, 0, none⟩ = some (.int .i64 dop) := World.cell?_alloc_new ..
    have d1 : (w5.alloc (.cells #[.int .i64 dop, .int .u64 (da : Nat), .int .u64 (db : Nat), .int .u64 (dc : Nat)] 24)).cell? ⟨w5.heap.size, 1, none⟩ = some (.int .u64 (da : Nat)) := World.cell?_alloc_new ..
    have d2 : (w5.alloc (.cells #[.int .i64 dop, .int .u64 (da : Nat), .int .u64 (db : Nat), .int .u64 (dc : Nat)] 24)).cell? ⟨w5.heap.size, 2, none⟩ = some (.int .u64 (db : Nat)) := World.cell?_alloc_new ..
    have d3 : (w5.alloc (.cells #[.int .i64 dop, .int .u64 (da : Nat), .int .u64 (db : Nat), .int .u64 (dc : Nat)] 24)).cell? ⟨w5.heap.size, 3, none⟩ = some (.int .u64 (dc : Nat)) := World.cell?_alloc_new ..
    have hs_d : w5.heap.size < (w5.alloc (.cells #[.int .i64 dop, .int .u64 (da : Nat), .int .u64 (db : Nat), .int .u64 (dc : Nat)] 24)).heap.size := by simp
    have CS := rread HB.out
    rw [HCV.out] at CS
    have CS := Lib.hid CS
    go_wp2_with fail
    refine (CS.out).mono ?_
    rintro e w6 ⟨rfl, g6⟩
    replace x0 := (g6.cell_far ⟨w.heap.size, 0, none⟩ hs_x (by simp)).trans x0
    replace x1 := (g6.cell_far ⟨w.heap.size, 1, none⟩ hs_x (by simp)).trans x1
    replace x2 := (g6.cell_far ⟨w.heap.size, 2, none⟩ hs_x (by simp)).trans x2
    replace x3 := (g6.cell_far ⟨w.heap.size, 3, none⟩ hs_x (by simp)).trans x3
    replace d0 := (g6.cell_far ⟨w5.heap.size, 0, none⟩ hs_d (by simp)).trans d0
    replace d1 := (g6.cell_far ⟨w5.heap.size, 1, none⟩ hs_d (by simp)).trans d1
    replace d2 := (g6.cell_far ⟨w5.heap.size, 2, none⟩ hs_d (by simp)).trans d2
    replace d3 := (g6.cell_far ⟨w5.heap.size, 3, none⟩ hs_d (by simp)).trans d3
    replace hs_x := Nat.lt_of_lt_of_le hs_x g6.size
    replace hs_d := Nat.lt_of_lt_of_le hs_d g6.size
    replace HB := Lib.hid (HB.out.grown g6)
    replace HR := Lib.hid (HR.out.grown g6)
    have G6 := Lib.hid (G5a.out.trans g6)
    have k6 := World.grownBy_alloc w6 (.cells #[.int .i64 dop, .int .u64 (da : Nat), .int .u64 (db : Nat), .int .u64 (dc : Nat)] 24) none
    have hne6_x : w.heap.size ≠ w6.heap.size := by omega
    have hne6_d : w5.heap.size ≠ w6.heap.size := by omega
    replace x0 := (k6.cell_far ⟨w.heap.size, 0, none⟩ hs_x (by simp)).trans x0
    replace x1 := (k6.cell_far ⟨w.heap.size, 1, none⟩ hs_x (by simp)).trans x1
    replace x2 := (k6.cell_far ⟨w.heap.size, 2, none⟩ hs_x (by simp)).trans x2
    replace x3 := (k6.cell_far ⟨w.heap.size, 3, none⟩ hs_x (by simp)).trans x3
    replace d0 := (k6.cell_far ⟨w5.heap.size, 0, none⟩ hs_d (by simp)).trans d0
    replace d1 := (k6.cell_far ⟨w5.heap.size, 1, none⟩ hs_d (by simp)).trans d1
    replace d2 := (k6.cell_far ⟨w5.heap.size, 2, none⟩ hs_d (by simp)).trans d2
    replace d3 := (k6.cell_far ⟨w5.heap.size, 3, none⟩ hs_d (by simp)).trans d3
    replace hs_x := Nat.lt_of_lt_of_le hs_x k6.size
    replace hs_d := Nat.lt_of_lt_of_le hs_d k6.size
    replace HB := Lib.hid (HB.out.grown k6)
    replace HR := Lib.hid (HR.out.grown k6)
    have G6a := Lib.hid (G6.out.trans k6)
    have e0 : (w6.alloc (.cells #[.int .i64 dop, .int .u64 (da : Nat), .int .u64 (db : Nat), .int .u64 (dc : Nat)] 24)).cell? ⟨w6.heap.size, 0, none⟩ = some (.int .i64 dop) := World.cell?_alloc_new ..
    have e1 : (w6.alloc (.cells #[.int .i64 dop, .int .u64 (da : Nat), .int .u64 (db : Nat), .int .u64 (dc : Nat)] 24)).cell? ⟨w6.heap.size, 1, none⟩ = some (.int .u64 (da : Nat)) := World.cell?_alloc_new ..
    have e2 : (w6.alloc (.cells #[.int .i64 dop, .int .u64 (da : Nat), .int .u64 (db : Nat), .int .u64 (dc : Nat)] 24)).cell? ⟨w6.heap.size, 2, none⟩ = some (.int .u64 (db : Nat)) := World.cell?_alloc_new ..
    have e3 : (w6.alloc (.cells #[.int .i64 dop, .int .u64 (da : Nat), .int .u64 (db : Nat), .int .u64 (dc : Nat)] 24)).cell? ⟨w6.heap.size, 3, none⟩ = some (.int .u64 (dc : Nat)) := World.cell?_alloc_new ..
    have hs_e : w6.heap.size < (w6.alloc (.cells #[.int .i64 dop, .int .u64 (da : Nat), .int .u64 (db : Nat), .int .u64 (dc : Nat)] 24)).heap.size := by simp
    cases dk
    · go_wp2
      go_ret
      exact ⟨rfl, G6a.out⟩
    · go_wp2
      go_ret
      exact ⟨rfl, G6a.out⟩
theorem reads_law (x : Cl) (vb : Value) (F : List Nat) (w : World) (HT : FormsAt w) (hs : smC x) (H : ReadsB w vb F) :
    Calls Tryd.prog 4 #[x.val, vb] w fun e w' => e = .returned (.bool true) ∧ w.grownBy w' none := reads_walk x hs H HT
end Go.Proofs.YtcnojgkolpdomaaDoor
