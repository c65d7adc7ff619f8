/-
  nightjarlaw14.alive, over this seat's translation.
-/
import Derived.Test.YtcnojgkolpdomaaDoorCall5
namespace Go.Proofs.YtcnojgkolpdomaaDoor
open Go.RowKit Go.Lib
set_option maxRecDepth 100000
set_option linter.unusedVariables false

def arm3 : Cl := ⟨4, 258, 3, 0⟩
def armB : List Nat := [4, 2, 1, 0, 0, 0, 0, 0, 0, 3, 0, 0, 0, 0, 0, 0, 0, 0, 0, 0, 0, 0, 0, 0, 0]
theorem arm_ok : okC arm3 = true := by decide
theorem arm_sm : smC arm3 := ⟨by decide, by decide, by decide⟩
theorem arm_cb : cb arm3 = armB := by decide
theorem arm_cr : crV armB = .tuple #[arm3.val, .bool true] := by
  rw [← arm_cb, crV, cr_cb arm_ok arm_sm]; rfl
theorem arm_named : namedV ⟨#[97, 114, 109]⟩ = .tuple #[.int .i64 (4 : Nat), .bool true] := namedV_eq (s := ⟨#[97, 114, 109]⟩) (x := some 4) (by decide +kernel)
def no13 : Cl := ⟨13, 0, 0, 0⟩
theorem no13_no : okC no13 = false := by decide
theorem no13_sm : smC no13 := ⟨by decide, by decide, by decide⟩

set_option maxHeartbeats 4000000 in
theorem alive14 {w : World} (HT : FormsAt w) : Calls Tryd.prog 13 #[] w fun e w' => e = .returned (.bool true) ∧ w.grownBy w' none := by
  have C1 := cof_in 4 (by decide) HT
  have e1 : fVal 4 = .agg #[.string ⟨#[97, 114, 109]⟩, .int .i64 3, .int .i64 1, .int .i64 1] := rfl
  rw [e1] at C1
  have C1 := Lib.hid C1
  have HT0 := Lib.hid HT
  clear HT e1
  go_enter Tryd.func13, Tryd.ntmps13
  go_wp2_with fail
  refine C1.out.mono ?_
  rintro e w1 ⟨rfl, g1⟩
  have G2 := Lib.hid (g1.trans (World.grownBy_alloc w1 (.cells #[.string ⟨#[97, 114, 109]⟩, .int .i64 3, .int .i64 1, .int .i64 1] 27) none))
  have C2 := cnamed ⟨#[97, 114, 109]⟩ (HT0.out.kept G2.out)
  rw [arm_named] at C2
  have C2 := Lib.hid C2
  clear C1
  go_wp2_with fail
  refine C2.out.mono ?_
  rintro e w2 ⟨rfl, g2⟩
  have bf : ∀ j, w2.cell? ⟨w1.heap.size, j, none⟩ = (w1.alloc (.cells #[.string ⟨#[97, 114, 109]⟩, .int .i64 3, .int .i64 1, .int .i64 1] 27)).cell? ⟨w1.heap.size, j, none⟩ := fun j => g2.cell_far ⟨w1.heap.size, j, none⟩ (by simp) (by simp)
  have hs2 : w1.heap.size < w2.heap.size := by have := g2.size; simp at this; omega
  have f0 : w2.cell? ⟨w1.heap.size, 0, none⟩ = some (.string ⟨#[97, 114, 109]⟩) := (bf 0).trans (World.cell?_alloc_new ..)
  have f1 : w2.cell? ⟨w1.heap.size, 1, none⟩ = some (.int .i64 3) := (bf 1).trans (World.cell?_alloc_new ..)
  have f2 : w2.cell? ⟨w1.heap.size, 2, none⟩ = some (.int .i64 1) := (bf 2).trans (World.cell?_alloc_new ..)
  have f3 : w2.cell? ⟨w1.heap.size, 3, none⟩ = some (.int .i64 1) := (bf 3).trans (World.cell?_alloc_new ..)
  have G3 := Lib.hid (G2.out.trans g2)
  have C3 := Lib.hid (cbytes_ok arm3 arm_sm (HT0.out.kept G3.out) arm_ok)
  rw [arm_cb] at C3
  generalize w1.heap.size = Z at *
  clear C2 G2 bf g1 g2
  go_wp2_with fail
  refine C3.out.mono ?_
  rintro e w3 ⟨v, rfl, q3, g3⟩
  replace f0 := (g3.cell_far ⟨Z, 0, none⟩ hs2 (by simp)).trans f0
  replace f1 := (g3.cell_far ⟨Z, 1, none⟩ hs2 (by simp)).trans f1
  replace f2 := (g3.cell_far ⟨Z, 2, none⟩ hs2 (by simp)).trans f2
  replace f3 := (g3.cell_far ⟨Z, 3, none⟩ hs2 (by simp)).trans f3
  have hs3 : Z < w3.heap.size := Nat.lt_of_lt_of_le hs2 g3.size
  have G4 := Lib.hid (G3.out.trans g3)
  have hrd := q3.reads (by rw [← arm_cb]; exact cb_isB arm_ok)
  have C4 := cread hrd (HT0.out.kept G4.out)
  rw [arm_cr] at C4
  have C4 := Lib.hid C4
  obtain ⟨b, cp, rfl, hb1, hb2, hb3, hb4⟩ : ∃ b cp, v = .slice (some ⟨b, 0, none⟩) 25 cp ∧ w2.heap.size ≤ b ∧ b < w3.heap.size ∧ 25 ≤ cp ∧ cp ≤ maxLen := by
    rcases q3.form with ⟨_, h⟩ | h
    · exact absurd h (by decide)
    · exact h
  have c0 := q3.cell 0 (by decide)
  have c1 := q3.cell 1 (by decide)
  have c2 := q3.cell 2 (by decide)
  have c9 := q3.cell 9 (by decide)
  simp only [armB, List.getElem_cons_zero, List.getElem_cons_succ] at c0 c1 c2 c9
  clear C3 G3 q3 g3 hrd hs2
  go_wp2_with fail
  refine C4.out.mono ?_
  rintro e w4 ⟨rfl, g4⟩
  replace f0 := (g4.cell_far ⟨Z, 0, none⟩ hs3 (by simp)).trans f0
  replace f1 := (g4.cell_far ⟨Z, 1, none⟩ hs3 (by simp)).trans f1
  replace f2 := (g4.cell_far ⟨Z, 2, none⟩ hs3 (by simp)).trans f2
  replace f3 := (g4.cell_far ⟨Z, 3, none⟩ hs3 (by simp)).trans f3
  replace c0 := (g4.cell_far ⟨b, 0, none⟩ hb2 (by simp)).trans c0
  replace c1 := (g4.cell_far ⟨b, 1, none⟩ hb2 (by simp)).trans c1
  replace c2 := (g4.cell_far ⟨b, 2, none⟩ hb2 (by simp)).trans c2
  replace c9 := (g4.cell_far ⟨b, 9, none⟩ hb2 (by simp)).trans c9
  have hZ4 : Z < w4.heap.size := Nat.lt_of_lt_of_le hs3 g4.size
  have hb4' : b < w4.heap.size := Nat.lt_of_lt_of_le hb2 g4.size
  have ka := World.grownBy_alloc w4 (.cells #[.int .i64 4, .int .u64 258, .int .u64 3, .int .u64 0] 24) none
  replace f0 := (ka.cell_far ⟨Z, 0, none⟩ hZ4 (by simp)).trans f0
  replace f1 := (ka.cell_far ⟨Z, 1, none⟩ hZ4 (by simp)).trans f1
  replace f2 := (ka.cell_far ⟨Z, 2, none⟩ hZ4 (by simp)).trans f2
  replace f3 := (ka.cell_far ⟨Z, 3, none⟩ hZ4 (by simp)).trans f3
  replace c0 := (ka.cell_far ⟨b, 0, none⟩ hb4' (by simp)).trans c0
  replace c1 := (ka.cell_far ⟨b, 1, none⟩ hb4' (by simp)).trans c1
  replace c2 := (ka.cell_far ⟨b, 2, none⟩ hb4' (by simp)).trans c2
  replace c9 := (ka.cell_far ⟨b, 9, none⟩ hb4' (by simp)).trans c9
  clear ka hZ4 hb4'
  have hneZ : Z ≠ w4.heap.size := by have := g4.size; omega
  have hneb : b ≠ w4.heap.size := by have := g4.size; omega
  have G5 := Lib.hid ((G4.out.trans g4).trans (World.grownBy_alloc w4 (.cells #[.int .i64 4, .int .u64 258, .int .u64 3, .int .u64 0] 24) none))
  have C5 := cright no13 no13_sm (HT0.out.kept G5.out)
  rw [no13_no] at C5
  have C5 := Lib.hid C5
  have ea : arm3.val = .agg #[.int .i64 4, .int .u64 258, .int .u64 3, .int .u64 0] := rfl
  have en : no13.val = .agg #[.int .i64 13, .int .u64 0, .int .u64 0, .int .u64 0] := rfl
  rw [en] at C5
  rw [ea]
  clear C4 G4 g4 ea en hs3 hb2 hb1 hb3 hb4
  go_wp2_with fail
  refine C5.out.mono ?_
  rintro e w5 ⟨rfl, g5⟩
  go_wp2
  go_ret
  exact ⟨rfl, G5.out.trans g5⟩
end Go.Proofs.YtcnojgkolpdomaaDoor
