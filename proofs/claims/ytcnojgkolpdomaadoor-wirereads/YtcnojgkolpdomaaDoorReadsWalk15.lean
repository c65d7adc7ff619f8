/-
  WireReads, the walk, over this seat's translation.
-/
import Derived.Test.YtcnojgkolpdomaaDoorWireM
import Derived.Test.YtcnojgkolpdomaaDoorRefE4
namespace Go.Proofs.YtcnojgkolpdomaaDoor
open Go.RowKit Go.Lib
set_option maxRecDepth 100000
set_option linter.unusedVariables false

set_option maxHeartbeats 8000000 in
theorem wreads_law (v : Value) (F : List Nat) (w : World) (HT : FormsAt w) (H : ReadsB w v F) :
    Calls Tryd.prog 7 #[v] w fun r w' => r = .returned (.bool true) ∧ w.grownBy w' none := by
  have HT0 := Lib.hid HT
  have HF0 := Lib.hid H
  have hB := H.b
  have AL := Lib.hid (alive15 HT)
  obtain ⟨a, cap, rfl, hcap, hcm⟩ := H.form
  clear HT H
  by_cases hl : 65536 < F.length
  · have q : ((F.length : Nat) : Int) > 65536 := by omega
    have CL := Lib.hid (fun (wz : World) (hg : w.grownBy wz none) => wread_long (HF0.out.grown hg) hl)
    clear hl
    go_enter Tryd.func7, Tryd.ntmps7
    go_wp2_with fail
    refine AL.out.mono ?_
    rintro r w1 ⟨rfl, g1⟩
    have G1 := Lib.hid g1
    clear g1
    go_wp2_with fail
    refine (CL.out _ G1.out).mono ?_
    rintro r w2 ⟨rfl, rfl⟩
    go_wp2
    go_ret
    exact ⟨rfl, G1.out⟩
  have q : ¬ (((F.length : Nat) : Int) > 65536) := by omega
  have CR1 := Lib.hid (fun (wz : World) (hg : w.grownBy wz none) => wread (HF0.out.grown hg) (HT0.out.kept hg) (by omega))
  have CR2 := Lib.hid (fun (wz : World) (hg : w.grownBy wz none) => rread15 (HF0.out.grown hg) (by omega))
  have HOA := Lib.hid (rdT_ok hB)
  clear hl
  by_cases hb : 3000 < F.length
  · have q2 : ((F.length : Nat) : Int) > 3000 := by omega
    clear hb
    go_enter Tryd.func7, Tryd.ntmps7
    go_wp2_with fail
    refine AL.out.mono ?_
    rintro r w1 ⟨rfl, g1⟩
    have G1 := Lib.hid g1
    clear g1
    go_wp2_with fail
    refine (CR1.out _ G1.out).mono ?_
    rintro r w2 ⟨g2, v2, rfl, e2⟩
    have G2 := Lib.hid (G1.out.trans g2)
    clear g2 e2
    go_wp2
    go_ret
    exact ⟨rfl, G2.out⟩
  have q2 : ¬ (((F.length : Nat) : Int) > 3000) := by omega
  have CO1 := Lib.hid (fun (wz : World) (hg : w.grownBy wz none) => wone (HF0.out.grown hg) (HT0.out.kept hg))
  have CO2 := Lib.hid (fun (wz : World) (hg : w.grownBy wz none) => rone (HF0.out.grown hg))
  obtain ⟨⟨ek, ewho, en, ⟨eop, ea, ebb, ec⟩, ed, em⟩, hx⟩ : ∃ x, x = (er F).getD zE := ⟨_, rfl⟩
  obtain ⟨ok, hok⟩ : ∃ ok, ok = (er F).isSome := ⟨_, rfl⟩
  have hev : erV F = .tuple #[.agg #[.int .i64 ek, .int .i64 ewho, .int .i64 en, .int .i64 eop, .int .u64 (ea : Nat), .int .u64 (ebb : Nat), .int .u64 (ec : Nat), .int .i64 ed, .int .i64 em], .bool ok] := by rw [erV, ← hx, ← hok]; rfl
  rw [hev] at CO1 CO2
  clear hb hx hok hev hB
  go_enter Tryd.func7, Tryd.ntmps7
  go_wp2_with fail
  refine AL.out.mono ?_
  rintro r w1 ⟨rfl, g1⟩
  have G1 := Lib.hid g1
  clear g1 AL
  go_wp2_with fail
  refine (CR1.out _ G1.out).mono ?_
  rintro r w2 ⟨g2, v2, rfl, e2⟩
  have G2 := Lib.hid (G1.out.trans g2)
  have RA := Lib.hid (e2.reads' HOA.out)
  clear g2 e2 CR1
  go_wp2_with fail
  refine (CR2.out _ G2.out).mono ?_
  rintro r w3 ⟨g3, v3, rfl, e3⟩
  have G3 := Lib.hid (G2.out.trans g3)
  have RB := Lib.hid (e3.reads' HOA.out)
  have SE := Lib.hid (rsameE (RA.out.grown g3) RB.out)
  clear g3 e3 CR2 RA RB
  go_wp2_with fail
  refine SE.out.mono ?_
  rintro r w4 ⟨rfl, g4⟩
  have G4 := Lib.hid (G3.out.trans g4)
  clear g4 SE
  go_wp2_with fail
  refine (CO1.out _ G4.out).mono ?_
  rintro r w5 ⟨rfl, g5⟩
  have kb := World.grownBy_alloc w5 (.cells #[.int .i64 ek, .int .i64 ewho, .int .i64 en, .int .i64 eop, .int .u64 (ea : Nat), .int .u64 (ebb : Nat), .int .u64 (ec : Nat), .int .i64 ed, .int .i64 em] 55) none
  have G5 := Lib.hid ((G4.out.trans g5).trans kb)
  have e0 : (w5.alloc (.cells #[.int .i64 ek, .int .i64 ewho, .int .i64 en, .int .i64 eop, .int .u64 (ea : Nat), .int .u64 (ebb : Nat), .int .u64 (ec : Nat), .int .i64 ed, .int .i64 em] 55)).cell? ⟨w5.heap.size, 0, none⟩ = some (.int .i64 ek) := World.cell?_alloc_new ..
  have e1 : (w5.alloc (.cells #[.int .i64 ek, .int .i64 ewho, .int .i64 en, .int .i64 eop, .int .u64 (ea : Nat), .int .u64 (ebb : Nat), .int .u64 (ec : Nat), .int .i64 ed, .int .i64 em] 55)).cell? ⟨w5.heap.size, 1, none⟩ = some (.int .i64 ewho) := World.cell?_alloc_new ..
  have e2 : (w5.alloc (.cells #[.int .i64 ek, .int .i64 ewho, .int .i64 en, .int .i64 eop, .int .u64 (ea : Nat), .int .u64 (ebb : Nat), .int .u64 (ec : Nat), .int .i64 ed, .int .i64 em] 55)).cell? ⟨w5.heap.size, 2, none⟩ = some (.int .i64 en) := World.cell?_alloc_new ..
  have e3 : (w5.alloc (.cells #[.int .i64 ek, .int .i64 ewho, .int .i64 en, .int .i64 eop, .int .u64 (ea : Nat), .int .u64 (ebb : Nat), .int .u64 (ec : Nat), .int .i64 ed, .int .i64 em] 55)).cell? ⟨w5.heap.size, 3, none⟩ = some (.int .i64 eop) := World.cell?_alloc_new ..
  have e4 : (w5.alloc (.cells #[.int .i64 ek, .int .i64 ewho, .int .i64 en, .int .i64 eop, .int .u64 (ea : Nat), .int .u64 (ebb : Nat), .int .u64 (ec : Nat), .int .i64 ed, .int .i64 em] 55)).cell? ⟨w5.heap.size, 4, none⟩ = some (.int .u64 (ea : Nat)) := World.cell?_alloc_new ..
  have e5 : (w5.alloc (.cells #[.int .i64 ek, .int .i64 ewho, .int .i64 en, .int .i64 eop, .int .u64 (ea : Nat), .int .u64 (ebb : Nat), .int .u64 (ec : Nat), .int .i64 ed, .int .i64 em] 55)).cell? ⟨w5.heap.size, 5, none⟩ = some (.int .u64 (ebb : Nat)) := World.cell?_alloc_new ..
  have e6 : (w5.alloc (.cells #[.int .i64 ek, .int .i64 ewho, .int .i64 en, .int .i64 eop, .int .u64 (ea : Nat), .int .u64 (ebb : Nat), .int .u64 (ec : Nat), .int .i64 ed, .int .i64 em] 55)).cell? ⟨w5.heap.size, 6, none⟩ = some (.int .u64 (ec : Nat)) := World.cell?_alloc_new ..
  have e7 : (w5.alloc (.cells #[.int .i64 ek, .int .i64 ewho, .int .i64 en, .int .i64 eop, .int .u64 (ea : Nat), .int .u64 (ebb : Nat), .int .u64 (ec : Nat), .int .i64 ed, .int .i64 em] 55)).cell? ⟨w5.heap.size, 7, none⟩ = some (.int .i64 ed) := World.cell?_alloc_new ..
  have e8 : (w5.alloc (.cells #[.int .i64 ek, .int .i64 ewho, .int .i64 en, .int .i64 eop, .int .u64 (ea : Nat), .int .u64 (ebb : Nat), .int .u64 (ec : Nat), .int .i64 ed, .int .i64 em] 55)).cell? ⟨w5.heap.size, 8, none⟩ = some (.int .i64 em) := World.cell?_alloc_new ..
  have hs5 : w5.heap.size < (w5.alloc (.cells #[.int .i64 ek, .int .i64 ewho, .int .i64 en, .int .i64 eop, .int .u64 (ea : Nat), .int .u64 (ebb : Nat), .int .u64 (ec : Nat), .int .i64 ed, .int .i64 em] 55)).heap.size := by simp
  clear g5 kb CO1
  go_wp2_with fail
  refine (CO2.out _ G5.out).mono ?_
  rintro r w6 ⟨rfl, g6⟩
  have kc := World.grownBy_alloc w6 (.cells #[.int .i64 ek, .int .i64 ewho, .int .i64 en, .int .i64 eop, .int .u64 (ea : Nat), .int .u64 (ebb : Nat), .int .u64 (ec : Nat), .int .i64 ed, .int .i64 em] 55) none
  have gg := g6.trans kc
  have G6 := Lib.hid (G5.out.trans gg)
  replace e0 := (gg.cell_far ⟨w5.heap.size, 0, none⟩ hs5 (by simp)).trans e0
  replace e1 := (gg.cell_far ⟨w5.heap.size, 1, none⟩ hs5 (by simp)).trans e1
  replace e2 := (gg.cell_far ⟨w5.heap.size, 2, none⟩ hs5 (by simp)).trans e2
  replace e3 := (gg.cell_far ⟨w5.heap.size, 3, none⟩ hs5 (by simp)).trans e3
  replace e4 := (gg.cell_far ⟨w5.heap.size, 4, none⟩ hs5 (by simp)).trans e4
  replace e5 := (gg.cell_far ⟨w5.heap.size, 5, none⟩ hs5 (by simp)).trans e5
  replace e6 := (gg.cell_far ⟨w5.heap.size, 6, none⟩ hs5 (by simp)).trans e6
  replace e7 := (gg.cell_far ⟨w5.heap.size, 7, none⟩ hs5 (by simp)).trans e7
  replace e8 := (gg.cell_far ⟨w5.heap.size, 8, none⟩ hs5 (by simp)).trans e8
  have f0 : (w6.alloc (.cells #[.int .i64 ek, .int .i64 ewho, .int .i64 en, .int .i64 eop, .int .u64 (ea : Nat), .int .u64 (ebb : Nat), .int .u64 (ec : Nat), .int .i64 ed, .int .i64 em] 55)).cell? ⟨w6.heap.size, 0, none⟩ = some (.int .i64 ek) := World.cell?_alloc_new ..
  have f1 : (w6.alloc (.cells #[.int .i64 ek, .int .i64 ewho, .int .i64 en, .int .i64 eop, .int .u64 (ea : Nat), .int .u64 (ebb : Nat), .int .u64 (ec : Nat), .int .i64 ed, .int .i64 em] 55)).cell? ⟨w6.heap.size, 1, none⟩ = some (.int .i64 ewho) := World.cell?_alloc_new ..
  have f2 : (w6.alloc (.cells #[.int .i64 ek, .int .i64 ewho, .int .i64 en, .int .i64 eop, .int .u64 (ea : Nat), .int .u64 (ebb : Nat), .int .u64 (ec : Nat), .int .i64 ed, .int .i64 em] 55)).cell? ⟨w6.heap.size, 2, none⟩ = some (.int .i64 en) := World.cell?_alloc_new ..
  have f3 : (w6.alloc (.cells #[.int .i64 ek, .int .i64 ewho, .int .i64 en, .int .i64 eop, .int .u64 (ea : Nat), .int .u64 (ebb : Nat), .int .u64 (ec : Nat), .int .i64 ed, .int .i64 em] 55)).cell? ⟨w6.heap.size, 3, none⟩ = some (.int .i64 eop) := World.cell?_alloc_new ..
  have f4 : (w6.alloc (.cells #[.int .i64 ek, .int .i64 ewho, .int .i64 en, .int .i64 eop, .int .u64 (ea : Nat), .int .u64 (ebb : Nat), .int .u64 (ec : Nat), .int .i64 ed, .int .i64 em] 55)).cell? ⟨w6.heap.size, 4, none⟩ = some (.int .u64 (ea : Nat)) := World.cell?_alloc_new ..
  have f5 : (w6.alloc (.cells #[.int .i64 ek, .int .i64 ewho, .int .i64 en, .int .i64 eop, .int .u64 (ea : Nat), .int .u64 (ebb : Nat), .int .u64 (ec : Nat), .int .i64 ed, .int .i64 em] 55)).cell? ⟨w6.heap.size, 5, none⟩ = some (.int .u64 (ebb : Nat)) := World.cell?_alloc_new ..
  have f6 : (w6.alloc (.cells #[.int .i64 ek, .int .i64 ewho, .int .i64 en, .int .i64 eop, .int .u64 (ea : Nat), .int .u64 (ebb : Nat), .int .u64 (ec : Nat), .int .i64 ed, .int .i64 em] 55)).cell? ⟨w6.heap.size, 6, none⟩ = some (.int .u64 (ec : Nat)) := World.cell?_alloc_new ..
  have f7 : (w6.alloc (.cells #[.int .i64 ek, .int .i64 ewho, .int .i64 en, .int .i64 eop, .int .u64 (ea : Nat), .int .u64 (ebb : Nat), .int .u64 (ec : Nat), .int .i64 ed, .int .i64 em] 55)).cell? ⟨w6.heap.size, 7, none⟩ = some (.int .i64 ed) := World.cell?_alloc_new ..
  have f8 : (w6.alloc (.cells #[.int .i64 ek, .int .i64 ewho, .int .i64 en, .int .i64 eop, .int .u64 (ea : Nat), .int .u64 (ebb : Nat), .int .u64 (ec : Nat), .int .i64 ed, .int .i64 em] 55)).cell? ⟨w6.heap.size, 8, none⟩ = some (.int .i64 em) := World.cell?_alloc_new ..
  have hne : w5.heap.size ≠ w6.heap.size := by have := g6.size; omega
  clear g6 kc gg CO2
  generalize w5.heap.size = X at *
  go_wp2
  go_ret
  exact ⟨rfl, G6.out⟩
end Go.Proofs.YtcnojgkolpdomaaDoor
