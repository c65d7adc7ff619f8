/-
  wire.One, over this seat's translation: the entry of bytes.
-/
import Derived.Test.YtcnojgkolpdomaaDoorWire2
import Derived.Test.YtcnojgkolpdomaaDoorWire4
namespace Go.Proofs.YtcnojgkolpdomaaDoor
open Go.RowKit Go.Lib
set_option maxRecDepth 100000
set_option linter.unusedVariables false

def erV (F : List Nat) : Value := .tuple #[((er F).getD zE).val, .bool (er F).isSome]
set_option maxHeartbeats 4000000 in
theorem wone {w : World} {v : Value} {F : List Nat} (H : ReadsB w v F) (HT : FormsAt w) :
    Calls Tryd.prog 31 #[v] w fun r w' => r = .returned (erV F) ∧ w.grownBy w' none := by
  obtain ⟨R, hR⟩ : ∃ R, R = erV F := ⟨_, rfl⟩
  rw [← hR]
  have hB : isB F := by obtain ⟨_, _, _, _, _, h, _⟩ := H; exact h
  have hsm := pE_sm hB
  have her := pE_er F
  have k1 := World.grownBy_alloc w (.cells #[.int .i64 0, .int .i64 0, .int .i64 0, .int .i64 0, .int .u64 0, .int .u64 0, .int .u64 0, .int .i64 0, .int .i64 0] 55) none
  have CP := wparse (H.grown k1) (HT.kept k1)
  obtain ⟨⟨⟨k, who, n, ⟨op, a, b, c⟩, d, m⟩, ok⟩, hpE⟩ : ∃ p, p = pE F := ⟨_, rfl⟩
  rw [← hpE] at hsm her CP
  simp only at hsm her CP
  have HV : Hid (R = if (ok && okE ⟨k, who, n, ⟨op, a, b, c⟩, d, m⟩) = true then .tuple #[(En.mk k who n ⟨op, a, b, c⟩ d m).val, .bool true] else .tuple #[zE.val, .bool false]) := Lib.hid (by
    rw [hR, erV, her]
    split <;> rfl)
  have CR0 := Lib.hid (fun (wz : World) (h : w.grownBy wz none) => wright (w := wz) ⟨k, who, n, ⟨op, a, b, c⟩, d, m⟩ hsm (HT.kept h))
  obtain ⟨q, hq⟩ : ∃ q, q = okE ⟨k, who, n, ⟨op, a, b, c⟩, d, m⟩ := ⟨_, rfl⟩
  rw [← hq] at HV CR0
  unfold En.val at CP CR0 HV
  simp only at CP CR0 HV
  have CP := Lib.hid CP
  have HR0 := Lib.hid (rese_new (World.grownBy.refl w none))
  clear hR hsm her hpE hq H HT hB
  go_enter Tryd.func31, Tryd.ntmps31
  go_wp2_with fail
  refine CP.out.mono ?_
  rintro e w1 ⟨rfl, g1⟩
  have HR1 := Lib.hid (HR0.out.kept g1)
  have kb := World.grownBy_alloc w1 (.cells #[.int .i64 k, .int .i64 who, .int .i64 n, .int .i64 op, .int .u64 (a : Nat), .int .u64 (b : Nat), .int .u64 (c : Nat), .int .i64 d, .int .i64 m] 55) none
  have HR := Lib.hid (HR1.out.kept kb)
  have hXe : w.heap.size ≠ w1.heap.size := by have := HR1.out.sz; omega
  clear g1 CP HR0 k1
  cases ok with
  | false =>
    have hRf := HV.out
    simp only [Bool.false_and, if_neg (show ¬ (false = true) by decide)] at hRf
    unfold zE zC at hRf
    simp only at hRf
    subst hRf
    have z0 : (w1.alloc (.cells #[.int .i64 k, .int .i64 who, .int .i64 n, .int .i64 op, .int .u64 (a : Nat), .int .u64 (b : Nat), .int .u64 (c : Nat), .int .i64 d, .int .i64 m] 55)).cell? ⟨w.heap.size, 0, none⟩ = some (.int .i64 0) := HR.out.r 0 (by decide)
    have zf0 := HR.out.rf 0
    have z1 : (w1.alloc (.cells #[.int .i64 k, .int .i64 who, .int .i64 n, .int .i64 op, .int .u64 (a : Nat), .int .u64 (b : Nat), .int .u64 (c : Nat), .int .i64 d, .int .i64 m] 55)).cell? ⟨w.heap.size, 1, none⟩ = some (.int .i64 0) := HR.out.r 1 (by decide)
    have zf1 := HR.out.rf 1
    have z2 : (w1.alloc (.cells #[.int .i64 k, .int .i64 who, .int .i64 n, .int .i64 op, .int .u64 (a : Nat), .int .u64 (b : Nat), .int .u64 (c : Nat), .int .i64 d, .int .i64 m] 55)).cell? ⟨w.heap.size, 2, none⟩ = some (.int .i64 0) := HR.out.r 2 (by decide)
    have zf2 := HR.out.rf 2
    have z3 : (w1.alloc (.cells #[.int .i64 k, .int .i64 who, .int .i64 n, .int .i64 op, .int .u64 (a : Nat), .int .u64 (b : Nat), .int .u64 (c : Nat), .int .i64 d, .int .i64 m] 55)).cell? ⟨w.heap.size, 3, none⟩ = some (.int .i64 0) := HR.out.r 3 (by decide)
    have zf3 := HR.out.rf 3
    have z4 : (w1.alloc (.cells #[.int .i64 k, .int .i64 who, .int .i64 n, .int .i64 op, .int .u64 (a : Nat), .int .u64 (b : Nat), .int .u64 (c : Nat), .int .i64 d, .int .i64 m] 55)).cell? ⟨w.heap.size, 4, none⟩ = some (.int .u64 0) := HR.out.r 4 (by decide)
    have zf4 := HR.out.rf 4
    have z5 : (w1.alloc (.cells #[.int .i64 k, .int .i64 who, .int .i64 n, .int .i64 op, .int .u64 (a : Nat), .int .u64 (b : Nat), .int .u64 (c : Nat), .int .i64 d, .int .i64 m] 55)).cell? ⟨w.heap.size, 5, none⟩ = some (.int .u64 0) := HR.out.r 5 (by decide)
    have zf5 := HR.out.rf 5
    have z6 : (w1.alloc (.cells #[.int .i64 k, .int .i64 who, .int .i64 n, .int .i64 op, .int .u64 (a : Nat), .int .u64 (b : Nat), .int .u64 (c : Nat), .int .i64 d, .int .i64 m] 55)).cell? ⟨w.heap.size, 6, none⟩ = some (.int .u64 0) := HR.out.r 6 (by decide)
    have zf6 := HR.out.rf 6
    have z7 : (w1.alloc (.cells #[.int .i64 k, .int .i64 who, .int .i64 n, .int .i64 op, .int .u64 (a : Nat), .int .u64 (b : Nat), .int .u64 (c : Nat), .int .i64 d, .int .i64 m] 55)).cell? ⟨w.heap.size, 7, none⟩ = some (.int .i64 0) := HR.out.r 7 (by decide)
    have zf7 := HR.out.rf 7
    have z8 : (w1.alloc (.cells #[.int .i64 k, .int .i64 who, .int .i64 n, .int .i64 op, .int .u64 (a : Nat), .int .u64 (b : Nat), .int .u64 (c : Nat), .int .i64 d, .int .i64 m] 55)).cell? ⟨w.heap.size, 8, none⟩ = some (.int .i64 0) := HR.out.r 8 (by decide)
    have zf8 := HR.out.rf 8
    generalize hXX : w.heap.size = X at *
    clear hXX
    go_wp2
    have ho := put9_only (w1.alloc (.cells #[.int .i64 k, .int .i64 who, .int .i64 n, .int .i64 op, .int .u64 (a : Nat), .int .u64 (b : Nat), .int .u64 (c : Nat), .int .i64 d, .int .i64 m] 55)) X (.int .i64 0) (.int .i64 0) (.int .i64 0) (.int .i64 0) (.int .u64 0) (.int .u64 0) (.int .u64 0) (.int .i64 0) (.int .i64 0)
    have hy := put9_at (w := (w1.alloc (.cells #[.int .i64 k, .int .i64 who, .int .i64 n, .int .i64 op, .int .u64 (a : Nat), .int .u64 (b : Nat), .int .u64 (c : Nat), .int .i64 d, .int .i64 m] 55))) (X := X) (.int .i64 0) (.int .i64 0) (.int .i64 0) (.int .i64 0) (.int .u64 0) (.int .u64 0) (.int .u64 0) (.int .i64 0) (.int .i64 0) (fun i hi => HR.out.some i hi)
    have y0 : (put9 (w1.alloc (.cells #[.int .i64 k, .int .i64 who, .int .i64 n, .int .i64 op, .int .u64 (a : Nat), .int .u64 (b : Nat), .int .u64 (c : Nat), .int .i64 d, .int .i64 m] 55)) X (.int .i64 0) (.int .i64 0) (.int .i64 0) (.int .i64 0) (.int .u64 0) (.int .u64 0) (.int .u64 0) (.int .i64 0) (.int .i64 0)).cell? ⟨X, 0, none⟩ = some (.int .i64 0) := hy 0 (by decide)
    have y1 : (put9 (w1.alloc (.cells #[.int .i64 k, .int .i64 who, .int .i64 n, .int .i64 op, .int .u64 (a : Nat), .int .u64 (b : Nat), .int .u64 (c : Nat), .int .i64 d, .int .i64 m] 55)) X (.int .i64 0) (.int .i64 0) (.int .i64 0) (.int .i64 0) (.int .u64 0) (.int .u64 0) (.int .u64 0) (.int .i64 0) (.int .i64 0)).cell? ⟨X, 1, none⟩ = some (.int .i64 0) := hy 1 (by decide)
    have y2 : (put9 (w1.alloc (.cells #[.int .i64 k, .int .i64 who, .int .i64 n, .int .i64 op, .int .u64 (a : Nat), .int .u64 (b : Nat), .int .u64 (c : Nat), .int .i64 d, .int .i64 m] 55)) X (.int .i64 0) (.int .i64 0) (.int .i64 0) (.int .i64 0) (.int .u64 0) (.int .u64 0) (.int .u64 0) (.int .i64 0) (.int .i64 0)).cell? ⟨X, 2, none⟩ = some (.int .i64 0) := hy 2 (by decide)
    have y3 : (put9 (w1.alloc (.cells #[.int .i64 k, .int .i64 who, .int .i64 n, .int .i64 op, .int .u64 (a : Nat), .int .u64 (b : Nat), .int .u64 (c : Nat), .int .i64 d, .int .i64 m] 55)) X (.int .i64 0) (.int .i64 0) (.int .i64 0) (.int .i64 0) (.int .u64 0) (.int .u64 0) (.int .u64 0) (.int .i64 0) (.int .i64 0)).cell? ⟨X, 3, none⟩ = some (.int .i64 0) := hy 3 (by decide)
    have y4 : (put9 (w1.alloc (.cells #[.int .i64 k, .int .i64 who, .int .i64 n, .int .i64 op, .int .u64 (a : Nat), .int .u64 (b : Nat), .int .u64 (c : Nat), .int .i64 d, .int .i64 m] 55)) X (.int .i64 0) (.int .i64 0) (.int .i64 0) (.int .i64 0) (.int .u64 0) (.int .u64 0) (.int .u64 0) (.int .i64 0) (.int .i64 0)).cell? ⟨X, 4, none⟩ = some (.int .u64 0) := hy 4 (by decide)
    have y5 : (put9 (w1.alloc (.cells #[.int .i64 k, .int .i64 who, .int .i64 n, .int .i64 op, .int .u64 (a : Nat), .int .u64 (b : Nat), .int .u64 (c : Nat), .int .i64 d, .int .i64 m] 55)) X (.int .i64 0) (.int .i64 0) (.int .i64 0) (.int .i64 0) (.int .u64 0) (.int .u64 0) (.int .u64 0) (.int .i64 0) (.int .i64 0)).cell? ⟨X, 5, none⟩ = some (.int .u64 0) := hy 5 (by decide)
    have y6 : (put9 (w1.alloc (.cells #[.int .i64 k, .int .i64 who, .int .i64 n, .int .i64 op, .int .u64 (a : Nat), .int .u64 (b : Nat), .int .u64 (c : Nat), .int .i64 d, .int .i64 m] 55)) X (.int .i64 0) (.int .i64 0) (.int .i64 0) (.int .i64 0) (.int .u64 0) (.int .u64 0) (.int .u64 0) (.int .i64 0) (.int .i64 0)).cell? ⟨X, 6, none⟩ = some (.int .u64 0) := hy 6 (by decide)
    have y7 : (put9 (w1.alloc (.cells #[.int .i64 k, .int .i64 who, .int .i64 n, .int .i64 op, .int .u64 (a : Nat), .int .u64 (b : Nat), .int .u64 (c : Nat), .int .i64 d, .int .i64 m] 55)) X (.int .i64 0) (.int .i64 0) (.int .i64 0) (.int .i64 0) (.int .u64 0) (.int .u64 0) (.int .u64 0) (.int .i64 0) (.int .i64 0)).cell? ⟨X, 7, none⟩ = some (.int .i64 0) := hy 7 (by decide)
    have y8 : (put9 (w1.alloc (.cells #[.int .i64 k, .int .i64 who, .int .i64 n, .int .i64 op, .int .u64 (a : Nat), .int .u64 (b : Nat), .int .u64 (c : Nat), .int .i64 d, .int .i64 m] 55)) X (.int .i64 0) (.int .i64 0) (.int .i64 0) (.int .i64 0) (.int .u64 0) (.int .u64 0) (.int .u64 0) (.int .i64 0) (.int .i64 0)).cell? ⟨X, 8, none⟩ = some (.int .i64 0) := hy 8 (by decide)
    change bodyPost _ _ _ _ _ (put9 (w1.alloc (.cells #[.int .i64 k, .int .i64 who, .int .i64 n, .int .i64 op, .int .u64 (a : Nat), .int .u64 (b : Nat), .int .u64 (c : Nat), .int .i64 d, .int .i64 m] 55)) X (.int .i64 0) (.int .i64 0) (.int .i64 0) (.int .i64 0) (.int .u64 0) (.int .u64 0) (.int .u64 0) (.int .i64 0) (.int .i64 0))
    clear hy
    generalize put9 (w1.alloc (.cells #[.int .i64 k, .int .i64 who, .int .i64 n, .int .i64 op, .int .u64 (a : Nat), .int .u64 (b : Nat), .int .u64 (c : Nat), .int .i64 d, .int .i64 m] 55)) X (.int .i64 0) (.int .i64 0) (.int .i64 0) (.int .i64 0) (.int .u64 0) (.int .u64 0) (.int .u64 0) (.int .i64 0) (.int .i64 0) = wF at *
    exact bodyPost_ret (v := .tuple #[.agg #[.int .i64 0, .int .i64 0, .int .i64 0, .int .i64 0, .int .u64 0, .int .u64 0, .int .u64 0, .int .i64 0, .int .i64 0], .bool false]) (by simp [results, Tryd.results31, go_sem, y0, y1, y2, y3, y4, y5, y6, y7, y8]) rfl ⟨rfl, Only.on HR.out.g ho HR.out.xw⟩
  | true =>
    have e0 : (w1.alloc (.cells #[.int .i64 k, .int .i64 who, .int .i64 n, .int .i64 op, .int .u64 (a : Nat), .int .u64 (b : Nat), .int .u64 (c : Nat), .int .i64 d, .int .i64 m] 55)).cell? ⟨w1.heap.size, 0, none⟩ = some (.int .i64 k) := World.cell?_alloc_new ..
    have e1 : (w1.alloc (.cells #[.int .i64 k, .int .i64 who, .int .i64 n, .int .i64 op, .int .u64 (a : Nat), .int .u64 (b : Nat), .int .u64 (c : Nat), .int .i64 d, .int .i64 m] 55)).cell? ⟨w1.heap.size, 1, none⟩ = some (.int .i64 who) := World.cell?_alloc_new ..
    have e2 : (w1.alloc (.cells #[.int .i64 k, .int .i64 who, .int .i64 n, .int .i64 op, .int .u64 (a : Nat), .int .u64 (b : Nat), .int .u64 (c : Nat), .int .i64 d, .int .i64 m] 55)).cell? ⟨w1.heap.size, 2, none⟩ = some (.int .i64 n) := World.cell?_alloc_new ..
    have e3 : (w1.alloc (.cells #[.int .i64 k, .int .i64 who, .int .i64 n, .int .i64 op, .int .u64 (a : Nat), .int .u64 (b : Nat), .int .u64 (c : Nat), .int .i64 d, .int .i64 m] 55)).cell? ⟨w1.heap.size, 3, none⟩ = some (.int .i64 op) := World.cell?_alloc_new ..
    have e4 : (w1.alloc (.cells #[.int .i64 k, .int .i64 who, .int .i64 n, .int .i64 op, .int .u64 (a : Nat), .int .u64 (b : Nat), .int .u64 (c : Nat), .int .i64 d, .int .i64 m] 55)).cell? ⟨w1.heap.size, 4, none⟩ = some (.int .u64 (a : Nat)) := World.cell?_alloc_new ..
    have e5 : (w1.alloc (.cells #[.int .i64 k, .int .i64 who, .int .i64 n, .int .i64 op, .int .u64 (a : Nat), .int .u64 (b : Nat), .int .u64 (c : Nat), .int .i64 d, .int .i64 m] 55)).cell? ⟨w1.heap.size, 5, none⟩ = some (.int .u64 (b : Nat)) := World.cell?_alloc_new ..
    have e6 : (w1.alloc (.cells #[.int .i64 k, .int .i64 who, .int .i64 n, .int .i64 op, .int .u64 (a : Nat), .int .u64 (b : Nat), .int .u64 (c : Nat), .int .i64 d, .int .i64 m] 55)).cell? ⟨w1.heap.size, 6, none⟩ = some (.int .u64 (c : Nat)) := World.cell?_alloc_new ..
    have e7 : (w1.alloc (.cells #[.int .i64 k, .int .i64 who, .int .i64 n, .int .i64 op, .int .u64 (a : Nat), .int .u64 (b : Nat), .int .u64 (c : Nat), .int .i64 d, .int .i64 m] 55)).cell? ⟨w1.heap.size, 7, none⟩ = some (.int .i64 d) := World.cell?_alloc_new ..
    have e8 : (w1.alloc (.cells #[.int .i64 k, .int .i64 who, .int .i64 n, .int .i64 op, .int .u64 (a : Nat), .int .u64 (b : Nat), .int .u64 (c : Nat), .int .i64 d, .int .i64 m] 55)).cell? ⟨w1.heap.size, 8, none⟩ = some (.int .i64 m) := World.cell?_alloc_new ..
    have hsE : w1.heap.size < (w1.alloc (.cells #[.int .i64 k, .int .i64 who, .int .i64 n, .int .i64 op, .int .u64 (a : Nat), .int .u64 (b : Nat), .int .u64 (c : Nat), .int .i64 d, .int .i64 m] 55)).heap.size := by simp
    have CR := Lib.hid (CR0.out _ HR.out.g)
    clear CR0
    go_wp2_with fail
    refine CR.out.mono ?_
    rintro e w2 ⟨rfl, g2⟩
    have HR2 := Lib.hid (HR.out.kept g2)
    have e0 := (g2.cell_far ⟨w1.heap.size, 0, none⟩ hsE (by simp)).trans e0
    have e1 := (g2.cell_far ⟨w1.heap.size, 1, none⟩ hsE (by simp)).trans e1
    have e2 := (g2.cell_far ⟨w1.heap.size, 2, none⟩ hsE (by simp)).trans e2
    have e3 := (g2.cell_far ⟨w1.heap.size, 3, none⟩ hsE (by simp)).trans e3
    have e4 := (g2.cell_far ⟨w1.heap.size, 4, none⟩ hsE (by simp)).trans e4
    have e5 := (g2.cell_far ⟨w1.heap.size, 5, none⟩ hsE (by simp)).trans e5
    have e6 := (g2.cell_far ⟨w1.heap.size, 6, none⟩ hsE (by simp)).trans e6
    have e7 := (g2.cell_far ⟨w1.heap.size, 7, none⟩ hsE (by simp)).trans e7
    have e8 := (g2.cell_far ⟨w1.heap.size, 8, none⟩ hsE (by simp)).trans e8
    clear g2 CR
    generalize w1.heap.size = Y at *
    generalize hXX : w.heap.size = X at *
    clear hXX
    cases q with
    | false =>
      have hRf := HV.out
      simp only [Bool.and_false, if_neg (show ¬ (false = true) by decide)] at hRf
      unfold zE zC at hRf
      simp only at hRf
      subst hRf
      have z0 : w2.cell? ⟨X, 0, none⟩ = some (.int .i64 0) := HR2.out.r 0 (by decide)
      have zf0 := HR2.out.rf 0
      have z1 : w2.cell? ⟨X, 1, none⟩ = some (.int .i64 0) := HR2.out.r 1 (by decide)
      have zf1 := HR2.out.rf 1
      have z2 : w2.cell? ⟨X, 2, none⟩ = some (.int .i64 0) := HR2.out.r 2 (by decide)
      have zf2 := HR2.out.rf 2
      have z3 : w2.cell? ⟨X, 3, none⟩ = some (.int .i64 0) := HR2.out.r 3 (by decide)
      have zf3 := HR2.out.rf 3
      have z4 : w2.cell? ⟨X, 4, none⟩ = some (.int .u64 0) := HR2.out.r 4 (by decide)
      have zf4 := HR2.out.rf 4
      have z5 : w2.cell? ⟨X, 5, none⟩ = some (.int .u64 0) := HR2.out.r 5 (by decide)
      have zf5 := HR2.out.rf 5
      have z6 : w2.cell? ⟨X, 6, none⟩ = some (.int .u64 0) := HR2.out.r 6 (by decide)
      have zf6 := HR2.out.rf 6
      have z7 : w2.cell? ⟨X, 7, none⟩ = some (.int .i64 0) := HR2.out.r 7 (by decide)
      have zf7 := HR2.out.rf 7
      have z8 : w2.cell? ⟨X, 8, none⟩ = some (.int .i64 0) := HR2.out.r 8 (by decide)
      have zf8 := HR2.out.rf 8
      go_wp2
      have ho := put9_only w2 X (.int .i64 0) (.int .i64 0) (.int .i64 0) (.int .i64 0) (.int .u64 0) (.int .u64 0) (.int .u64 0) (.int .i64 0) (.int .i64 0)
      have hy := put9_at (w := w2) (X := X) (.int .i64 0) (.int .i64 0) (.int .i64 0) (.int .i64 0) (.int .u64 0) (.int .u64 0) (.int .u64 0) (.int .i64 0) (.int .i64 0) (fun i hi => HR2.out.some i hi)
      have y0 : (put9 w2 X (.int .i64 0) (.int .i64 0) (.int .i64 0) (.int .i64 0) (.int .u64 0) (.int .u64 0) (.int .u64 0) (.int .i64 0) (.int .i64 0)).cell? ⟨X, 0, none⟩ = some (.int .i64 0) := hy 0 (by decide)
      have y1 : (put9 w2 X (.int .i64 0) (.int .i64 0) (.int .i64 0) (.int .i64 0) (.int .u64 0) (.int .u64 0) (.int .u64 0) (.int .i64 0) (.int .i64 0)).cell? ⟨X, 1, none⟩ = some (.int .i64 0) := hy 1 (by decide)
      have y2 : (put9 w2 X (.int .i64 0) (.int .i64 0) (.int .i64 0) (.int .i64 0) (.int .u64 0) (.int .u64 0) (.int .u64 0) (.int .i64 0) (.int .i64 0)).cell? ⟨X, 2, none⟩ = some (.int .i64 0) := hy 2 (by decide)
      have y3 : (put9 w2 X (.int .i64 0) (.int .i64 0) (.int .i64 0) (.int .i64 0) (.int .u64 0) (.int .u64 0) (.int .u64 0) (.int .i64 0) (.int .i64 0)).cell? ⟨X, 3, none⟩ = some (.int .i64 0) := hy 3 (by decide)
      have y4 : (put9 w2 X (.int .i64 0) (.int .i64 0) (.int .i64 0) (.int .i64 0) (.int .u64 0) (.int .u64 0) (.int .u64 0) (.int .i64 0) (.int .i64 0)).cell? ⟨X, 4, none⟩ = some (.int .u64 0) := hy 4 (by decide)
      have y5 : (put9 w2 X (.int .i64 0) (.int .i64 0) (.int .i64 0) (.int .i64 0) (.int .u64 0) (.int .u64 0) (.int .u64 0) (.int .i64 0) (.int .i64 0)).cell? ⟨X, 5, none⟩ = some (.int .u64 0) := hy 5 (by decide)
      have y6 : (put9 w2 X (.int .i64 0) (.int .i64 0) (.int .i64 0) (.int .i64 0) (.int .u64 0) (.int .u64 0) (.int .u64 0) (.int .i64 0) (.int .i64 0)).cell? ⟨X, 6, none⟩ = some (.int .u64 0) := hy 6 (by decide)
      have y7 : (put9 w2 X (.int .i64 0) (.int .i64 0) (.int .i64 0) (.int .i64 0) (.int .u64 0) (.int .u64 0) (.int .u64 0) (.int .i64 0) (.int .i64 0)).cell? ⟨X, 7, none⟩ = some (.int .i64 0) := hy 7 (by decide)
      have y8 : (put9 w2 X (.int .i64 0) (.int .i64 0) (.int .i64 0) (.int .i64 0) (.int .u64 0) (.int .u64 0) (.int .u64 0) (.int .i64 0) (.int .i64 0)).cell? ⟨X, 8, none⟩ = some (.int .i64 0) := hy 8 (by decide)
      change bodyPost _ _ _ _ _ (put9 w2 X (.int .i64 0) (.int .i64 0) (.int .i64 0) (.int .i64 0) (.int .u64 0) (.int .u64 0) (.int .u64 0) (.int .i64 0) (.int .i64 0))
      clear hy
      generalize put9 w2 X (.int .i64 0) (.int .i64 0) (.int .i64 0) (.int .i64 0) (.int .u64 0) (.int .u64 0) (.int .u64 0) (.int .i64 0) (.int .i64 0) = wF at *
      exact bodyPost_ret (v := .tuple #[.agg #[.int .i64 0, .int .i64 0, .int .i64 0, .int .i64 0, .int .u64 0, .int .u64 0, .int .u64 0, .int .i64 0, .int .i64 0], .bool false]) (by simp [results, Tryd.results31, go_sem, y0, y1, y2, y3, y4, y5, y6, y7, y8]) rfl ⟨rfl, Only.on HR2.out.g ho HR2.out.xw⟩
    | true =>
      have hRt := HV.out
      simp only [Bool.and_true, if_true] at hRt
      subst hRt
      have z0 : w2.cell? ⟨X, 0, none⟩ = some (.int .i64 0) := HR2.out.r 0 (by decide)
      have zf0 := HR2.out.rf 0
      have z1 : w2.cell? ⟨X, 1, none⟩ = some (.int .i64 0) := HR2.out.r 1 (by decide)
      have zf1 := HR2.out.rf 1
      have z2 : w2.cell? ⟨X, 2, none⟩ = some (.int .i64 0) := HR2.out.r 2 (by decide)
      have zf2 := HR2.out.rf 2
      have z3 : w2.cell? ⟨X, 3, none⟩ = some (.int .i64 0) := HR2.out.r 3 (by decide)
      have zf3 := HR2.out.rf 3
      have z4 : w2.cell? ⟨X, 4, none⟩ = some (.int .u64 0) := HR2.out.r 4 (by decide)
      have zf4 := HR2.out.rf 4
      have z5 : w2.cell? ⟨X, 5, none⟩ = some (.int .u64 0) := HR2.out.r 5 (by decide)
      have zf5 := HR2.out.rf 5
      have z6 : w2.cell? ⟨X, 6, none⟩ = some (.int .u64 0) := HR2.out.r 6 (by decide)
      have zf6 := HR2.out.rf 6
      have z7 : w2.cell? ⟨X, 7, none⟩ = some (.int .i64 0) := HR2.out.r 7 (by decide)
      have zf7 := HR2.out.rf 7
      have z8 : w2.cell? ⟨X, 8, none⟩ = some (.int .i64 0) := HR2.out.r 8 (by decide)
      have zf8 := HR2.out.rf 8
      go_wp2
      have ho := put9_only w2 X (.int .i64 k) (.int .i64 who) (.int .i64 n) (.int .i64 op) (.int .u64 (a : Nat)) (.int .u64 (b : Nat)) (.int .u64 (c : Nat)) (.int .i64 d) (.int .i64 m)
      have hy := put9_at (w := w2) (X := X) (.int .i64 k) (.int .i64 who) (.int .i64 n) (.int .i64 op) (.int .u64 (a : Nat)) (.int .u64 (b : Nat)) (.int .u64 (c : Nat)) (.int .i64 d) (.int .i64 m) (fun i hi => HR2.out.some i hi)
      have y0 : (put9 w2 X (.int .i64 k) (.int .i64 who) (.int .i64 n) (.int .i64 op) (.int .u64 (a : Nat)) (.int .u64 (b : Nat)) (.int .u64 (c : Nat)) (.int .i64 d) (.int .i64 m)).cell? ⟨X, 0, none⟩ = some (.int .i64 k) := hy 0 (by decide)
      have y1 : (put9 w2 X (.int .i64 k) (.int .i64 who) (.int .i64 n) (.int .i64 op) (.int .u64 (a : Nat)) (.int .u64 (b : Nat)) (.int .u64 (c : Nat)) (.int .i64 d) (.int .i64 m)).cell? ⟨X, 1, none⟩ = some (.int .i64 who) := hy 1 (by decide)
      have y2 : (put9 w2 X (.int .i64 k) (.int .i64 who) (.int .i64 n) (.int .i64 op) (.int .u64 (a : Nat)) (.int .u64 (b : Nat)) (.int .u64 (c : Nat)) (.int .i64 d) (.int .i64 m)).cell? ⟨X, 2, none⟩ = some (.int .i64 n) := hy 2 (by decide)
      have y3 : (put9 w2 X (.int .i64 k) (.int .i64 who) (.int .i64 n) (.int .i64 op) (.int .u64 (a : Nat)) (.int .u64 (b : Nat)) (.int .u64 (c : Nat)) (.int .i64 d) (.int .i64 m)).cell? ⟨X, 3, none⟩ = some (.int .i64 op) := hy 3 (by decide)
      have y4 : (put9 w2 X (.int .i64 k) (.int .i64 who) (.int .i64 n) (.int .i64 op) (.int .u64 (a : Nat)) (.int .u64 (b : Nat)) (.int .u64 (c : Nat)) (.int .i64 d) (.int .i64 m)).cell? ⟨X, 4, none⟩ = some (.int .u64 (a : Nat)) := hy 4 (by decide)
      have y5 : (put9 w2 X (.int .i64 k) (.int .i64 who) (.int .i64 n) (.int .i64 op) (.int .u64 (a : Nat)) (.int .u64 (b : Nat)) (.int .u64 (c : Nat)) (.int .i64 d) (.int .i64 m)).cell? ⟨X, 5, none⟩ = some (.int .u64 (b : Nat)) := hy 5 (by decide)
      have y6 : (put9 w2 X (.int .i64 k) (.int .i64 who) (.int .i64 n) (.int .i64 op) (.int .u64 (a : Nat)) (.int .u64 (b : Nat)) (.int .u64 (c : Nat)) (.int .i64 d) (.int .i64 m)).cell? ⟨X, 6, none⟩ = some (.int .u64 (c : Nat)) := hy 6 (by decide)
      have y7 : (put9 w2 X (.int .i64 k) (.int .i64 who) (.int .i64 n) (.int .i64 op) (.int .u64 (a : Nat)) (.int .u64 (b : Nat)) (.int .u64 (c : Nat)) (.int .i64 d) (.int .i64 m)).cell? ⟨X, 7, none⟩ = some (.int .i64 d) := hy 7 (by decide)
      have y8 : (put9 w2 X (.int .i64 k) (.int .i64 who) (.int .i64 n) (.int .i64 op) (.int .u64 (a : Nat)) (.int .u64 (b : Nat)) (.int .u64 (c : Nat)) (.int .i64 d) (.int .i64 m)).cell? ⟨X, 8, none⟩ = some (.int .i64 m) := hy 8 (by decide)
      change bodyPost _ _ _ _ _ (put9 w2 X (.int .i64 k) (.int .i64 who) (.int .i64 n) (.int .i64 op) (.int .u64 (a : Nat)) (.int .u64 (b : Nat)) (.int .u64 (c : Nat)) (.int .i64 d) (.int .i64 m))
      clear hy
      generalize put9 w2 X (.int .i64 k) (.int .i64 who) (.int .i64 n) (.int .i64 op) (.int .u64 (a : Nat)) (.int .u64 (b : Nat)) (.int .u64 (c : Nat)) (.int .i64 d) (.int .i64 m) = wF at *
      exact bodyPost_ret (v := .tuple #[.agg #[.int .i64 k, .int .i64 who, .int .i64 n, .int .i64 op, .int .u64 (a : Nat), .int .u64 (b : Nat), .int .u64 (c : Nat), .int .i64 d, .int .i64 m], .bool true]) (by simp [results, Tryd.results31, go_sem, y0, y1, y2, y3, y4, y5, y6, y7, y8]) rfl ⟨rfl, Only.on HR2.out.g ho HR2.out.xw⟩
end Go.Proofs.YtcnojgkolpdomaaDoor
