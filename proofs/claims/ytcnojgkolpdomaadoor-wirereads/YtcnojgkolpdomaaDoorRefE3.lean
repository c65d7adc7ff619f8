/-
  nightjarref15.One, over this seat's translation.
-/
import Derived.Test.YtcnojgkolpdomaaDoorRefE1
import Derived.Test.YtcnojgkolpdomaaDoorRefC3
import Derived.Test.YtcnojgkolpdomaaDoorWire5
namespace Go.Proofs.YtcnojgkolpdomaaDoor
open Go.RowKit Go.Lib
set_option maxRecDepth 100000
set_option linter.unusedVariables false

theorem erV_raw {F : List Nat} {e : En} (h : rawE F = e) : erV F = if okE e = true then .tuple #[e.val, .bool true] else .tuple #[zE.val, .bool false] := by
  unfold erV er
  rw [h]
  split <;> rfl

set_option maxHeartbeats 4000000 in
theorem rone_n {w : World} {v : Value} {F : List Nat} (H : ReadsB w v F) (h3 : F.length ≠ 3) (h4 : F.length ≠ 4) (h27 : F.length ≠ 27) :
    Calls Tryd.prog 32 #[v] w fun r w' => r = .returned (erV F) ∧ w.grownBy w' none := by
  obtain ⟨R, hR⟩ : ∃ R, R = erV F := ⟨_, rfl⟩
  rw [← hR]
  have hraw : rawE F = zE := by unfold rawE; simp [h3, h4, h27]
  rw [erV_raw hraw] at hR
  have hsm : smC (zE : En).call := ⟨by show (0 : Nat) < 18446744073709551616; decide, by show (0 : Nat) < 18446744073709551616; decide, by show (0 : Nat) < 18446744073709551616; decide⟩
  have CR0 := Lib.hid (fun (wz : World) => rrightE (w := wz) zE hsm)
  obtain ⟨q, hq⟩ : ∃ q, q = okE zE := ⟨_, rfl⟩
  rw [← hq] at hR CR0
  have HV := Lib.hid hR
  unfold En.val zE at HV CR0
  try unfold zC at HV CR0
  simp only at HV CR0
  clear hR hraw hsm hq
  have k1 := World.grownBy_alloc w (.cells #[.int .i64 0, .int .i64 0, .int .i64 0, .int .i64 0, .int .u64 0, .int .u64 0, .int .u64 0, .int .i64 0, .int .i64 0] 55) none
  have k2 := World.grownBy_alloc (w.alloc (.cells #[.int .i64 0, .int .i64 0, .int .i64 0, .int .i64 0, .int .u64 0, .int .u64 0, .int .u64 0, .int .i64 0, .int .i64 0] 55)) (.cells #[.int .i64 0, .int .i64 0, .int .i64 0, .int .i64 0, .int .u64 0, .int .u64 0, .int .u64 0, .int .i64 0, .int .i64 0] 55) none
  have hsz : (w.alloc (.cells #[.int .i64 0, .int .i64 0, .int .i64 0, .int .i64 0, .int .u64 0, .int .u64 0, .int .u64 0, .int .i64 0, .int .i64 0] 55)).heap.size = w.heap.size + 1 := by simp
  have HR0 := Lib.hid ((rese_new (World.grownBy.refl w none)).kept k2)
  have HY0 := rese_new (w := w) k1
  rw [hsz] at HY0
  have HY0 := Lib.hid HY0
  have kz := Lib.hid (k1.trans k2)
  clear k1 k2 hsz
  obtain ⟨a0, cap, rfl, hx1, hx2, hx3, hx4⟩ := H
  clear hx1 hx2 hx3 hx4
  generalize F.length = n at *
  have q3 : (((n : Nat) : Int) == 3) = false := by rw [beq_eq_false_iff_ne]; omega
  have q4 : (((n : Nat) : Int) == 4) = false := by rw [beq_eq_false_iff_ne]; omega
  have q5 : (((n : Nat) : Int) == 27) = false := by rw [beq_eq_false_iff_ne]; omega
  clear h3 h4 h27
  have e0 : ((w.alloc (.cells #[.int .i64 0, .int .i64 0, .int .i64 0, .int .i64 0, .int .u64 0, .int .u64 0, .int .u64 0, .int .i64 0, .int .i64 0] 55)).alloc (.cells #[.int .i64 0, .int .i64 0, .int .i64 0, .int .i64 0, .int .u64 0, .int .u64 0, .int .u64 0, .int .i64 0, .int .i64 0] 55)).cell? ⟨w.heap.size + 1, 0, none⟩ = some (.int .i64 0) := HY0.out.r 0 (by decide)
  have e1 : ((w.alloc (.cells #[.int .i64 0, .int .i64 0, .int .i64 0, .int .i64 0, .int .u64 0, .int .u64 0, .int .u64 0, .int .i64 0, .int .i64 0] 55)).alloc (.cells #[.int .i64 0, .int .i64 0, .int .i64 0, .int .i64 0, .int .u64 0, .int .u64 0, .int .u64 0, .int .i64 0, .int .i64 0] 55)).cell? ⟨w.heap.size + 1, 1, none⟩ = some (.int .i64 0) := HY0.out.r 1 (by decide)
  have e2 : ((w.alloc (.cells #[.int .i64 0, .int .i64 0, .int .i64 0, .int .i64 0, .int .u64 0, .int .u64 0, .int .u64 0, .int .i64 0, .int .i64 0] 55)).alloc (.cells #[.int .i64 0, .int .i64 0, .int .i64 0, .int .i64 0, .int .u64 0, .int .u64 0, .int .u64 0, .int .i64 0, .int .i64 0] 55)).cell? ⟨w.heap.size + 1, 2, none⟩ = some (.int .i64 0) := HY0.out.r 2 (by decide)
  have e3 : ((w.alloc (.cells #[.int .i64 0, .int .i64 0, .int .i64 0, .int .i64 0, .int .u64 0, .int .u64 0, .int .u64 0, .int .i64 0, .int .i64 0] 55)).alloc (.cells #[.int .i64 0, .int .i64 0, .int .i64 0, .int .i64 0, .int .u64 0, .int .u64 0, .int .u64 0, .int .i64 0, .int .i64 0] 55)).cell? ⟨w.heap.size + 1, 3, none⟩ = some (.int .i64 0) := HY0.out.r 3 (by decide)
  have e4 : ((w.alloc (.cells #[.int .i64 0, .int .i64 0, .int .i64 0, .int .i64 0, .int .u64 0, .int .u64 0, .int .u64 0, .int .i64 0, .int .i64 0] 55)).alloc (.cells #[.int .i64 0, .int .i64 0, .int .i64 0, .int .i64 0, .int .u64 0, .int .u64 0, .int .u64 0, .int .i64 0, .int .i64 0] 55)).cell? ⟨w.heap.size + 1, 4, none⟩ = some (.int .u64 0) := HY0.out.r 4 (by decide)
  have e5 : ((w.alloc (.cells #[.int .i64 0, .int .i64 0, .int .i64 0, .int .i64 0, .int .u64 0, .int .u64 0, .int .u64 0, .int .i64 0, .int .i64 0] 55)).alloc (.cells #[.int .i64 0, .int .i64 0, .int .i64 0, .int .i64 0, .int .u64 0, .int .u64 0, .int .u64 0, .int .i64 0, .int .i64 0] 55)).cell? ⟨w.heap.size + 1, 5, none⟩ = some (.int .u64 0) := HY0.out.r 5 (by decide)
  have e6 : ((w.alloc (.cells #[.int .i64 0, .int .i64 0, .int .i64 0, .int .i64 0, .int .u64 0, .int .u64 0, .int .u64 0, .int .i64 0, .int .i64 0] 55)).alloc (.cells #[.int .i64 0, .int .i64 0, .int .i64 0, .int .i64 0, .int .u64 0, .int .u64 0, .int .u64 0, .int .i64 0, .int .i64 0] 55)).cell? ⟨w.heap.size + 1, 6, none⟩ = some (.int .u64 0) := HY0.out.r 6 (by decide)
  have e7 : ((w.alloc (.cells #[.int .i64 0, .int .i64 0, .int .i64 0, .int .i64 0, .int .u64 0, .int .u64 0, .int .u64 0, .int .i64 0, .int .i64 0] 55)).alloc (.cells #[.int .i64 0, .int .i64 0, .int .i64 0, .int .i64 0, .int .u64 0, .int .u64 0, .int .u64 0, .int .i64 0, .int .i64 0] 55)).cell? ⟨w.heap.size + 1, 7, none⟩ = some (.int .i64 0) := HY0.out.r 7 (by decide)
  have e8 : ((w.alloc (.cells #[.int .i64 0, .int .i64 0, .int .i64 0, .int .i64 0, .int .u64 0, .int .u64 0, .int .u64 0, .int .i64 0, .int .i64 0] 55)).alloc (.cells #[.int .i64 0, .int .i64 0, .int .i64 0, .int .i64 0, .int .u64 0, .int .u64 0, .int .u64 0, .int .i64 0, .int .i64 0] 55)).cell? ⟨w.heap.size + 1, 8, none⟩ = some (.int .i64 0) := HY0.out.r 8 (by decide)
  go_enter Tryd.func32, Tryd.ntmps32
  go_wp2_with fail
  have HR := HR0
  have HY := HY0
  have hXY : w.heap.size ≠ w.heap.size + 1 := by omega
  have hXle : w.heap.size ≤ w.heap.size + 1 := by omega
  have hsE := HY0.out.sz
  clear HR0 HY0
  generalize ((w.alloc (.cells #[.int .i64 0, .int .i64 0, .int .i64 0, .int .i64 0, .int .u64 0, .int .u64 0, .int .u64 0, .int .i64 0, .int .i64 0] 55)).alloc (.cells #[.int .i64 0, .int .i64 0, .int .i64 0, .int .i64 0, .int .u64 0, .int .u64 0, .int .u64 0, .int .i64 0, .int .i64 0] 55)) = wr at *
  generalize w.heap.size + 1 = Y at *
  generalize hXX : w.heap.size = X at *
  clear hXX
  clear HY
  have CR := Lib.hid (CR0.out wr)
  clear CR0
  refine CR.out.mono ?_
  rintro e w2 ⟨rfl, g2⟩
  have HR2 := Lib.hid (HR.out.kept g2)
  have e0 := (g2.cell_far ⟨Y, 0, none⟩ hsE (by simp)).trans e0
  have e1 := (g2.cell_far ⟨Y, 1, none⟩ hsE (by simp)).trans e1
  have e2 := (g2.cell_far ⟨Y, 2, none⟩ hsE (by simp)).trans e2
  have e3 := (g2.cell_far ⟨Y, 3, none⟩ hsE (by simp)).trans e3
  have e4 := (g2.cell_far ⟨Y, 4, none⟩ hsE (by simp)).trans e4
  have e5 := (g2.cell_far ⟨Y, 5, none⟩ hsE (by simp)).trans e5
  have e6 := (g2.cell_far ⟨Y, 6, none⟩ hsE (by simp)).trans e6
  have e7 := (g2.cell_far ⟨Y, 7, none⟩ hsE (by simp)).trans e7
  have e8 := (g2.cell_far ⟨Y, 8, none⟩ hsE (by simp)).trans e8
  clear g2 CR
  cases q with
  | false =>
    have hRf := HV.out
    simp only [if_neg (show ¬ (false = true) by decide)] at hRf
    try unfold zE at hRf
    try unfold zC at hRf
    try simp only at hRf
    subst hRf
    have z0 : w2.cell? ⟨X, 0, none⟩ = some (.int .i64 0) := HR2.out.r 0 (by decide)
    have zf0 := HR2.out.rf 0
    have z1 : w2.cell? ⟨X, 1, none⟩ = some (.int .i64 0) := HR2.out.r 1 (by decide)
    have zf1 := HR2.out.rf 1
    have z2 : w2.cell? ⟨X, 2, none⟩ = some (.int .i64 0) := HR2.out.r 2 (by decide)
    have zf2 := HR2.out.rf 2
    have z3 : w2.cell? ⟨X, 3, none⟩ = some (.int .i64 0) := HR2.out.r 3 (by decide)
    have zf3 := HR2.out.rf 3
    have z4 : w2.cell? ⟨X, 4, none⟩ = some (.int .u64 0) := HR2.out.r 4 (by decide)
    have zf4 := HR2.out.rf 4
    have z5 : w2.cell? ⟨X, 5, none⟩ = some (.int .u64 0) := HR2.out.r 5 (by decide)
    have zf5 := HR2.out.rf 5
    have z6 : w2.cell? ⟨X, 6, none⟩ = some (.int .u64 0) := HR2.out.r 6 (by decide)
    have zf6 := HR2.out.rf 6
    have z7 : w2.cell? ⟨X, 7, none⟩ = some (.int .i64 0) := HR2.out.r 7 (by decide)
    have zf7 := HR2.out.rf 7
    have z8 : w2.cell? ⟨X, 8, none⟩ = some (.int .i64 0) := HR2.out.r 8 (by decide)
    have zf8 := HR2.out.rf 8
    go_wp2
    have ho := put9_only w2 X (.int .i64 0) (.int .i64 0) (.int .i64 0) (.int .i64 0) (.int .u64 0) (.int .u64 0) (.int .u64 0) (.int .i64 0) (.int .i64 0)
    have hy := put9_at (w := w2) (X := X) (.int .i64 0) (.int .i64 0) (.int .i64 0) (.int .i64 0) (.int .u64 0) (.int .u64 0) (.int .u64 0) (.int .i64 0) (.int .i64 0) (fun i hi => HR2.out.some i hi)
    have y0 : (put9 w2 X (.int .i64 0) (.int .i64 0) (.int .i64 0) (.int .i64 0) (.int .u64 0) (.int .u64 0) (.int .u64 0) (.int .i64 0) (.int .i64 0)).cell? ⟨X, 0, none⟩ = some (.int .i64 0) := hy 0 (by decide)
    have y1 : (put9 w2 X (.int .i64 0) (.int .i64 0) (.int .i64 0) (.int .i64 0) (.int .u64 0) (.int .u64 0) (.int .u64 0) (.int .i64 0) (.int .i64 0)).cell? ⟨X, 1, none⟩ = some (.int .i64 0) := hy 1 (by decide)
    have y2 : (put9 w2 X (.int .i64 0) (.int .i64 0) (.int .i64 0) (.int .i64 0) (.int .u64 0) (.int .u64 0) (.int .u64 0) (.int .i64 0) (.int .i64 0)).cell? ⟨X, 2, none⟩ = some (.int .i64 0) := hy 2 (by decide)
    have y3 : (put9 w2 X (.int .i64 0) (.int .i64 0) (.int .i64 0) (.int .i64 0) (.int .u64 0) (.int .u64 0) (.int .u64 0) (.int .i64 0) (.int .i64 0)).cell? ⟨X, 3, none⟩ = some (.int .i64 0) := hy 3 (by decide)
    have y4 : (put9 w2 X (.int .i64 0) (.int .i64 0) (.int .i64 0) (.int .i64 0) (.int .u64 0) (.int .u64 0) (.int .u64 0) (.int .i64 0) (.int .i64 0)).cell? ⟨X, 4, none⟩ = some (.int .u64 0) := hy 4 (by decide)
    have y5 : (put9 w2 X (.int .i64 0) (.int .i64 0) (.int .i64 0) (.int .i64 0) (.int .u64 0) (.int .u64 0) (.int .u64 0) (.int .i64 0) (.int .i64 0)).cell? ⟨X, 5, none⟩ = some (.int .u64 0) := hy 5 (by decide)
    have y6 : (put9 w2 X (.int .i64 0) (.int .i64 0) (.int .i64 0) (.int .i64 0) (.int .u64 0) (.int .u64 0) (.int .u64 0) (.int .i64 0) (.int .i64 0)).cell? ⟨X, 6, none⟩ = some (.int .u64 0) := hy 6 (by decide)
    have y7 : (put9 w2 X (.int .i64 0) (.int .i64 0) (.int .i64 0) (.int .i64 0) (.int .u64 0) (.int .u64 0) (.int .u64 0) (.int .i64 0) (.int .i64 0)).cell? ⟨X, 7, none⟩ = some (.int .i64 0) := hy 7 (by decide)
    have y8 : (put9 w2 X (.int .i64 0) (.int .i64 0) (.int .i64 0) (.int .i64 0) (.int .u64 0) (.int .u64 0) (.int .u64 0) (.int .i64 0) (.int .i64 0)).cell? ⟨X, 8, none⟩ = some (.int .i64 0) := hy 8 (by decide)
    change bodyPost _ _ _ _ _ (put9 w2 X (.int .i64 0) (.int .i64 0) (.int .i64 0) (.int .i64 0) (.int .u64 0) (.int .u64 0) (.int .u64 0) (.int .i64 0) (.int .i64 0))
    clear hy
    generalize put9 w2 X (.int .i64 0) (.int .i64 0) (.int .i64 0) (.int .i64 0) (.int .u64 0) (.int .u64 0) (.int .u64 0) (.int .i64 0) (.int .i64 0) = wF at *
    exact bodyPost_ret (v := .tuple #[.agg #[.int .i64 0, .int .i64 0, .int .i64 0, .int .i64 0, .int .u64 0, .int .u64 0, .int .u64 0, .int .i64 0, .int .i64 0], .bool false]) (by simp [results, Tryd.results32, go_sem, y0, y1, y2, y3, y4, y5, y6, y7, y8]) rfl ⟨rfl, Only.on HR2.out.g ho HR2.out.xw⟩
  | true =>
    have hRf := HV.out
    simp only [if_true] at hRf
    subst hRf
    have z0 : w2.cell? ⟨X, 0, none⟩ = some (.int .i64 0) := HR2.out.r 0 (by decide)
    have zf0 := HR2.out.rf 0
    have z1 : w2.cell? ⟨X, 1, none⟩ = some (.int .i64 0) := HR2.out.r 1 (by decide)
    have zf1 := HR2.out.rf 1
    have z2 : w2.cell? ⟨X, 2, none⟩ = some (.int .i64 0) := HR2.out.r 2 (by decide)
    have zf2 := HR2.out.rf 2
    have z3 : w2.cell? ⟨X, 3, none⟩ = some (.int .i64 0) := HR2.out.r 3 (by decide)
    have zf3 := HR2.out.rf 3
    have z4 : w2.cell? ⟨X, 4, none⟩ = some (.int .u64 0) := HR2.out.r 4 (by decide)
    have zf4 := HR2.out.rf 4
    have z5 : w2.cell? ⟨X, 5, none⟩ = some (.int .u64 0) := HR2.out.r 5 (by decide)
    have zf5 := HR2.out.rf 5
    have z6 : w2.cell? ⟨X, 6, none⟩ = some (.int .u64 0) := HR2.out.r 6 (by decide)
    have zf6 := HR2.out.rf 6
    have z7 : w2.cell? ⟨X, 7, none⟩ = some (.int .i64 0) := HR2.out.r 7 (by decide)
    have zf7 := HR2.out.rf 7
    have z8 : w2.cell? ⟨X, 8, none⟩ = some (.int .i64 0) := HR2.out.r 8 (by decide)
    have zf8 := HR2.out.rf 8
    go_wp2
    have ho := put9_only w2 X (.int .i64 0) (.int .i64 0) (.int .i64 0) (.int .i64 0) (.int .u64 0) (.int .u64 0) (.int .u64 0) (.int .i64 0) (.int .i64 0)
    have hy := put9_at (w := w2) (X := X) (.int .i64 0) (.int .i64 0) (.int .i64 0) (.int .i64 0) (.int .u64 0) (.int .u64 0) (.int .u64 0) (.int .i64 0) (.int .i64 0) (fun i hi => HR2.out.some i hi)
    have y0 : (put9 w2 X (.int .i64 0) (.int .i64 0) (.int .i64 0) (.int .i64 0) (.int .u64 0) (.int .u64 0) (.int .u64 0) (.int .i64 0) (.int .i64 0)).cell? ⟨X, 0, none⟩ = some (.int .i64 0) := hy 0 (by decide)
    have y1 : (put9 w2 X (.int .i64 0) (.int .i64 0) (.int .i64 0) (.int .i64 0) (.int .u64 0) (.int .u64 0) (.int .u64 0) (.int .i64 0) (.int .i64 0)).cell? ⟨X, 1, none⟩ = some (.int .i64 0) := hy 1 (by decide)
    have y2 : (put9 w2 X (.int .i64 0) (.int .i64 0) (.int .i64 0) (.int .i64 0) (.int .u64 0) (.int .u64 0) (.int .u64 0) (.int .i64 0) (.int .i64 0)).cell? ⟨X, 2, none⟩ = some (.int .i64 0) := hy 2 (by decide)
    have y3 : (put9 w2 X (.int .i64 0) (.int .i64 0) (.int .i64 0) (.int .i64 0) (.int .u64 0) (.int .u64 0) (.int .u64 0) (.int .i64 0) (.int .i64 0)).cell? ⟨X, 3, none⟩ = some (.int .i64 0) := hy 3 (by decide)
    have y4 : (put9 w2 X (.int .i64 0) (.int .i64 0) (.int .i64 0) (.int .i64 0) (.int .u64 0) (.int .u64 0) (.int .u64 0) (.int .i64 0) (.int .i64 0)).cell? ⟨X, 4, none⟩ = some (.int .u64 0) := hy 4 (by decide)
    have y5 : (put9 w2 X (.int .i64 0) (.int .i64 0) (.int .i64 0) (.int .i64 0) (.int .u64 0) (.int .u64 0) (.int .u64 0) (.int .i64 0) (.int .i64 0)).cell? ⟨X, 5, none⟩ = some (.int .u64 0) := hy 5 (by decide)
    have y6 : (put9 w2 X (.int .i64 0) (.int .i64 0) (.int .i64 0) (.int .i64 0) (.int .u64 0) (.int .u64 0) (.int .u64 0) (.int .i64 0) (.int .i64 0)).cell? ⟨X, 6, none⟩ = some (.int .u64 0) := hy 6 (by decide)
    have y7 : (put9 w2 X (.int .i64 0) (.int .i64 0) (.int .i64 0) (.int .i64 0) (.int .u64 0) (.int .u64 0) (.int .u64 0) (.int .i64 0) (.int .i64 0)).cell? ⟨X, 7, none⟩ = some (.int .i64 0) := hy 7 (by decide)
    have y8 : (put9 w2 X (.int .i64 0) (.int .i64 0) (.int .i64 0) (.int .i64 0) (.int .u64 0) (.int .u64 0) (.int .u64 0) (.int .i64 0) (.int .i64 0)).cell? ⟨X, 8, none⟩ = some (.int .i64 0) := hy 8 (by decide)
    change bodyPost _ _ _ _ _ (put9 w2 X (.int .i64 0) (.int .i64 0) (.int .i64 0) (.int .i64 0) (.int .u64 0) (.int .u64 0) (.int .u64 0) (.int .i64 0) (.int .i64 0))
    clear hy
    generalize put9 w2 X (.int .i64 0) (.int .i64 0) (.int .i64 0) (.int .i64 0) (.int .u64 0) (.int .u64 0) (.int .u64 0) (.int .i64 0) (.int .i64 0) = wF at *
    exact bodyPost_ret (v := .tuple #[.agg #[.int .i64 0, .int .i64 0, .int .i64 0, .int .i64 0, .int .u64 0, .int .u64 0, .int .u64 0, .int .i64 0, .int .i64 0], .bool true]) (by simp [results, Tryd.results32, go_sem, y0, y1, y2, y3, y4, y5, y6, y7, y8]) rfl ⟨rfl, Only.on HR2.out.g ho HR2.out.xw⟩

set_option maxHeartbeats 4000000 in
theorem rone_x3 {w : World} {v : Value} {F : List Nat} (H : ReadsB w v F) (hl : F.length = 3) (h0 : F.getD 0 0 ≠ 0) :
    Calls Tryd.prog 32 #[v] w fun r w' => r = .returned (erV F) ∧ w.grownBy w' none := by
  obtain ⟨R, hR⟩ : ∃ R, R = erV F := ⟨_, rfl⟩
  rw [← hR]
  have hraw : rawE F = zE := by unfold rawE; rw [hl]; simp [show ¬ (F[0]?.getD 0 = 0) from fun h => h0 (by rw [List.getD_eq_getElem?_getD]; exact h)]
  rw [erV_raw hraw] at hR
  have hsm : smC (zE : En).call := ⟨by show (0 : Nat) < 18446744073709551616; decide, by show (0 : Nat) < 18446744073709551616; decide, by show (0 : Nat) < 18446744073709551616; decide⟩
  have CR0 := Lib.hid (fun (wz : World) => rrightE (w := wz) zE hsm)
  obtain ⟨q, hq⟩ : ∃ q, q = okE zE := ⟨_, rfl⟩
  rw [← hq] at hR CR0
  have HV := Lib.hid hR
  unfold En.val zE at HV CR0
  try unfold zC at HV CR0
  simp only at HV CR0
  clear hR hraw hsm hq
  have k1 := World.grownBy_alloc w (.cells #[.int .i64 0, .int .i64 0, .int .i64 0, .int .i64 0, .int .u64 0, .int .u64 0, .int .u64 0, .int .i64 0, .int .i64 0] 55) none
  have k2 := World.grownBy_alloc (w.alloc (.cells #[.int .i64 0, .int .i64 0, .int .i64 0, .int .i64 0, .int .u64 0, .int .u64 0, .int .u64 0, .int .i64 0, .int .i64 0] 55)) (.cells #[.int .i64 0, .int .i64 0, .int .i64 0, .int .i64 0, .int .u64 0, .int .u64 0, .int .u64 0, .int .i64 0, .int .i64 0] 55) none
  have hsz : (w.alloc (.cells #[.int .i64 0, .int .i64 0, .int .i64 0, .int .i64 0, .int .u64 0, .int .u64 0, .int .u64 0, .int .i64 0, .int .i64 0] 55)).heap.size = w.heap.size + 1 := by simp
  have HR0 := Lib.hid ((rese_new (World.grownBy.refl w none)).kept k2)
  have HY0 := rese_new (w := w) k1
  rw [hsz] at HY0
  have HY0 := Lib.hid HY0
  have kz := Lib.hid (k1.trans k2)
  clear k1 k2 hsz
  obtain ⟨a0, cap, rfl, hx1, hx2, hx3, hx4⟩ := H
  obtain ⟨b, o, rfl, hb, hc⟩ := hx4 (by omega)
  have HH : Hid (ReadsB w (.slice (some ⟨b, o, none⟩) F.length cap) F) := Lib.hid ⟨_, cap, rfl, hx1, hx2, hx3, hx4⟩
  have hcap : F.length ≤ cap := hx1
  clear hx1 hx2 hx4 hc
  have c0 := ((HH.out.grown kz.out).get 0 (by omega)).1
  have b0 := ((HH.out.grown kz.out).get 0 (by omega)).2.1
  rw [Nat.add_zero] at c0
  have hneb : b ≠ w.heap.size := by omega
  have hneb1 : b ≠ w.heap.size + 1 := by omega
  rw [hl]
  generalize F.getD 0 0 = f0 at *
  have q0 : (((f0 : Nat) : Int) == 0) = false := by rw [beq_eq_false_iff_ne]; omega
  clear b0 h0 HH hcap hl hb
  have e0 : ((w.alloc (.cells #[.int .i64 0, .int .i64 0, .int .i64 0, .int .i64 0, .int .u64 0, .int .u64 0, .int .u64 0, .int .i64 0, .int .i64 0] 55)).alloc (.cells #[.int .i64 0, .int .i64 0, .int .i64 0, .int .i64 0, .int .u64 0, .int .u64 0, .int .u64 0, .int .i64 0, .int .i64 0] 55)).cell? ⟨w.heap.size + 1, 0, none⟩ = some (.int .i64 0) := HY0.out.r 0 (by decide)
  have e1 : ((w.alloc (.cells #[.int .i64 0, .int .i64 0, .int .i64 0, .int .i64 0, .int .u64 0, .int .u64 0, .int .u64 0, .int .i64 0, .int .i64 0] 55)).alloc (.cells #[.int .i64 0, .int .i64 0, .int .i64 0, .int .i64 0, .int .u64 0, .int .u64 0, .int .u64 0, .int .i64 0, .int .i64 0] 55)).cell? ⟨w.heap.size + 1, 1, none⟩ = some (.int .i64 0) := HY0.out.r 1 (by decide)
  have e2 : ((w.alloc (.cells #[.int .i64 0, .int .i64 0, .int .i64 0, .int .i64 0, .int .u64 0, .int .u64 0, .int .u64 0, .int .i64 0, .int .i64 0] 55)).alloc (.cells #[.int .i64 0, .int .i64 0, .int .i64 0, .int .i64 0, .int .u64 0, .int .u64 0, .int .u64 0, .int .i64 0, .int .i64 0] 55)).cell? ⟨w.heap.size + 1, 2, none⟩ = some (.int .i64 0) := HY0.out.r 2 (by decide)
  have e3 : ((w.alloc (.cells #[.int .i64 0, .int .i64 0, .int .i64 0, .int .i64 0, .int .u64 0, .int .u64 0, .int .u64 0, .int .i64 0, .int .i64 0] 55)).alloc (.cells #[.int .i64 0, .int .i64 0, .int .i64 0, .int .i64 0, .int .u64 0, .int .u64 0, .int .u64 0, .int .i64 0, .int .i64 0] 55)).cell? ⟨w.heap.size + 1, 3, none⟩ = some (.int .i64 0) := HY0.out.r 3 (by decide)
  have e4 : ((w.alloc (.cells #[.int .i64 0, .int .i64 0, .int .i64 0, .int .i64 0, .int .u64 0, .int .u64 0, .int .u64 0, .int .i64 0, .int .i64 0] 55)).alloc (.cells #[.int .i64 0, .int .i64 0, .int .i64 0, .int .i64 0, .int .u64 0, .int .u64 0, .int .u64 0, .int .i64 0, .int .i64 0] 55)).cell? ⟨w.heap.size + 1, 4, none⟩ = some (.int .u64 0) := HY0.out.r 4 (by decide)
  have e5 : ((w.alloc (.cells #[.int .i64 0, .int .i64 0, .int .i64 0, .int .i64 0, .int .u64 0, .int .u64 0, .int .u64 0, .int .i64 0, .int .i64 0] 55)).alloc (.cells #[.int .i64 0, .int .i64 0, .int .i64 0, .int .i64 0, .int .u64 0, .int .u64 0, .int .u64 0, .int .i64 0, .int .i64 0] 55)).cell? ⟨w.heap.size + 1, 5, none⟩ = some (.int .u64 0) := HY0.out.r 5 (by decide)
  have e6 : ((w.alloc (.cells #[.int .i64 0, .int .i64 0, .int .i64 0, .int .i64 0, .int .u64 0, .int .u64 0, .int .u64 0, .int .i64 0, .int .i64 0] 55)).alloc (.cells #[.int .i64 0, .int .i64 0, .int .i64 0, .int .i64 0, .int .u64 0, .int .u64 0, .int .u64 0, .int .i64 0, .int .i64 0] 55)).cell? ⟨w.heap.size + 1, 6, none⟩ = some (.int .u64 0) := HY0.out.r 6 (by decide)
  have e7 : ((w.alloc (.cells #[.int .i64 0, .int .i64 0, .int .i64 0, .int .i64 0, .int .u64 0, .int .u64 0, .int .u64 0, .int .i64 0, .int .i64 0] 55)).alloc (.cells #[.int .i64 0, .int .i64 0, .int .i64 0, .int .i64 0, .int .u64 0, .int .u64 0, .int .u64 0, .int .i64 0, .int .i64 0] 55)).cell? ⟨w.heap.size + 1, 7, none⟩ = some (.int .i64 0) := HY0.out.r 7 (by decide)
  have e8 : ((w.alloc (.cells #[.int .i64 0, .int .i64 0, .int .i64 0, .int .i64 0, .int .u64 0, .int .u64 0, .int .u64 0, .int .i64 0, .int .i64 0] 55)).alloc (.cells #[.int .i64 0, .int .i64 0, .int .i64 0, .int .i64 0, .int .u64 0, .int .u64 0, .int .u64 0, .int .i64 0, .int .i64 0] 55)).cell? ⟨w.heap.size + 1, 8, none⟩ = some (.int .i64 0) := HY0.out.r 8 (by decide)
  go_enter Tryd.func32, Tryd.ntmps32
  go_wp2_with fail
  have HR := HR0
  have HY := HY0
  have hXY : w.heap.size ≠ w.heap.size + 1 := by omega
  have hXle : w.heap.size ≤ w.heap.size + 1 := by omega
  have hsE := HY0.out.sz
  clear HR0 HY0
  generalize ((w.alloc (.cells #[.int .i64 0, .int .i64 0, .int .i64 0, .int .i64 0, .int .u64 0, .int .u64 0, .int .u64 0, .int .i64 0, .int .i64 0] 55)).alloc (.cells #[.int .i64 0, .int .i64 0, .int .i64 0, .int .i64 0, .int .u64 0, .int .u64 0, .int .u64 0, .int .i64 0, .int .i64 0] 55)) = wr at *
  generalize w.heap.size + 1 = Y at *
  generalize hXX : w.heap.size = X at *
  clear hXX
  clear c0 HY
  have CR := Lib.hid (CR0.out wr)
  clear CR0
  refine CR.out.mono ?_
  rintro e w2 ⟨rfl, g2⟩
  have HR2 := Lib.hid (HR.out.kept g2)
  have e0 := (g2.cell_far ⟨Y, 0, none⟩ hsE (by simp)).trans e0
  have e1 := (g2.cell_far ⟨Y, 1, none⟩ hsE (by simp)).trans e1
  have e2 := (g2.cell_far ⟨Y, 2, none⟩ hsE (by simp)).trans e2
  have e3 := (g2.cell_far ⟨Y, 3, none⟩ hsE (by simp)).trans e3
  have e4 := (g2.cell_far ⟨Y, 4, none⟩ hsE (by simp)).trans e4
  have e5 := (g2.cell_far ⟨Y, 5, none⟩ hsE (by simp)).trans e5
  have e6 := (g2.cell_far ⟨Y, 6, none⟩ hsE (by simp)).trans e6
  have e7 := (g2.cell_far ⟨Y, 7, none⟩ hsE (by simp)).trans e7
  have e8 := (g2.cell_far ⟨Y, 8, none⟩ hsE (by simp)).trans e8
  clear g2 CR
  cases q with
  | false =>
    have hRf := HV.out
    simp only [if_neg (show ¬ (false = true) by decide)] at hRf
    try unfold zE at hRf
    try unfold zC at hRf
    try simp only at hRf
    subst hRf
    have z0 : w2.cell? ⟨X, 0, none⟩ = some (.int .i64 0) := HR2.out.r 0 (by decide)
    have zf0 := HR2.out.rf 0
    have z1 : w2.cell? ⟨X, 1, none⟩ = some (.int .i64 0) := HR2.out.r 1 (by decide)
    have zf1 := HR2.out.rf 1
    have z2 : w2.cell? ⟨X, 2, none⟩ = some (.int .i64 0) := HR2.out.r 2 (by decide)
    have zf2 := HR2.out.rf 2
    have z3 : w2.cell? ⟨X, 3, none⟩ = some (.int .i64 0) := HR2.out.r 3 (by decide)
    have zf3 := HR2.out.rf 3
    have z4 : w2.cell? ⟨X, 4, none⟩ = some (.int .u64 0) := HR2.out.r 4 (by decide)
    have zf4 := HR2.out.rf 4
    have z5 : w2.cell? ⟨X, 5, none⟩ = some (.int .u64 0) := HR2.out.r 5 (by decide)
    have zf5 := HR2.out.rf 5
    have z6 : w2.cell? ⟨X, 6, none⟩ = some (.int .u64 0) := HR2.out.r 6 (by decide)
    have zf6 := HR2.out.rf 6
    have z7 : w2.cell? ⟨X, 7, none⟩ = some (.int .i64 0) := HR2.out.r 7 (by decide)
    have zf7 := HR2.out.rf 7
    have z8 : w2.cell? ⟨X, 8, none⟩ = some (.int .i64 0) := HR2.out.r 8 (by decide)
    have zf8 := HR2.out.rf 8
    go_wp2
    have ho := put9_only w2 X (.int .i64 0) (.int .i64 0) (.int .i64 0) (.int .i64 0) (.int .u64 0) (.int .u64 0) (.int .u64 0) (.int .i64 0) (.int .i64 0)
    have hy := put9_at (w := w2) (X := X) (.int .i64 0) (.int .i64 0) (.int .i64 0) (.int .i64 0) (.int .u64 0) (.int .u64 0) (.int .u64 0) (.int .i64 0) (.int .i64 0) (fun i hi => HR2.out.some i hi)
    have y0 : (put9 w2 X (.int .i64 0) (.int .i64 0) (.int .i64 0) (.int .i64 0) (.int .u64 0) (.int .u64 0) (.int .u64 0) (.int .i64 0) (.int .i64 0)).cell? ⟨X, 0, none⟩ = some (.int .i64 0) := hy 0 (by decide)
    have y1 : (put9 w2 X (.int .i64 0) (.int .i64 0) (.int .i64 0) (.int .i64 0) (.int .u64 0) (.int .u64 0) (.int .u64 0) (.int .i64 0) (.int .i64 0)).cell? ⟨X, 1, none⟩ = some (.int .i64 0) := hy 1 (by decide)
    have y2 : (put9 w2 X (.int .i64 0) (.int .i64 0) (.int .i64 0) (.int .i64 0) (.int .u64 0) (.int .u64 0) (.int .u64 0) (.int .i64 0) (.int .i64 0)).cell? ⟨X, 2, none⟩ = some (.int .i64 0) := hy 2 (by decide)
    have y3 : (put9 w2 X (.int .i64 0) (.int .i64 0) (.int .i64 0) (.int .i64 0) (.int .u64 0) (.int .u64 0) (.int .u64 0) (.int .i64 0) (.int .i64 0)).cell? ⟨X, 3, none⟩ = some (.int .i64 0) := hy 3 (by decide)
    have y4 : (put9 w2 X (.int .i64 0) (.int .i64 0) (.int .i64 0) (.int .i64 0) (.int .u64 0) (.int .u64 0) (.int .u64 0) (.int .i64 0) (.int .i64 0)).cell? ⟨X, 4, none⟩ = some (.int .u64 0) := hy 4 (by decide)
    have y5 : (put9 w2 X (.int .i64 0) (.int .i64 0) (.int .i64 0) (.int .i64 0) (.int .u64 0) (.int .u64 0) (.int .u64 0) (.int .i64 0) (.int .i64 0)).cell? ⟨X, 5, none⟩ = some (.int .u64 0) := hy 5 (by decide)
    have y6 : (put9 w2 X (.int .i64 0) (.int .i64 0) (.int .i64 0) (.int .i64 0) (.int .u64 0) (.int .u64 0) (.int .u64 0) (.int .i64 0) (.int .i64 0)).cell? ⟨X, 6, none⟩ = some (.int .u64 0) := hy 6 (by decide)
    have y7 : (put9 w2 X (.int .i64 0) (.int .i64 0) (.int .i64 0) (.int .i64 0) (.int .u64 0) (.int .u64 0) (.int .u64 0) (.int .i64 0) (.int .i64 0)).cell? ⟨X, 7, none⟩ = some (.int .i64 0) := hy 7 (by decide)
    have y8 : (put9 w2 X (.int .i64 0) (.int .i64 0) (.int .i64 0) (.int .i64 0) (.int .u64 0) (.int .u64 0) (.int .u64 0) (.int .i64 0) (.int .i64 0)).cell? ⟨X, 8, none⟩ = some (.int .i64 0) := hy 8 (by decide)
    change bodyPost _ _ _ _ _ (put9 w2 X (.int .i64 0) (.int .i64 0) (.int .i64 0) (.int .i64 0) (.int .u64 0) (.int .u64 0) (.int .u64 0) (.int .i64 0) (.int .i64 0))
    clear hy
    generalize put9 w2 X (.int .i64 0) (.int .i64 0) (.int .i64 0) (.int .i64 0) (.int .u64 0) (.int .u64 0) (.int .u64 0) (.int .i64 0) (.int .i64 0) = wF at *
    exact bodyPost_ret (v := .tuple #[.agg #[.int .i64 0, .int .i64 0, .int .i64 0, .int .i64 0, .int .u64 0, .int .u64 0, .int .u64 0, .int .i64 0, .int .i64 0], .bool false]) (by simp [results, Tryd.results32, go_sem, y0, y1, y2, y3, y4, y5, y6, y7, y8]) rfl ⟨rfl, Only.on HR2.out.g ho HR2.out.xw⟩
  | true =>
    have hRf := HV.out
    simp only [if_true] at hRf
    subst hRf
    have z0 : w2.cell? ⟨X, 0, none⟩ = some (.int .i64 0) := HR2.out.r 0 (by decide)
    have zf0 := HR2.out.rf 0
    have z1 : w2.cell? ⟨X, 1, none⟩ = some (.int .i64 0) := HR2.out.r 1 (by decide)
    have zf1 := HR2.out.rf 1
    have z2 : w2.cell? ⟨X, 2, none⟩ = some (.int .i64 0) := HR2.out.r 2 (by decide)
    have zf2 := HR2.out.rf 2
    have z3 : w2.cell? ⟨X, 3, none⟩ = some (.int .i64 0) := HR2.out.r 3 (by decide)
    have zf3 := HR2.out.rf 3
    have z4 : w2.cell? ⟨X, 4, none⟩ = some (.int .u64 0) := HR2.out.r 4 (by decide)
    have zf4 := HR2.out.rf 4
    have z5 : w2.cell? ⟨X, 5, none⟩ = some (.int .u64 0) := HR2.out.r 5 (by decide)
    have zf5 := HR2.out.rf 5
    have z6 : w2.cell? ⟨X, 6, none⟩ = some (.int .u64 0) := HR2.out.r 6 (by decide)
    have zf6 := HR2.out.rf 6
    have z7 : w2.cell? ⟨X, 7, none⟩ = some (.int .i64 0) := HR2.out.r 7 (by decide)
    have zf7 := HR2.out.rf 7
    have z8 : w2.cell? ⟨X, 8, none⟩ = some (.int .i64 0) := HR2.out.r 8 (by decide)
    have zf8 := HR2.out.rf 8
    go_wp2
    have ho := put9_only w2 X (.int .i64 0) (.int .i64 0) (.int .i64 0) (.int .i64 0) (.int .u64 0) (.int .u64 0) (.int .u64 0) (.int .i64 0) (.int .i64 0)
    have hy := put9_at (w := w2) (X := X) (.int .i64 0) (.int .i64 0) (.int .i64 0) (.int .i64 0) (.int .u64 0) (.int .u64 0) (.int .u64 0) (.int .i64 0) (.int .i64 0) (fun i hi => HR2.out.some i hi)
    have y0 : (put9 w2 X (.int .i64 0) (.int .i64 0) (.int .i64 0) (.int .i64 0) (.int .u64 0) (.int .u64 0) (.int .u64 0) (.int .i64 0) (.int .i64 0)).cell? ⟨X, 0, none⟩ = some (.int .i64 0) := hy 0 (by decide)
    have y1 : (put9 w2 X (.int .i64 0) (.int .i64 0) (.int .i64 0) (.int .i64 0) (.int .u64 0) (.int .u64 0) (.int .u64 0) (.int .i64 0) (.int .i64 0)).cell? ⟨X, 1, none⟩ = some (.int .i64 0) := hy 1 (by decide)
    have y2 : (put9 w2 X (.int .i64 0) (.int .i64 0) (.int .i64 0) (.int .i64 0) (.int .u64 0) (.int .u64 0) (.int .u64 0) (.int .i64 0) (.int .i64 0)).cell? ⟨X, 2, none⟩ = some (.int .i64 0) := hy 2 (by decide)
    have y3 : (put9 w2 X (.int .i64 0) (.int .i64 0) (.int .i64 0) (.int .i64 0) (.int .u64 0) (.int .u64 0) (.int .u64 0) (.int .i64 0) (.int .i64 0)).cell? ⟨X, 3, none⟩ = some (.int .i64 0) := hy 3 (by decide)
    have y4 : (put9 w2 X (.int .i64 0) (.int .i64 0) (.int .i64 0) (.int .i64 0) (.int .u64 0) (.int .u64 0) (.int .u64 0) (.int .i64 0) (.int .i64 0)).cell? ⟨X, 4, none⟩ = some (.int .u64 0) := hy 4 (by decide)
    have y5 : (put9 w2 X (.int .i64 0) (.int .i64 0) (.int .i64 0) (.int .i64 0) (.int .u64 0) (.int .u64 0) (.int .u64 0) (.int .i64 0) (.int .i64 0)).cell? ⟨X, 5, none⟩ = some (.int .u64 0) := hy 5 (by decide)
    have y6 : (put9 w2 X (.int .i64 0) (.int .i64 0) (.int .i64 0) (.int .i64 0) (.int .u64 0) (.int .u64 0) (.int .u64 0) (.int .i64 0) (.int .i64 0)).cell? ⟨X, 6, none⟩ = some (.int .u64 0) := hy 6 (by decide)
    have y7 : (put9 w2 X (.int .i64 0) (.int .i64 0) (.int .i64 0) (.int .i64 0) (.int .u64 0) (.int .u64 0) (.int .u64 0) (.int .i64 0) (.int .i64 0)).cell? ⟨X, 7, none⟩ = some (.int .i64 0) := hy 7 (by decide)
    have y8 : (put9 w2 X (.int .i64 0) (.int .i64 0) (.int .i64 0) (.int .i64 0) (.int .u64 0) (.int .u64 0) (.int .u64 0) (.int .i64 0) (.int .i64 0)).cell? ⟨X, 8, none⟩ = some (.int .i64 0) := hy 8 (by decide)
    change bodyPost _ _ _ _ _ (put9 w2 X (.int .i64 0) (.int .i64 0) (.int .i64 0) (.int .i64 0) (.int .u64 0) (.int .u64 0) (.int .u64 0) (.int .i64 0) (.int .i64 0))
    clear hy
    generalize put9 w2 X (.int .i64 0) (.int .i64 0) (.int .i64 0) (.int .i64 0) (.int .u64 0) (.int .u64 0) (.int .u64 0) (.int .i64 0) (.int .i64 0) = wF at *
    exact bodyPost_ret (v := .tuple #[.agg #[.int .i64 0, .int .i64 0, .int .i64 0, .int .i64 0, .int .u64 0, .int .u64 0, .int .u64 0, .int .i64 0, .int .i64 0], .bool true]) (by simp [results, Tryd.results32, go_sem, y0, y1, y2, y3, y4, y5, y6, y7, y8]) rfl ⟨rfl, Only.on HR2.out.g ho HR2.out.xw⟩

set_option maxHeartbeats 4000000 in
theorem rone_x4 {w : World} {v : Value} {F : List Nat} (H : ReadsB w v F) (hl : F.length = 4) (h0 : F.getD 0 0 ≠ 2) :
    Calls Tryd.prog 32 #[v] w fun r w' => r = .returned (erV F) ∧ w.grownBy w' none := by
  obtain ⟨R, hR⟩ : ∃ R, R = erV F := ⟨_, rfl⟩
  rw [← hR]
  have hraw : rawE F = zE := by unfold rawE; rw [hl]; simp [show ¬ (F[0]?.getD 0 = 2) from fun h => h0 (by rw [List.getD_eq_getElem?_getD]; exact h)]
  rw [erV_raw hraw] at hR
  have hsm : smC (zE : En).call := ⟨by show (0 : Nat) < 18446744073709551616; decide, by show (0 : Nat) < 18446744073709551616; decide, by show (0 : Nat) < 18446744073709551616; decide⟩
  have CR0 := Lib.hid (fun (wz : World) => rrightE (w := wz) zE hsm)
  obtain ⟨q, hq⟩ : ∃ q, q = okE zE := ⟨_, rfl⟩
  rw [← hq] at hR CR0
  have HV := Lib.hid hR
  unfold En.val zE at HV CR0
  try unfold zC at HV CR0
  simp only at HV CR0
  clear hR hraw hsm hq
  have k1 := World.grownBy_alloc w (.cells #[.int .i64 0, .int .i64 0, .int .i64 0, .int .i64 0, .int .u64 0, .int .u64 0, .int .u64 0, .int .i64 0, .int .i64 0] 55) none
  have k2 := World.grownBy_alloc (w.alloc (.cells #[.int .i64 0, .int .i64 0, .int .i64 0, .int .i64 0, .int .u64 0, .int .u64 0, .int .u64 0, .int .i64 0, .int .i64 0] 55)) (.cells #[.int .i64 0, .int .i64 0, .int .i64 0, .int .i64 0, .int .u64 0, .int .u64 0, .int .u64 0, .int .i64 0, .int .i64 0] 55) none
  have hsz : (w.alloc (.cells #[.int .i64 0, .int .i64 0, .int .i64 0, .int .i64 0, .int .u64 0, .int .u64 0, .int .u64 0, .int .i64 0, .int .i64 0] 55)).heap.size = w.heap.size + 1 := by simp
  have HR0 := Lib.hid ((rese_new (World.grownBy.refl w none)).kept k2)
  have HY0 := rese_new (w := w) k1
  rw [hsz] at HY0
  have HY0 := Lib.hid HY0
  have kz := Lib.hid (k1.trans k2)
  clear k1 k2 hsz
  obtain ⟨a0, cap, rfl, hx1, hx2, hx3, hx4⟩ := H
  obtain ⟨b, o, rfl, hb, hc⟩ := hx4 (by omega)
  have HH : Hid (ReadsB w (.slice (some ⟨b, o, none⟩) F.length cap) F) := Lib.hid ⟨_, cap, rfl, hx1, hx2, hx3, hx4⟩
  have hcap : F.length ≤ cap := hx1
  clear hx1 hx2 hx4 hc
  have c0 := ((HH.out.grown kz.out).get 0 (by omega)).1
  have b0 := ((HH.out.grown kz.out).get 0 (by omega)).2.1
  rw [Nat.add_zero] at c0
  have hneb : b ≠ w.heap.size := by omega
  have hneb1 : b ≠ w.heap.size + 1 := by omega
  rw [hl]
  generalize F.getD 0 0 = f0 at *
  have q0 : (((f0 : Nat) : Int) == 2) = false := by rw [beq_eq_false_iff_ne]; omega
  clear b0 h0 HH hcap hl hb
  have e0 : ((w.alloc (.cells #[.int .i64 0, .int .i64 0, .int .i64 0, .int .i64 0, .int .u64 0, .int .u64 0, .int .u64 0, .int .i64 0, .int .i64 0] 55)).alloc (.cells #[.int .i64 0, .int .i64 0, .int .i64 0, .int .i64 0, .int .u64 0, .int .u64 0, .int .u64 0, .int .i64 0, .int .i64 0] 55)).cell? ⟨w.heap.size + 1, 0, none⟩ = some (.int .i64 0) := HY0.out.r 0 (by decide)
  have e1 : ((w.alloc (.cells #[.int .i64 0, .int .i64 0, .int .i64 0, .int .i64 0, .int .u64 0, .int .u64 0, .int .u64 0, .int .i64 0, .int .i64 0] 55)).alloc (.cells #[.int .i64 0, .int .i64 0, .int .i64 0, .int .i64 0, .int .u64 0, .int .u64 0, .int .u64 0, .int .i64 0, .int .i64 0] 55)).cell? ⟨w.heap.size + 1, 1, none⟩ = some (.int .i64 0) := HY0.out.r 1 (by decide)
  have e2 : ((w.alloc (.cells #[.int .i64 0, .int .i64 0, .int .i64 0, .int .i64 0, .int .u64 0, .int .u64 0, .int .u64 0, .int .i64 0, .int .i64 0] 55)).alloc (.cells #[.int .i64 0, .int .i64 0, .int .i64 0, .int .i64 0, .int .u64 0, .int .u64 0, .int .u64 0, .int .i64 0, .int .i64 0] 55)).cell? ⟨w.heap.size + 1, 2, none⟩ = some (.int .i64 0) := HY0.out.r 2 (by decide)
  have e3 : ((w.alloc (.cells #[.int .i64 0, .int .i64 0, .int .i64 0, .int .i64 0, .int .u64 0, .int .u64 0, .int .u64 0, .int .i64 0, .int .i64 0] 55)).alloc (.cells #[.int .i64 0, .int .i64 0, .int .i64 0, .int .i64 0, .int .u64 0, .int .u64 0, .int .u64 0, .int .i64 0, .int .i64 0] 55)).cell? ⟨w.heap.size + 1, 3, none⟩ = some (.int .i64 0) := HY0.out.r 3 (by decide)
  have e4 : ((w.alloc (.cells #[.int .i64 0, .int .i64 0, .int .i64 0, .int .i64 0, .int .u64 0, .int .u64 0, .int .u64 0, .int .i64 0, .int .i64 0] 55)).alloc (.cells #[.int .i64 0, .int .i64 0, .int .i64 0, .int .i64 0, .int .u64 0, .int .u64 0, .int .u64 0, .int .i64 0, .int .i64 0] 55)).cell? ⟨w.heap.size + 1, 4, none⟩ = some (.int .u64 0) := HY0.out.r 4 (by decide)
  have e5 : ((w.alloc (.cells #[.int .i64 0, .int .i64 0, .int .i64 0, .int .i64 0, .int .u64 0, .int .u64 0, .int .u64 0, .int .i64 0, .int .i64 0] 55)).alloc (.cells #[.int .i64 0, .int .i64 0, .int .i64 0, .int .i64 0, .int .u64 0, .int .u64 0, .int .u64 0, .int .i64 0, .int .i64 0] 55)).cell? ⟨w.heap.size + 1, 5, none⟩ = some (.int .u64 0) := HY0.out.r 5 (by decide)
  have e6 : ((w.alloc (.cells #[.int .i64 0, .int .i64 0, .int .i64 0, .int .i64 0, .int .u64 0, .int .u64 0, .int .u64 0, .int .i64 0, .int .i64 0] 55)).alloc (.cells #[.int .i64 0, .int .i64 0, .int .i64 0, .int .i64 0, .int .u64 0, .int .u64 0, .int .u64 0, .int .i64 0, .int .i64 0] 55)).cell? ⟨w.heap.size + 1, 6, none⟩ = some (.int .u64 0) := HY0.out.r 6 (by decide)
  have e7 : ((w.alloc (.cells #[.int .i64 0, .int .i64 0, .int .i64 0, .int .i64 0, .int .u64 0, .int .u64 0, .int .u64 0, .int .i64 0, .int .i64 0] 55)).alloc (.cells #[.int .i64 0, .int .i64 0, .int .i64 0, .int .i64 0, .int .u64 0, .int .u64 0, .int .u64 0, .int .i64 0, .int .i64 0] 55)).cell? ⟨w.heap.size + 1, 7, none⟩ = some (.int .i64 0) := HY0.out.r 7 (by decide)
  have e8 : ((w.alloc (.cells #[.int .i64 0, .int .i64 0, .int .i64 0, .int .i64 0, .int .u64 0, .int .u64 0, .int .u64 0, .int .i64 0, .int .i64 0] 55)).alloc (.cells #[.int .i64 0, .int .i64 0, .int .i64 0, .int .i64 0, .int .u64 0, .int .u64 0, .int .u64 0, .int .i64 0, .int .i64 0] 55)).cell? ⟨w.heap.size + 1, 8, none⟩ = some (.int .i64 0) := HY0.out.r 8 (by decide)
  go_enter Tryd.func32, Tryd.ntmps32
  go_wp2_with fail
  have HR := HR0
  have HY := HY0
  have hXY : w.heap.size ≠ w.heap.size + 1 := by omega
  have hXle : w.heap.size ≤ w.heap.size + 1 := by omega
  have hsE := HY0.out.sz
  clear HR0 HY0
  generalize ((w.alloc (.cells #[.int .i64 0, .int .i64 0, .int .i64 0, .int .i64 0, .int .u64 0, .int .u64 0, .int .u64 0, .int .i64 0, .int .i64 0] 55)).alloc (.cells #[.int .i64 0, .int .i64 0, .int .i64 0, .int .i64 0, .int .u64 0, .int .u64 0, .int .u64 0, .int .i64 0, .int .i64 0] 55)) = wr at *
  generalize w.heap.size + 1 = Y at *
  generalize hXX : w.heap.size = X at *
  clear hXX
  clear c0 HY
  have CR := Lib.hid (CR0.out wr)
  clear CR0
  refine CR.out.mono ?_
  rintro e w2 ⟨rfl, g2⟩
  have HR2 := Lib.hid (HR.out.kept g2)
  have e0 := (g2.cell_far ⟨Y, 0, none⟩ hsE (by simp)).trans e0
  have e1 := (g2.cell_far ⟨Y, 1, none⟩ hsE (by simp)).trans e1
  have e2 := (g2.cell_far ⟨Y, 2, none⟩ hsE (by simp)).trans e2
  have e3 := (g2.cell_far ⟨Y, 3, none⟩ hsE (by simp)).trans e3
  have e4 := (g2.cell_far ⟨Y, 4, none⟩ hsE (by simp)).trans e4
  have e5 := (g2.cell_far ⟨Y, 5, none⟩ hsE (by simp)).trans e5
  have e6 := (g2.cell_far ⟨Y, 6, none⟩ hsE (by simp)).trans e6
  have e7 := (g2.cell_far ⟨Y, 7, none⟩ hsE (by simp)).trans e7
  have e8 := (g2.cell_far ⟨Y, 8, none⟩ hsE (by simp)).trans e8
  clear g2 CR
  cases q with
  | false =>
    have hRf := HV.out
    simp only [if_neg (show ¬ (false = true) by decide)] at hRf
    try unfold zE at hRf
    try unfold zC at hRf
    try simp only at hRf
    subst hRf
    have z0 : w2.cell? ⟨X, 0, none⟩ = some (.int .i64 0) := HR2.out.r 0 (by decide)
    have zf0 := HR2.out.rf 0
    have z1 : w2.cell? ⟨X, 1, none⟩ = some (.int .i64 0) := HR2.out.r 1 (by decide)
    have zf1 := HR2.out.rf 1
    have z2 : w2.cell? ⟨X, 2, none⟩ = some (.int .i64 0) := HR2.out.r 2 (by decide)
    have zf2 := HR2.out.rf 2
    have z3 : w2.cell? ⟨X, 3, none⟩ = some (.int .i64 0) := HR2.out.r 3 (by decide)
    have zf3 := HR2.out.rf 3
    have z4 : w2.cell? ⟨X, 4, none⟩ = some (.int .u64 0) := HR2.out.r 4 (by decide)
    have zf4 := HR2.out.rf 4
    have z5 : w2.cell? ⟨X, 5, none⟩ = some (.int .u64 0) := HR2.out.r 5 (by decide)
    have zf5 := HR2.out.rf 5
    have z6 : w2.cell? ⟨X, 6, none⟩ = some (.int .u64 0) := HR2.out.r 6 (by decide)
    have zf6 := HR2.out.rf 6
    have z7 : w2.cell? ⟨X, 7, none⟩ = some (.int .i64 0) := HR2.out.r 7 (by decide)
    have zf7 := HR2.out.rf 7
    have z8 : w2.cell? ⟨X, 8, none⟩ = some (.int .i64 0) := HR2.out.r 8 (by decide)
    have zf8 := HR2.out.rf 8
    go_wp2
    have ho := put9_only w2 X (.int .i64 0) (.int .i64 0) (.int .i64 0) (.int .i64 0) (.int .u64 0) (.int .u64 0) (.int .u64 0) (.int .i64 0) (.int .i64 0)
    have hy := put9_at (w := w2) (X := X) (.int .i64 0) (.int .i64 0) (.int .i64 0) (.int .i64 0) (.int .u64 0) (.int .u64 0) (.int .u64 0) (.int .i64 0) (.int .i64 0) (fun i hi => HR2.out.some i hi)
    have y0 : (put9 w2 X (.int .i64 0) (.int .i64 0) (.int .i64 0) (.int .i64 0) (.int .u64 0) (.int .u64 0) (.int .u64 0) (.int .i64 0) (.int .i64 0)).cell? ⟨X, 0, none⟩ = some (.int .i64 0) := hy 0 (by decide)
    have y1 : (put9 w2 X (.int .i64 0) (.int .i64 0) (.int .i64 0) (.int .i64 0) (.int .u64 0) (.int .u64 0) (.int .u64 0) (.int .i64 0) (.int .i64 0)).cell? ⟨X, 1, none⟩ = some (.int .i64 0) := hy 1 (by decide)
    have y2 : (put9 w2 X (.int .i64 0) (.int .i64 0) (.int .i64 0) (.int .i64 0) (.int .u64 0) (.int .u64 0) (.int .u64 0) (.int .i64 0) (.int .i64 0)).cell? ⟨X, 2, none⟩ = some (.int .i64 0) := hy 2 (by decide)
    have y3 : (put9 w2 X (.int .i64 0) (.int .i64 0) (.int .i64 0) (.int .i64 0) (.int .u64 0) (.int .u64 0) (.int .u64 0) (.int .i64 0) (.int .i64 0)).cell? ⟨X, 3, none⟩ = some (.int .i64 0) := hy 3 (by decide)
    have y4 : (put9 w2 X (.int .i64 0) (.int .i64 0) (.int .i64 0) (.int .i64 0) (.int .u64 0) (.int .u64 0) (.int .u64 0) (.int .i64 0) (.int .i64 0)).cell? ⟨X, 4, none⟩ = some (.int .u64 0) := hy 4 (by decide)
    have y5 : (put9 w2 X (.int .i64 0) (.int .i64 0) (.int .i64 0) (.int .i64 0) (.int .u64 0) (.int .u64 0) (.int .u64 0) (.int .i64 0) (.int .i64 0)).cell? ⟨X, 5, none⟩ = some (.int .u64 0) := hy 5 (by decide)
    have y6 : (put9 w2 X (.int .i64 0) (.int .i64 0) (.int .i64 0) (.int .i64 0) (.int .u64 0) (.int .u64 0) (.int .u64 0) (.int .i64 0) (.int .i64 0)).cell? ⟨X, 6, none⟩ = some (.int .u64 0) := hy 6 (by decide)
    have y7 : (put9 w2 X (.int .i64 0) (.int .i64 0) (.int .i64 0) (.int .i64 0) (.int .u64 0) (.int .u64 0) (.int .u64 0) (.int .i64 0) (.int .i64 0)).cell? ⟨X, 7, none⟩ = some (.int .i64 0) := hy 7 (by decide)
    have y8 : (put9 w2 X (.int .i64 0) (.int .i64 0) (.int .i64 0) (.int .i64 0) (.int .u64 0) (.int .u64 0) (.int .u64 0) (.int .i64 0) (.int .i64 0)).cell? ⟨X, 8, none⟩ = some (.int .i64 0) := hy 8 (by decide)
    change bodyPost _ _ _ _ _ (put9 w2 X (.int .i64 0) (.int .i64 0) (.int .i64 0) (.int .i64 0) (.int .u64 0) (.int .u64 0) (.int .u64 0) (.int .i64 0) (.int .i64 0))
    clear hy
    generalize put9 w2 X (.int .i64 0) (.int .i64 0) (.int .i64 0) (.int .i64 0) (.int .u64 0) (.int .u64 0) (.int .u64 0) (.int .i64 0) (.int .i64 0) = wF at *
    exact bodyPost_ret (v := .tuple #[.agg #[.int .i64 0, .int .i64 0, .int .i64 0, .int .i64 0, .int .u64 0, .int .u64 0, .int .u64 0, .int .i64 0, .int .i64 0], .bool false]) (by simp [results, Tryd.results32, go_sem, y0, y1, y2, y3, y4, y5, y6, y7, y8]) rfl ⟨rfl, Only.on HR2.out.g ho HR2.out.xw⟩
  | true =>
    have hRf := HV.out
    simp only [if_true] at hRf
    subst hRf
    have z0 : w2.cell? ⟨X, 0, none⟩ = some (.int .i64 0) := HR2.out.r 0 (by decide)
    have zf0 := HR2.out.rf 0
    have z1 : w2.cell? ⟨X, 1, none⟩ = some (.int .i64 0) := HR2.out.r 1 (by decide)
    have zf1 := HR2.out.rf 1
    have z2 : w2.cell? ⟨X, 2, none⟩ = some (.int .i64 0) := HR2.out.r 2 (by decide)
    have zf2 := HR2.out.rf 2
    have z3 : w2.cell? ⟨X, 3, none⟩ = some (.int .i64 0) := HR2.out.r 3 (by decide)
    have zf3 := HR2.out.rf 3
    have z4 : w2.cell? ⟨X, 4, none⟩ = some (.int .u64 0) := HR2.out.r 4 (by decide)
    have zf4 := HR2.out.rf 4
    have z5 : w2.cell? ⟨X, 5, none⟩ = some (.int .u64 0) := HR2.out.r 5 (by decide)
    have zf5 := HR2.out.rf 5
    have z6 : w2.cell? ⟨X, 6, none⟩ = some (.int .u64 0) := HR2.out.r 6 (by decide)
    have zf6 := HR2.out.rf 6
    have z7 : w2.cell? ⟨X, 7, none⟩ = some (.int .i64 0) := HR2.out.r 7 (by decide)
    have zf7 := HR2.out.rf 7
    have z8 : w2.cell? ⟨X, 8, none⟩ = some (.int .i64 0) := HR2.out.r 8 (by decide)
    have zf8 := HR2.out.rf 8
    go_wp2
    have ho := put9_only w2 X (.int .i64 0) (.int .i64 0) (.int .i64 0) (.int .i64 0) (.int .u64 0) (.int .u64 0) (.int .u64 0) (.int .i64 0) (.int .i64 0)
    have hy := put9_at (w := w2) (X := X) (.int .i64 0) (.int .i64 0) (.int .i64 0) (.int .i64 0) (.int .u64 0) (.int .u64 0) (.int .u64 0) (.int .i64 0) (.int .i64 0) (fun i hi => HR2.out.some i hi)
    have y0 : (put9 w2 X (.int .i64 0) (.int .i64 0) (.int .i64 0) (.int .i64 0) (.int .u64 0) (.int .u64 0) (.int .u64 0) (.int .i64 0) (.int .i64 0)).cell? ⟨X, 0, none⟩ = some (.int .i64 0) := hy 0 (by decide)
    have y1 : (put9 w2 X (.int .i64 0) (.int .i64 0) (.int .i64 0) (.int .i64 0) (.int .u64 0) (.int .u64 0) (.int .u64 0) (.int .i64 0) (.int .i64 0)).cell? ⟨X, 1, none⟩ = some (.int .i64 0) := hy 1 (by decide)
    have y2 : (put9 w2 X (.int .i64 0) (.int .i64 0) (.int .i64 0) (.int .i64 0) (.int .u64 0) (.int .u64 0) (.int .u64 0) (.int .i64 0) (.int .i64 0)).cell? ⟨X, 2, none⟩ = some (.int .i64 0) := hy 2 (by decide)
    have y3 : (put9 w2 X (.int .i64 0) (.int .i64 0) (.int .i64 0) (.int .i64 0) (.int .u64 0) (.int .u64 0) (.int .u64 0) (.int .i64 0) (.int .i64 0)).cell? ⟨X, 3, none⟩ = some (.int .i64 0) := hy 3 (by decide)
    have y4 : (put9 w2 X (.int .i64 0) (.int .i64 0) (.int .i64 0) (.int .i64 0) (.int .u64 0) (.int .u64 0) (.int .u64 0) (.int .i64 0) (.int .i64 0)).cell? ⟨X, 4, none⟩ = some (.int .u64 0) := hy 4 (by decide)
    have y5 : (put9 w2 X (.int .i64 0) (.int .i64 0) (.int .i64 0) (.int .i64 0) (.int .u64 0) (.int .u64 0) (.int .u64 0) (.int .i64 0) (.int .i64 0)).cell? ⟨X, 5, none⟩ = some (.int .u64 0) := hy 5 (by decide)
    have y6 : (put9 w2 X (.int .i64 0) (.int .i64 0) (.int .i64 0) (.int .i64 0) (.int .u64 0) (.int .u64 0) (.int .u64 0) (.int .i64 0) (.int .i64 0)).cell? ⟨X, 6, none⟩ = some (.int .u64 0) := hy 6 (by decide)
    have y7 : (put9 w2 X (.int .i64 0) (.int .i64 0) (.int .i64 0) (.int .i64 0) (.int .u64 0) (.int .u64 0) (.int .u64 0) (.int .i64 0) (.int .i64 0)).cell? ⟨X, 7, none⟩ = some (.int .i64 0) := hy 7 (by decide)
    have y8 : (put9 w2 X (.int .i64 0) (.int .i64 0) (.int .i64 0) (.int .i64 0) (.int .u64 0) (.int .u64 0) (.int .u64 0) (.int .i64 0) (.int .i64 0)).cell? ⟨X, 8, none⟩ = some (.int .i64 0) := hy 8 (by decide)
    change bodyPost _ _ _ _ _ (put9 w2 X (.int .i64 0) (.int .i64 0) (.int .i64 0) (.int .i64 0) (.int .u64 0) (.int .u64 0) (.int .u64 0) (.int .i64 0) (.int .i64 0))
    clear hy
    generalize put9 w2 X (.int .i64 0) (.int .i64 0) (.int .i64 0) (.int .i64 0) (.int .u64 0) (.int .u64 0) (.int .u64 0) (.int .i64 0) (.int .i64 0) = wF at *
    exact bodyPost_ret (v := .tuple #[.agg #[.int .i64 0, .int .i64 0, .int .i64 0, .int .i64 0, .int .u64 0, .int .u64 0, .int .u64 0, .int .i64 0, .int .i64 0], .bool true]) (by simp [results, Tryd.results32, go_sem, y0, y1, y2, y3, y4, y5, y6, y7, y8]) rfl ⟨rfl, Only.on HR2.out.g ho HR2.out.xw⟩

set_option maxHeartbeats 4000000 in
theorem rone_x27 {w : World} {v : Value} {F : List Nat} (H : ReadsB w v F) (hl : F.length = 27) (h0 : F.getD 0 0 ≠ 1) :
    Calls Tryd.prog 32 #[v] w fun r w' => r = .returned (erV F) ∧ w.grownBy w' none := by
  obtain ⟨R, hR⟩ : ∃ R, R = erV F := ⟨_, rfl⟩
  rw [← hR]
  have hraw : rawE F = zE := by unfold rawE; rw [hl]; simp [show ¬ (F[0]?.getD 0 = 1) from fun h => h0 (by rw [List.getD_eq_getElem?_getD]; exact h)]
  rw [erV_raw hraw] at hR
  have hsm : smC (zE : En).call := ⟨by show (0 : Nat) < 18446744073709551616; decide, by show (0 : Nat) < 18446744073709551616; decide, by show (0 : Nat) < 18446744073709551616; decide⟩
  have CR0 := Lib.hid (fun (wz : World) => rrightE (w := wz) zE hsm)
  obtain ⟨q, hq⟩ : ∃ q, q = okE zE := ⟨_, rfl⟩
  rw [← hq] at hR CR0
  have HV := Lib.hid hR
  unfold En.val zE at HV CR0
  try unfold zC at HV CR0
  simp only at HV CR0
  clear hR hraw hsm hq
  have k1 := World.grownBy_alloc w (.cells #[.int .i64 0, .int .i64 0, .int .i64 0, .int .i64 0, .int .u64 0, .int .u64 0, .int .u64 0, .int .i64 0, .int .i64 0] 55) none
  have k2 := World.grownBy_alloc (w.alloc (.cells #[.int .i64 0, .int .i64 0, .int .i64 0, .int .i64 0, .int .u64 0, .int .u64 0, .int .u64 0, .int .i64 0, .int .i64 0] 55)) (.cells #[.int .i64 0, .int .i64 0, .int .i64 0, .int .i64 0, .int .u64 0, .int .u64 0, .int .u64 0, .int .i64 0, .int .i64 0] 55) none
  have hsz : (w.alloc (.cells #[.int .i64 0, .int .i64 0, .int .i64 0, .int .i64 0, .int .u64 0, .int .u64 0, .int .u64 0, .int .i64 0, .int .i64 0] 55)).heap.size = w.heap.size + 1 := by simp
  have HR0 := Lib.hid ((rese_new (World.grownBy.refl w none)).kept k2)
  have HY0 := rese_new (w := w) k1
  rw [hsz] at HY0
  have HY0 := Lib.hid HY0
  have kz := Lib.hid (k1.trans k2)
  clear k1 k2 hsz
  obtain ⟨a0, cap, rfl, hx1, hx2, hx3, hx4⟩ := H
  obtain ⟨b, o, rfl, hb, hc⟩ := hx4 (by omega)
  have HH : Hid (ReadsB w (.slice (some ⟨b, o, none⟩) F.length cap) F) := Lib.hid ⟨_, cap, rfl, hx1, hx2, hx3, hx4⟩
  have hcap : F.length ≤ cap := hx1
  clear hx1 hx2 hx4 hc
  have c0 := ((HH.out.grown kz.out).get 0 (by omega)).1
  have b0 := ((HH.out.grown kz.out).get 0 (by omega)).2.1
  rw [Nat.add_zero] at c0
  have hneb : b ≠ w.heap.size := by omega
  have hneb1 : b ≠ w.heap.size + 1 := by omega
  rw [hl]
  generalize F.getD 0 0 = f0 at *
  have q0 : (((f0 : Nat) : Int) == 1) = false := by rw [beq_eq_false_iff_ne]; omega
  clear b0 h0 HH hcap hl hb
  have e0 : ((w.alloc (.cells #[.int .i64 0, .int .i64 0, .int .i64 0, .int .i64 0, .int .u64 0, .int .u64 0, .int .u64 0, .int .i64 0, .int .i64 0] 55)).alloc (.cells #[.int .i64 0, .int .i64 0, .int .i64 0, .int .i64 0, .int .u64 0, .int .u64 0, .int .u64 0, .int .i64 0, .int .i64 0] 55)).cell? ⟨w.heap.size + 1, 0, none⟩ = some (.int .i64 0) := HY0.out.r 0 (by decide)
  have e1 : ((w.alloc (.cells #[.int .i64 0, .int .i64 0, .int .i64 0, .int .i64 0, .int .u64 0, .int .u64 0, .int .u64 0, .int .i64 0, .int .i64 0] 55)).alloc (.cells #[.int .i64 0, .int .i64 0, .int .i64 0, .int .i64 0, .int .u64 0, .int .u64 0, .int .u64 0, .int .i64 0, .int .i64 0] 55)).cell? ⟨w.heap.size + 1, 1, none⟩ = some (.int .i64 0) := HY0.out.r 1 (by decide)
  have e2 : ((w.alloc (.cells #[.int .i64 0, .int .i64 0, .int .i64 0, .int .i64 0, .int .u64 0, .int .u64 0, .int .u64 0, .int .i64 0, .int .i64 0] 55)).alloc (.cells #[.int .i64 0, .int .i64 0, .int .i64 0, .int .i64 0, .int .u64 0, .int .u64 0, .int .u64 0, .int .i64 0, .int .i64 0] 55)).cell? ⟨w.heap.size + 1, 2, none⟩ = some (.int .i64 0) := HY0.out.r 2 (by decide)
  have e3 : ((w.alloc (.cells #[.int .i64 0, .int .i64 0, .int .i64 0, .int .i64 0, .int .u64 0, .int .u64 0, .int .u64 0, .int .i64 0, .int .i64 0] 55)).alloc (.cells #[.int .i64 0, .int .i64 0, .int .i64 0, .int .i64 0, .int .u64 0, .int .u64 0, .int .u64 0, .int .i64 0, .int .i64 0] 55)).cell? ⟨w.heap.size + 1, 3, none⟩ = some (.int .i64 0) := HY0.out.r 3 (by decide)
  have e4 : ((w.alloc (.cells #[.int .i64 0, .int .i64 0, .int .i64 0, .int .i64 0, .int .u64 0, .int .u64 0, .int .u64 0, .int .i64 0, .int .i64 0] 55)).alloc (.cells #[.int .i64 0, .int .i64 0, .int .i64 0, .int .i64 0, .int .u64 0, .int .u64 0, .int .u64 0, .int .i64 0, .int .i64 0] 55)).cell? ⟨w.heap.size + 1, 4, none⟩ = some (.int .u64 0) := HY0.out.r 4 (by decide)
  have e5 : ((w.alloc (.cells #[.int .i64 0, .int .i64 0, .int .i64 0, .int .i64 0, .int .u64 0, .int .u64 0, .int .u64 0, .int .i64 0, .int .i64 0] 55)).alloc (.cells #[.int .i64 0, .int .i64 0, .int .i64 0, .int .i64 0, .int .u64 0, .int .u64 0, .int .u64 0, .int .i64 0, .int .i64 0] 55)).cell? ⟨w.heap.size + 1, 5, none⟩ = some (.int .u64 0) := HY0.out.r 5 (by decide)
  have e6 : ((w.alloc (.cells #[.int .i64 0, .int .i64 0, .int .i64 0, .int .i64 0, .int .u64 0, .int .u64 0, .int .u64 0, .int .i64 0, .int .i64 0] 55)).alloc (.cells #[.int .i64 0, .int .i64 0, .int .i64 0, .int .i64 0, .int .u64 0, .int .u64 0, .int .u64 0, .int .i64 0, .int .i64 0] 55)).cell? ⟨w.heap.size + 1, 6, none⟩ = some (.int .u64 0) := HY0.out.r 6 (by decide)
  have e7 : ((w.alloc (.cells #[.int .i64 0, .int .i64 0, .int .i64 0, .int .i64 0, .int .u64 0, .int .u64 0, .int .u64 0, .int .i64 0, .int .i64 0] 55)).alloc (.cells #[.int .i64 0, .int .i64 0, .int .i64 0, .int .i64 0, .int .u64 0, .int .u64 0, .int .u64 0, .int .i64 0, .int .i64 0] 55)).cell? ⟨w.heap.size + 1, 7, none⟩ = some (.int .i64 0) := HY0.out.r 7 (by decide)
  have e8 : ((w.alloc (.cells #[.int .i64 0, .int .i64 0, .int .i64 0, .int .i64 0, .int .u64 0, .int .u64 0, .int .u64 0, .int .i64 0, .int .i64 0] 55)).alloc (.cells #[.int .i64 0, .int .i64 0, .int .i64 0, .int .i64 0, .int .u64 0, .int .u64 0, .int .u64 0, .int .i64 0, .int .i64 0] 55)).cell? ⟨w.heap.size + 1, 8, none⟩ = some (.int .i64 0) := HY0.out.r 8 (by decide)
  go_enter Tryd.func32, Tryd.ntmps32
  go_wp2_with fail
  have HR := HR0
  have HY := HY0
  have hXY : w.heap.size ≠ w.heap.size + 1 := by omega
  have hXle : w.heap.size ≤ w.heap.size + 1 := by omega
  have hsE := HY0.out.sz
  clear HR0 HY0
  generalize ((w.alloc (.cells #[.int .i64 0, .int .i64 0, .int .i64 0, .int .i64 0, .int .u64 0, .int .u64 0, .int .u64 0, .int .i64 0, .int .i64 0] 55)).alloc (.cells #[.int .i64 0, .int .i64 0, .int .i64 0, .int .i64 0, .int .u64 0, .int .u64 0, .int .u64 0, .int .i64 0, .int .i64 0] 55)) = wr at *
  generalize w.heap.size + 1 = Y at *
  generalize hXX : w.heap.size = X at *
  clear hXX
  clear c0 HY
  have CR := Lib.hid (CR0.out wr)
  clear CR0
  refine CR.out.mono ?_
  rintro e w2 ⟨rfl, g2⟩
  have HR2 := Lib.hid (HR.out.kept g2)
  have e0 := (g2.cell_far ⟨Y, 0, none⟩ hsE (by simp)).trans e0
  have e1 := (g2.cell_far ⟨Y, 1, none⟩ hsE (by simp)).trans e1
  have e2 := (g2.cell_far ⟨Y, 2, none⟩ hsE (by simp)).trans e2
  have e3 := (g2.cell_far ⟨Y, 3, none⟩ hsE (by simp)).trans e3
  have e4 := (g2.cell_far ⟨Y, 4, none⟩ hsE (by simp)).trans e4
  have e5 := (g2.cell_far ⟨Y, 5, none⟩ hsE (by simp)).trans e5
  have e6 := (g2.cell_far ⟨Y, 6, none⟩ hsE (by simp)).trans e6
  have e7 := (g2.cell_far ⟨Y, 7, none⟩ hsE (by simp)).trans e7
  have e8 := (g2.cell_far ⟨Y, 8, none⟩ hsE (by simp)).trans e8
  clear g2 CR
  cases q with
  | false =>
    have hRf := HV.out
    simp only [if_neg (show ¬ (false = true) by decide)] at hRf
    try unfold zE at hRf
    try unfold zC at hRf
    try simp only at hRf
    subst hRf
    have z0 : w2.cell? ⟨X, 0, none⟩ = some (.int .i64 0) := HR2.out.r 0 (by decide)
    have zf0 := HR2.out.rf 0
    have z1 : w2.cell? ⟨X, 1, none⟩ = some (.int .i64 0) := HR2.out.r 1 (by decide)
    have zf1 := HR2.out.rf 1
    have z2 : w2.cell? ⟨X, 2, none⟩ = some (.int .i64 0) := HR2.out.r 2 (by decide)
    have zf2 := HR2.out.rf 2
    have z3 : w2.cell? ⟨X, 3, none⟩ = some (.int .i64 0) := HR2.out.r 3 (by decide)
    have zf3 := HR2.out.rf 3
    have z4 : w2.cell? ⟨X, 4, none⟩ = some (.int .u64 0) := HR2.out.r 4 (by decide)
    have zf4 := HR2.out.rf 4
    have z5 : w2.cell? ⟨X, 5, none⟩ = some (.int .u64 0) := HR2.out.r 5 (by decide)
    have zf5 := HR2.out.rf 5
    have z6 : w2.cell? ⟨X, 6, none⟩ = some (.int .u64 0) := HR2.out.r 6 (by decide)
    have zf6 := HR2.out.rf 6
    have z7 : w2.cell? ⟨X, 7, none⟩ = some (.int .i64 0) := HR2.out.r 7 (by decide)
    have zf7 := HR2.out.rf 7
    have z8 : w2.cell? ⟨X, 8, none⟩ = some (.int .i64 0) := HR2.out.r 8 (by decide)
    have zf8 := HR2.out.rf 8
    go_wp2
    have ho := put9_only w2 X (.int .i64 0) (.int .i64 0) (.int .i64 0) (.int .i64 0) (.int .u64 0) (.int .u64 0) (.int .u64 0) (.int .i64 0) (.int .i64 0)
    have hy := put9_at (w := w2) (X := X) (.int .i64 0) (.int .i64 0) (.int .i64 0) (.int .i64 0) (.int .u64 0) (.int .u64 0) (.int .u64 0) (.int .i64 0) (.int .i64 0) (fun i hi => HR2.out.some i hi)
    have y0 : (put9 w2 X (.int .i64 0) (.int .i64 0) (.int .i64 0) (.int .i64 0) (.int .u64 0) (.int .u64 0) (.int .u64 0) (.int .i64 0) (.int .i64 0)).cell? ⟨X, 0, none⟩ = some (.int .i64 0) := hy 0 (by decide)
    have y1 : (put9 w2 X (.int .i64 0) (.int .i64 0) (.int .i64 0) (.int .i64 0) (.int .u64 0) (.int .u64 0) (.int .u64 0) (.int .i64 0) (.int .i64 0)).cell? ⟨X, 1, none⟩ = some (.int .i64 0) := hy 1 (by decide)
    have y2 : (put9 w2 X (.int .i64 0) (.int .i64 0) (.int .i64 0) (.int .i64 0) (.int .u64 0) (.int .u64 0) (.int .u64 0) (.int .i64 0) (.int .i64 0)).cell? ⟨X, 2, none⟩ = some (.int .i64 0) := hy 2 (by decide)
    have y3 : (put9 w2 X (.int .i64 0) (.int .i64 0) (.int .i64 0) (.int .i64 0) (.int .u64 0) (.int .u64 0) (.int .u64 0) (.int .i64 0) (.int .i64 0)).cell? ⟨X, 3, none⟩ = some (.int .i64 0) := hy 3 (by decide)
    have y4 : (put9 w2 X (.int .i64 0) (.int .i64 0) (.int .i64 0) (.int .i64 0) (.int .u64 0) (.int .u64 0) (.int .u64 0) (.int .i64 0) (.int .i64 0)).cell? ⟨X, 4, none⟩ = some (.int .u64 0) := hy 4 (by decide)
    have y5 : (put9 w2 X (.int .i64 0) (.int .i64 0) (.int .i64 0) (.int .i64 0) (.int .u64 0) (.int .u64 0) (.int .u64 0) (.int .i64 0) (.int .i64 0)).cell? ⟨X, 5, none⟩ = some (.int .u64 0) := hy 5 (by decide)
    have y6 : (put9 w2 X (.int .i64 0) (.int .i64 0) (.int .i64 0) (.int .i64 0) (.int .u64 0) (.int .u64 0) (.int .u64 0) (.int .i64 0) (.int .i64 0)).cell? ⟨X, 6, none⟩ = some (.int .u64 0) := hy 6 (by decide)
    have y7 : (put9 w2 X (.int .i64 0) (.int .i64 0) (.int .i64 0) (.int .i64 0) (.int .u64 0) (.int .u64 0) (.int .u64 0) (.int .i64 0) (.int .i64 0)).cell? ⟨X, 7, none⟩ = some (.int .i64 0) := hy 7 (by decide)
    have y8 : (put9 w2 X (.int .i64 0) (.int .i64 0) (.int .i64 0) (.int .i64 0) (.int .u64 0) (.int .u64 0) (.int .u64 0) (.int .i64 0) (.int .i64 0)).cell? ⟨X, 8, none⟩ = some (.int .i64 0) := hy 8 (by decide)
    change bodyPost _ _ _ _ _ (put9 w2 X (.int .i64 0) (.int .i64 0) (.int .i64 0) (.int .i64 0) (.int .u64 0) (.int .u64 0) (.int .u64 0) (.int .i64 0) (.int .i64 0))
    clear hy
    generalize put9 w2 X (.int .i64 0) (.int .i64 0) (.int .i64 0) (.int .i64 0) (.int .u64 0) (.int .u64 0) (.int .u64 0) (.int .i64 0) (.int .i64 0) = wF at *
    exact bodyPost_ret (v := .tuple #[.agg #[.int .i64 0, .int .i64 0, .int .i64 0, .int .i64 0, .int .u64 0, .int .u64 0, .int .u64 0, .int .i64 0, .int .i64 0], .bool false]) (by simp [results, Tryd.results32, go_sem, y0, y1, y2, y3, y4, y5, y6, y7, y8]) rfl ⟨rfl, Only.on HR2.out.g ho HR2.out.xw⟩
  | true =>
    have hRf := HV.out
    simp only [if_true] at hRf
    subst hRf
    have z0 : w2.cell? ⟨X, 0, none⟩ = some (.int .i64 0) := HR2.out.r 0 (by decide)
    have zf0 := HR2.out.rf 0
    have z1 : w2.cell? ⟨X, 1, none⟩ = some (.int .i64 0) := HR2.out.r 1 (by decide)
    have zf1 := HR2.out.rf 1
    have z2 : w2.cell? ⟨X, 2, none⟩ = some (.int .i64 0) := HR2.out.r 2 (by decide)
    have zf2 := HR2.out.rf 2
    have z3 : w2.cell? ⟨X, 3, none⟩ = some (.int .i64 0) := HR2.out.r 3 (by decide)
    have zf3 := HR2.out.rf 3
    have z4 : w2.cell? ⟨X, 4, none⟩ = some (.int .u64 0) := HR2.out.r 4 (by decide)
    have zf4 := HR2.out.rf 4
    have z5 : w2.cell? ⟨X, 5, none⟩ = some (.int .u64 0) := HR2.out.r 5 (by decide)
    have zf5 := HR2.out.rf 5
    have z6 : w2.cell? ⟨X, 6, none⟩ = some (.int .u64 0) := HR2.out.r 6 (by decide)
    have zf6 := HR2.out.rf 6
    have z7 : w2.cell? ⟨X, 7, none⟩ = some (.int .i64 0) := HR2.out.r 7 (by decide)
    have zf7 := HR2.out.rf 7
    have z8 : w2.cell? ⟨X, 8, none⟩ = some (.int .i64 0) := HR2.out.r 8 (by decide)
    have zf8 := HR2.out.rf 8
    go_wp2
    have ho := put9_only w2 X (.int .i64 0) (.int .i64 0) (.int .i64 0) (.int .i64 0) (.int .u64 0) (.int .u64 0) (.int .u64 0) (.int .i64 0) (.int .i64 0)
    have hy := put9_at (w := w2) (X := X) (.int .i64 0) (.int .i64 0) (.int .i64 0) (.int .i64 0) (.int .u64 0) (.int .u64 0) (.int .u64 0) (.int .i64 0) (.int .i64 0) (fun i hi => HR2.out.some i hi)
    have y0 : (put9 w2 X (.int .i64 0) (.int .i64 0) (.int .i64 0) (.int .i64 0) (.int .u64 0) (.int .u64 0) (.int .u64 0) (.int .i64 0) (.int .i64 0)).cell? ⟨X, 0, none⟩ = some (.int .i64 0) := hy 0 (by decide)
    have y1 : (put9 w2 X (.int .i64 0) (.int .i64 0) (.int .i64 0) (.int .i64 0) (.int .u64 0) (.int .u64 0) (.int .u64 0) (.int .i64 0) (.int .i64 0)).cell? ⟨X, 1, none⟩ = some (.int .i64 0) := hy 1 (by decide)
    have y2 : (put9 w2 X (.int .i64 0) (.int .i64 0) (.int .i64 0) (.int .i64 0) (.int .u64 0) (.int .u64 0) (.int .u64 0) (.int .i64 0) (.int .i64 0)).cell? ⟨X, 2, none⟩ = some (.int .i64 0) := hy 2 (by decide)
    have y3 : (put9 w2 X (.int .i64 0) (.int .i64 0) (.int .i64 0) (.int .i64 0) (.int .u64 0) (.int .u64 0) (.int .u64 0) (.int .i64 0) (.int .i64 0)).cell? ⟨X, 3, none⟩ = some (.int .i64 0) := hy 3 (by decide)
    have y4 : (put9 w2 X (.int .i64 0) (.int .i64 0) (.int .i64 0) (.int .i64 0) (.int .u64 0) (.int .u64 0) (.int .u64 0) (.int .i64 0) (.int .i64 0)).cell? ⟨X, 4, none⟩ = some (.int .u64 0) := hy 4 (by decide)
    have y5 : (put9 w2 X (.int .i64 0) (.int .i64 0) (.int .i64 0) (.int .i64 0) (.int .u64 0) (.int .u64 0) (.int .u64 0) (.int .i64 0) (.int .i64 0)).cell? ⟨X, 5, none⟩ = some (.int .u64 0) := hy 5 (by decide)
    have y6 : (put9 w2 X (.int .i64 0) (.int .i64 0) (.int .i64 0) (.int .i64 0) (.int .u64 0) (.int .u64 0) (.int .u64 0) (.int .i64 0) (.int .i64 0)).cell? ⟨X, 6, none⟩ = some (.int .u64 0) := hy 6 (by decide)
    have y7 : (put9 w2 X (.int .i64 0) (.int .i64 0) (.int .i64 0) (.int .i64 0) (.int .u64 0) (.int .u64 0) (.int .u64 0) (.int .i64 0) (.int .i64 0)).cell? ⟨X, 7, none⟩ = some (.int .i64 0) := hy 7 (by decide)
    have y8 : (put9 w2 X (.int .i64 0) (.int .i64 0) (.int .i64 0) (.int .i64 0) (.int .u64 0) (.int .u64 0) (.int .u64 0) (.int .i64 0) (.int .i64 0)).cell? ⟨X, 8, none⟩ = some (.int .i64 0) := hy 8 (by decide)
    change bodyPost _ _ _ _ _ (put9 w2 X (.int .i64 0) (.int .i64 0) (.int .i64 0) (.int .i64 0) (.int .u64 0) (.int .u64 0) (.int .u64 0) (.int .i64 0) (.int .i64 0))
    clear hy
    generalize put9 w2 X (.int .i64 0) (.int .i64 0) (.int .i64 0) (.int .i64 0) (.int .u64 0) (.int .u64 0) (.int .u64 0) (.int .i64 0) (.int .i64 0) = wF at *
    exact bodyPost_ret (v := .tuple #[.agg #[.int .i64 0, .int .i64 0, .int .i64 0, .int .i64 0, .int .u64 0, .int .u64 0, .int .u64 0, .int .i64 0, .int .i64 0], .bool true]) (by simp [results, Tryd.results32, go_sem, y0, y1, y2, y3, y4, y5, y6, y7, y8]) rfl ⟨rfl, Only.on HR2.out.g ho HR2.out.xw⟩

set_option maxHeartbeats 4000000 in
theorem rone_t {w : World} {v : Value} {F : List Nat} (H : ReadsB w v F) (hl : F.length = 3) (h0 : F.getD 0 0 = 0) :
    Calls Tryd.prog 32 #[v] w fun r w' => r = .returned (erV F) ∧ w.grownBy w' none := by
  obtain ⟨R, hR⟩ : ∃ R, R = erV F := ⟨_, rfl⟩
  rw [← hR]
  obtain ⟨a0, cap, rfl, hx1, hx2, hx3, hx4⟩ := H
  obtain ⟨b, o, rfl, hb, hc⟩ := hx4 (by omega)
  have HH : Hid (ReadsB w (.slice (some ⟨b, o, none⟩) F.length cap) F) := Lib.hid ⟨_, cap, rfl, hx1, hx2, hx3, hx4⟩
  have hcap : F.length ≤ cap := hx1
  clear hx1 hx2 hx4 hc
  obtain ⟨f1, hf1⟩ : ∃ f1, f1 = F.getD 1 0 := ⟨_, rfl⟩
  obtain ⟨f2, hf2⟩ : ∃ f2, f2 = F.getD 2 0 := ⟨_, rfl⟩
  have hraw : rawE F = (En.mk 0 0 ((f1 : Int) + 256 * (f2 : Int)) zC 0 0) := by unfold rawE; rw [hf1, hf2]; rw [if_pos ⟨hl, h0⟩]; rfl
  rw [erV_raw hraw] at hR
  have hsm : smC ((En.mk 0 0 ((f1 : Int) + 256 * (f2 : Int)) zC 0 0) : En).call := ⟨by show (0 : Nat) < 18446744073709551616; decide, by show (0 : Nat) < 18446744073709551616; decide, by show (0 : Nat) < 18446744073709551616; decide⟩
  have CR0 := Lib.hid (fun (wz : World) => rrightE (w := wz) (En.mk 0 0 ((f1 : Int) + 256 * (f2 : Int)) zC 0 0) hsm)
  obtain ⟨q, hq⟩ : ∃ q, q = okE (En.mk 0 0 ((f1 : Int) + 256 * (f2 : Int)) zC 0 0) := ⟨_, rfl⟩
  rw [← hq] at hR CR0
  have HV := Lib.hid hR
  unfold En.val at HV CR0
  try unfold zC at HV CR0
  simp only at HV CR0
  clear hR hraw hsm hq
  have k1 := World.grownBy_alloc w (.cells #[.int .i64 0, .int .i64 0, .int .i64 0, .int .i64 0, .int .u64 0, .int .u64 0, .int .u64 0, .int .i64 0, .int .i64 0] 55) none
  have k2 := World.grownBy_alloc (w.alloc (.cells #[.int .i64 0, .int .i64 0, .int .i64 0, .int .i64 0, .int .u64 0, .int .u64 0, .int .u64 0, .int .i64 0, .int .i64 0] 55)) (.cells #[.int .i64 0, .int .i64 0, .int .i64 0, .int .i64 0, .int .u64 0, .int .u64 0, .int .u64 0, .int .i64 0, .int .i64 0] 55) none
  have hsz : (w.alloc (.cells #[.int .i64 0, .int .i64 0, .int .i64 0, .int .i64 0, .int .u64 0, .int .u64 0, .int .u64 0, .int .i64 0, .int .i64 0] 55)).heap.size = w.heap.size + 1 := by simp
  have HR0 := Lib.hid ((rese_new (World.grownBy.refl w none)).kept k2)
  have HY0 := rese_new (w := w) k1
  rw [hsz] at HY0
  have HY0 := Lib.hid HY0
  have kz := Lib.hid (k1.trans k2)
  clear k1 k2 hsz
  have c0 := ((HH.out.grown kz.out).get 0 (by omega)).1
  have c1 := ((HH.out.grown kz.out).get 1 (by omega)).1
  have b1 := ((HH.out.grown kz.out).get 1 (by omega)).2.1
  rw [← hf1] at c1 b1
  have hw1 : IntKind.i64.wrap ((f1 : Nat) : Int) = ((f1 : Nat) : Int) := by rw [IntKind.wrap_i64]; omega
  have c2 := ((HH.out.grown kz.out).get 2 (by omega)).1
  have b2 := ((HH.out.grown kz.out).get 2 (by omega)).2.1
  rw [← hf2] at c2 b2
  have hw2 : IntKind.i64.wrap ((f2 : Nat) : Int) = ((f2 : Nat) : Int) := by rw [IntKind.wrap_i64]; omega
  rw [Nat.add_zero, h0] at c0
  have hw3 : IntKind.i64.wrap (256 * ((f2 : Nat) : Int)) = 256 * ((f2 : Nat) : Int) := by rw [IntKind.wrap_i64]; omega
  have hw4 : IntKind.i64.wrap (((f1 : Nat) : Int) + 256 * ((f2 : Nat) : Int)) = ((f1 : Nat) : Int) + 256 * ((f2 : Nat) : Int) := by rw [IntKind.wrap_i64]; omega
  rw [hl]
  have hneb : b ≠ w.heap.size := by omega
  have hneb1 : b ≠ w.heap.size + 1 := by omega
  have hsb0 : b < ((w.alloc (.cells #[.int .i64 0, .int .i64 0, .int .i64 0, .int .i64 0, .int .u64 0, .int .u64 0, .int .u64 0, .int .i64 0, .int .i64 0] 55)).alloc (.cells #[.int .i64 0, .int .i64 0, .int .i64 0, .int .i64 0, .int .u64 0, .int .u64 0, .int .u64 0, .int .i64 0, .int .i64 0] 55)).heap.size := by have := kz.out.size; omega
  clear h0 hcap hl HH hb hf1 hf2
  go_enter Tryd.func32, Tryd.ntmps32
  go_wp2_with fail
  have HR := HR0
  have HY := HY0
  have hXY : w.heap.size ≠ w.heap.size + 1 := by omega
  have hXle : w.heap.size ≤ w.heap.size + 1 := by omega
  have d0 : ((w.alloc (.cells #[.int .i64 0, .int .i64 0, .int .i64 0, .int .i64 0, .int .u64 0, .int .u64 0, .int .u64 0, .int .i64 0, .int .i64 0] 55)).alloc (.cells #[.int .i64 0, .int .i64 0, .int .i64 0, .int .i64 0, .int .u64 0, .int .u64 0, .int .u64 0, .int .i64 0, .int .i64 0] 55)).cell? ⟨b, o + 1, none⟩ = some (.int .u8 (f1 : Int)) := c1
  have d1 : ((w.alloc (.cells #[.int .i64 0, .int .i64 0, .int .i64 0, .int .i64 0, .int .u64 0, .int .u64 0, .int .u64 0, .int .i64 0, .int .i64 0] 55)).alloc (.cells #[.int .i64 0, .int .i64 0, .int .i64 0, .int .i64 0, .int .u64 0, .int .u64 0, .int .u64 0, .int .i64 0, .int .i64 0] 55)).cell? ⟨b, o + 2, none⟩ = some (.int .u8 (f2 : Int)) := c2
  have hsb : b < ((w.alloc (.cells #[.int .i64 0, .int .i64 0, .int .i64 0, .int .i64 0, .int .u64 0, .int .u64 0, .int .u64 0, .int .i64 0, .int .i64 0] 55)).alloc (.cells #[.int .i64 0, .int .i64 0, .int .i64 0, .int .i64 0, .int .u64 0, .int .u64 0, .int .u64 0, .int .i64 0, .int .i64 0] 55)).heap.size := hsb0
  clear hsb0 kz c0 c1 c2
  clear HR0 HY0
  generalize ((w.alloc (.cells #[.int .i64 0, .int .i64 0, .int .i64 0, .int .i64 0, .int .u64 0, .int .u64 0, .int .u64 0, .int .i64 0, .int .i64 0] 55)).alloc (.cells #[.int .i64 0, .int .i64 0, .int .i64 0, .int .i64 0, .int .u64 0, .int .u64 0, .int .u64 0, .int .i64 0, .int .i64 0] 55)) = wr at *
  generalize w.heap.size + 1 = Y at *
  generalize hXX : w.heap.size = X at *
  clear hXX
  have d0' : wr.drew.cell? ⟨b, o + 1, none⟩ = some (.int .u8 (f1 : Int)) := d0
  have d1' : wr.drew.cell? ⟨b, o + 2, none⟩ = some (.int .u8 (f2 : Int)) := d1
  have kd : wr.grownBy wr.drew none := ⟨rfl, rfl, rfl, Nat.le_refl _, fun _ _ _ => rfl⟩
  have HR1 := Lib.hid (HR.out.kept kd)
  have HY1 := Lib.hid (HY.out.kept kd)
  have hsb1 : b < wr.drew.heap.size := hsb
  clear kd d0 d1 hsb
  refine wp_region_held_drew (S := fun w' => w'.cell? ⟨b, o + 1, none⟩ = some (.int .u8 (f1 : Int)) ∧ w'.cell? ⟨b, o + 2, none⟩ = some (.int .u8 (f2 : Int))) (by kernel_rfl) ⟨d0', d1'⟩ (fun hHeld => ?_)
  generalize wr.drew = w1 at *
  refine wpAnyH_take (i := 0) (oi := ⟨_, _, _, _, _, _⟩) (v := ?_) rfl (by kernel_rfl) (by kernel_rfl) (by kernel_rfl) (fun _ _ _ h => h) (Or.inl ⟨by rfl, ?_⟩) (by assumption) ?_
  rotate_left
  · intro wz hSw
    try dsimp only at hSw
    go_simp
    try with_reducible rfl
  simp only [Act.put, List.setIfInBounds_toArray, List.set_cons_zero, List.set_cons_succ]
  refine wpAnyH_take (i := 1) (oi := ⟨_, _, _, _, _, _⟩) (v := ?_) rfl (by kernel_rfl) (by kernel_rfl) (by kernel_rfl) (fun _ _ _ h => h) (Or.inl ⟨by rfl, ?_⟩) (by assumption) ?_
  rotate_left
  · intro wz hSw
    try dsimp only at hSw
    go_simp
    try with_reducible rfl
  simp only [Act.put, List.setIfInBounds_toArray, List.set_cons_zero, List.set_cons_succ]
  refine wpAnyH_take (i := 2) (oi := ⟨_, _, _, _, _, _⟩) (v := ?_) rfl (by kernel_rfl) (by kernel_rfl) (by kernel_rfl) (fun _ _ _ h => h) (Or.inl ⟨by rfl, ?_⟩) (by assumption) ?_
  rotate_left
  · intro wz hSw
    try dsimp only at hSw
    go_simp
    try with_reducible rfl
  simp only [Act.put, List.setIfInBounds_toArray, List.set_cons_zero, List.set_cons_succ]
  refine wpAnyH_take (i := 3) (oi := ⟨_, _, _, _, _, _⟩) (v := ?_) rfl (by kernel_rfl) (by kernel_rfl) (by kernel_rfl) (fun _ _ _ h => h) (Or.inl ⟨by rfl, ?_⟩) (by assumption) ?_
  rotate_left
  · intro wz hSw
    try dsimp only at hSw
    go_simp
    try with_reducible rfl
  simp only [Act.put, List.setIfInBounds_toArray, List.set_cons_zero, List.set_cons_succ]
  refine wpAnyH_take (i := 4) (oi := ⟨_, _, _, _, _, _⟩) (v := ?_) rfl (by kernel_rfl) (by kernel_rfl) (by kernel_rfl) (fun _ _ _ h => h) (Or.inl ⟨by rfl, ?_⟩) (by assumption) ?_
  rotate_left
  · intro wz hSw
    try dsimp only at hSw
    go_simp
    try with_reducible rfl
  simp only [Act.put, List.setIfInBounds_toArray, List.set_cons_zero, List.set_cons_succ]
  refine wpAnyH_take (i := 5) (oi := ⟨_, _, _, _, _, _⟩) (v := ?_) rfl (by kernel_rfl) (by kernel_rfl) (by kernel_rfl) (fun _ _ _ h => h) (Or.inl ⟨by rfl, ?_⟩) (by assumption) ?_
  rotate_left
  · intro wz hSw
    try dsimp only at hSw
    go_simp
    try with_reducible rfl
  simp only [Act.put, List.setIfInBounds_toArray, List.set_cons_zero, List.set_cons_succ]
  refine wpAnyH_take (i := 6) (oi := ⟨_, _, _, _, _, _⟩) (v := ?_) rfl (by kernel_rfl) (by kernel_rfl) (by kernel_rfl) (fun _ _ _ h => h) (Or.inl ⟨by rfl, ?_⟩) (by assumption) ?_
  rotate_left
  · intro wz hSw
    try dsimp only at hSw
    go_simp
    try with_reducible rfl
  simp only [Act.put, List.setIfInBounds_toArray, List.set_cons_zero, List.set_cons_succ]
  refine wpAnyH_take (i := 7) (oi := ⟨_, _, _, _, _, _⟩) (v := ?_) rfl (by kernel_rfl) (by kernel_rfl) (by kernel_rfl) (fun _ _ _ h => h) (Or.inl ⟨by rfl, ?_⟩) (by assumption) ?_
  rotate_left
  · intro wz hSw
    try dsimp only at hSw
    go_simp
    try with_reducible rfl
  simp only [Act.put, List.setIfInBounds_toArray, List.set_cons_zero, List.set_cons_succ]
  refine wpAnyH_take (i := 8) (oi := ⟨_, _, _, _, _, _⟩) (v := ?_) rfl (by kernel_rfl) (by kernel_rfl) (by kernel_rfl) (fun _ _ _ h => h) (Or.inl ⟨by rfl, ?_⟩) (by assumption) ?_
  rotate_left
  · intro wz hSw
    try dsimp only at hSw
    go_simp
    try with_reducible rfl
  simp only [Act.put, List.setIfInBounds_toArray, List.set_cons_zero, List.set_cons_succ]
  refine wpAnyH_take (i := 9) (oi := ⟨_, _, _, _, _, _⟩) (v := ?_) rfl (by kernel_rfl) (by kernel_rfl) (by kernel_rfl) (fun _ _ _ h => h) (Or.inl ⟨by rfl, ?_⟩) (by assumption) ?_
  rotate_left
  · intro wz hSw
    try dsimp only at hSw
    go_simp
    try with_reducible rfl
  simp only [Act.put, List.setIfInBounds_toArray, List.set_cons_zero, List.set_cons_succ]
  refine wpAnyH_take (i := 10) (oi := ⟨_, _, _, _, _, _⟩) (v := ?_) rfl (by kernel_rfl) (by kernel_rfl) (by kernel_rfl) (fun _ _ _ h => h) (Or.inl ⟨by rfl, ?_⟩) (by assumption) ?_
  rotate_left
  · intro wz hSw
    try dsimp only at hSw
    go_simp
    try with_reducible rfl
  simp only [Act.put, List.setIfInBounds_toArray, List.set_cons_zero, List.set_cons_succ]
  refine wpAnyH_ready (rs := [11]) (by kernel_rfl) (by simp) ?_
  refine AllReadyH.cons (o := ⟨_, _, _, _, _, _⟩) rfl (fun K hK => ?_) AllReadyH.nil
  go_simp
  have z0 : w1.cell? ⟨Y, 0, none⟩ = some (.int .i64 0) := HY1.out.r 0 (by decide)
  have zf0 := HY1.out.rf 0
  have z1 : w1.cell? ⟨Y, 1, none⟩ = some (.int .i64 0) := HY1.out.r 1 (by decide)
  have zf1 := HY1.out.rf 1
  have z2 : w1.cell? ⟨Y, 2, none⟩ = some (.int .i64 0) := HY1.out.r 2 (by decide)
  have zf2 := HY1.out.rf 2
  have z3 : w1.cell? ⟨Y, 3, none⟩ = some (.int .i64 0) := HY1.out.r 3 (by decide)
  have zf3 := HY1.out.rf 3
  have z4 : w1.cell? ⟨Y, 4, none⟩ = some (.int .u64 0) := HY1.out.r 4 (by decide)
  have zf4 := HY1.out.rf 4
  have z5 : w1.cell? ⟨Y, 5, none⟩ = some (.int .u64 0) := HY1.out.r 5 (by decide)
  have zf5 := HY1.out.rf 5
  have z6 : w1.cell? ⟨Y, 6, none⟩ = some (.int .u64 0) := HY1.out.r 6 (by decide)
  have zf6 := HY1.out.rf 6
  have z7 : w1.cell? ⟨Y, 7, none⟩ = some (.int .i64 0) := HY1.out.r 7 (by decide)
  have zf7 := HY1.out.rf 7
  have z8 : w1.cell? ⟨Y, 8, none⟩ = some (.int .i64 0) := HY1.out.r 8 (by decide)
  have zf8 := HY1.out.rf 8
  try go_simp
  have hoS := put9_only w1 Y (.int .i64 0) (.int .i64 0) (.int .i64 ((f1 : Int) + 256 * (f2 : Int))) (.int .i64 0) (.int .u64 0) (.int .u64 0) (.int .u64 0) (.int .i64 0) (.int .i64 0)
  have hyS := put9_at (w := w1) (X := Y) (.int .i64 0) (.int .i64 0) (.int .i64 ((f1 : Int) + 256 * (f2 : Int))) (.int .i64 0) (.int .u64 0) (.int .u64 0) (.int .u64 0) (.int .i64 0) (.int .i64 0) (fun i hi => HY1.out.some i hi)
  refine hK.out _ _ ⟨(hoS.cell ⟨b, o + 1, none⟩ hsb1 (by show b < Y ∨ Y + 1 ≤ b; omega)).trans d0', (hoS.cell ⟨b, o + 2, none⟩ hsb1 (by show b < Y ∨ Y + 1 ≤ b; omega)).trans d1'⟩ (fun hHeld => ?_)
  clear hK K
  try simp only [Act.put, List.setIfInBounds_toArray, List.set_cons_zero, List.set_cons_succ]
  refine wpAnyH_done (by kernel_rfl) ?_ _
  have e0 : (put9 w1 Y (.int .i64 0) (.int .i64 0) (.int .i64 ((f1 : Int) + 256 * (f2 : Int))) (.int .i64 0) (.int .u64 0) (.int .u64 0) (.int .u64 0) (.int .i64 0) (.int .i64 0)).cell? ⟨Y, 0, none⟩ = some (.int .i64 0) := hyS 0 (by decide)
  have e1 : (put9 w1 Y (.int .i64 0) (.int .i64 0) (.int .i64 ((f1 : Int) + 256 * (f2 : Int))) (.int .i64 0) (.int .u64 0) (.int .u64 0) (.int .u64 0) (.int .i64 0) (.int .i64 0)).cell? ⟨Y, 1, none⟩ = some (.int .i64 0) := hyS 1 (by decide)
  have e2 : (put9 w1 Y (.int .i64 0) (.int .i64 0) (.int .i64 ((f1 : Int) + 256 * (f2 : Int))) (.int .i64 0) (.int .u64 0) (.int .u64 0) (.int .u64 0) (.int .i64 0) (.int .i64 0)).cell? ⟨Y, 2, none⟩ = some (.int .i64 ((f1 : Int) + 256 * (f2 : Int))) := hyS 2 (by decide)
  have e3 : (put9 w1 Y (.int .i64 0) (.int .i64 0) (.int .i64 ((f1 : Int) + 256 * (f2 : Int))) (.int .i64 0) (.int .u64 0) (.int .u64 0) (.int .u64 0) (.int .i64 0) (.int .i64 0)).cell? ⟨Y, 3, none⟩ = some (.int .i64 0) := hyS 3 (by decide)
  have e4 : (put9 w1 Y (.int .i64 0) (.int .i64 0) (.int .i64 ((f1 : Int) + 256 * (f2 : Int))) (.int .i64 0) (.int .u64 0) (.int .u64 0) (.int .u64 0) (.int .i64 0) (.int .i64 0)).cell? ⟨Y, 4, none⟩ = some (.int .u64 0) := hyS 4 (by decide)
  have e5 : (put9 w1 Y (.int .i64 0) (.int .i64 0) (.int .i64 ((f1 : Int) + 256 * (f2 : Int))) (.int .i64 0) (.int .u64 0) (.int .u64 0) (.int .u64 0) (.int .i64 0) (.int .i64 0)).cell? ⟨Y, 5, none⟩ = some (.int .u64 0) := hyS 5 (by decide)
  have e6 : (put9 w1 Y (.int .i64 0) (.int .i64 0) (.int .i64 ((f1 : Int) + 256 * (f2 : Int))) (.int .i64 0) (.int .u64 0) (.int .u64 0) (.int .u64 0) (.int .i64 0) (.int .i64 0)).cell? ⟨Y, 6, none⟩ = some (.int .u64 0) := hyS 6 (by decide)
  have e7 : (put9 w1 Y (.int .i64 0) (.int .i64 0) (.int .i64 ((f1 : Int) + 256 * (f2 : Int))) (.int .i64 0) (.int .u64 0) (.int .u64 0) (.int .u64 0) (.int .i64 0) (.int .i64 0)).cell? ⟨Y, 7, none⟩ = some (.int .i64 0) := hyS 7 (by decide)
  have e8 : (put9 w1 Y (.int .i64 0) (.int .i64 0) (.int .i64 ((f1 : Int) + 256 * (f2 : Int))) (.int .i64 0) (.int .u64 0) (.int .u64 0) (.int .u64 0) (.int .i64 0) (.int .i64 0)).cell? ⟨Y, 8, none⟩ = some (.int .i64 0) := hyS 8 (by decide)
  have HE : Hid (ResE w (put9 w1 Y (.int .i64 0) (.int .i64 0) (.int .i64 ((f1 : Int) + 256 * (f2 : Int))) (.int .i64 0) (.int .u64 0) (.int .u64 0) (.int .u64 0) (.int .i64 0) (.int .i64 0)) X) := Lib.hid ⟨Only.on HR1.out.g hoS HY1.out.xw, by have := hoS.size; have := HR1.out.sz; omega, HR1.out.xw, fun i hi => (hoS.cell ⟨X, i, none⟩ HR1.out.sz (by show X < Y ∨ Y + 1 ≤ X; omega)).trans (HR1.out.r i hi), fun i => (hoS.frozen ⟨X, i, none⟩ HR1.out.sz (by show X < Y ∨ Y + 1 ≤ X; omega)).trans (HR1.out.rf i)⟩
  have hsE : Y < (put9 w1 Y (.int .i64 0) (.int .i64 0) (.int .i64 ((f1 : Int) + 256 * (f2 : Int))) (.int .i64 0) (.int .u64 0) (.int .u64 0) (.int .u64 0) (.int .i64 0) (.int .i64 0)).heap.size := by have := hoS.size; have := HY1.out.sz; omega
  clear hHeld hoS hyS HY1 HR1 d0' d1' z0 zf0 z1 zf1 z2 zf2 z3 zf3 z4 zf4 z5 zf5 z6 zf6 z7 zf7 z8 zf8
  change Exit.then _ _ _ _ (put9 w1 Y (.int .i64 0) (.int .i64 0) (.int .i64 ((f1 : Int) + 256 * (f2 : Int))) (.int .i64 0) (.int .u64 0) (.int .u64 0) (.int .u64 0) (.int .i64 0) (.int .i64 0))
  generalize put9 w1 Y (.int .i64 0) (.int .i64 0) (.int .i64 ((f1 : Int) + 256 * (f2 : Int))) (.int .i64 0) (.int .u64 0) (.int .u64 0) (.int .u64 0) (.int .i64 0) (.int .i64 0) = wE at *
  have CR := Lib.hid (CR0.out wE)
  clear CR0
  go_wp2_with fail
  refine CR.out.mono ?_
  rintro e w2 ⟨rfl, g2⟩
  have HR2 := Lib.hid (HE.out.kept g2)
  have e0 := (g2.cell_far ⟨Y, 0, none⟩ hsE (by simp)).trans e0
  have e1 := (g2.cell_far ⟨Y, 1, none⟩ hsE (by simp)).trans e1
  have e2 := (g2.cell_far ⟨Y, 2, none⟩ hsE (by simp)).trans e2
  have e3 := (g2.cell_far ⟨Y, 3, none⟩ hsE (by simp)).trans e3
  have e4 := (g2.cell_far ⟨Y, 4, none⟩ hsE (by simp)).trans e4
  have e5 := (g2.cell_far ⟨Y, 5, none⟩ hsE (by simp)).trans e5
  have e6 := (g2.cell_far ⟨Y, 6, none⟩ hsE (by simp)).trans e6
  have e7 := (g2.cell_far ⟨Y, 7, none⟩ hsE (by simp)).trans e7
  have e8 := (g2.cell_far ⟨Y, 8, none⟩ hsE (by simp)).trans e8
  clear g2 CR
  cases q with
  | false =>
    have hRf := HV.out
    simp only [if_neg (show ¬ (false = true) by decide)] at hRf
    try unfold zE at hRf
    try unfold zC at hRf
    try simp only at hRf
    subst hRf
    have z0 : w2.cell? ⟨X, 0, none⟩ = some (.int .i64 0) := HR2.out.r 0 (by decide)
    have zf0 := HR2.out.rf 0
    have z1 : w2.cell? ⟨X, 1, none⟩ = some (.int .i64 0) := HR2.out.r 1 (by decide)
    have zf1 := HR2.out.rf 1
    have z2 : w2.cell? ⟨X, 2, none⟩ = some (.int .i64 0) := HR2.out.r 2 (by decide)
    have zf2 := HR2.out.rf 2
    have z3 : w2.cell? ⟨X, 3, none⟩ = some (.int .i64 0) := HR2.out.r 3 (by decide)
    have zf3 := HR2.out.rf 3
    have z4 : w2.cell? ⟨X, 4, none⟩ = some (.int .u64 0) := HR2.out.r 4 (by decide)
    have zf4 := HR2.out.rf 4
    have z5 : w2.cell? ⟨X, 5, none⟩ = some (.int .u64 0) := HR2.out.r 5 (by decide)
    have zf5 := HR2.out.rf 5
    have z6 : w2.cell? ⟨X, 6, none⟩ = some (.int .u64 0) := HR2.out.r 6 (by decide)
    have zf6 := HR2.out.rf 6
    have z7 : w2.cell? ⟨X, 7, none⟩ = some (.int .i64 0) := HR2.out.r 7 (by decide)
    have zf7 := HR2.out.rf 7
    have z8 : w2.cell? ⟨X, 8, none⟩ = some (.int .i64 0) := HR2.out.r 8 (by decide)
    have zf8 := HR2.out.rf 8
    go_wp2
    have ho := put9_only w2 X (.int .i64 0) (.int .i64 0) (.int .i64 0) (.int .i64 0) (.int .u64 0) (.int .u64 0) (.int .u64 0) (.int .i64 0) (.int .i64 0)
    have hy := put9_at (w := w2) (X := X) (.int .i64 0) (.int .i64 0) (.int .i64 0) (.int .i64 0) (.int .u64 0) (.int .u64 0) (.int .u64 0) (.int .i64 0) (.int .i64 0) (fun i hi => HR2.out.some i hi)
    have y0 : (put9 w2 X (.int .i64 0) (.int .i64 0) (.int .i64 0) (.int .i64 0) (.int .u64 0) (.int .u64 0) (.int .u64 0) (.int .i64 0) (.int .i64 0)).cell? ⟨X, 0, none⟩ = some (.int .i64 0) := hy 0 (by decide)
    have y1 : (put9 w2 X (.int .i64 0) (.int .i64 0) (.int .i64 0) (.int .i64 0) (.int .u64 0) (.int .u64 0) (.int .u64 0) (.int .i64 0) (.int .i64 0)).cell? ⟨X, 1, none⟩ = some (.int .i64 0) := hy 1 (by decide)
    have y2 : (put9 w2 X (.int .i64 0) (.int .i64 0) (.int .i64 0) (.int .i64 0) (.int .u64 0) (.int .u64 0) (.int .u64 0) (.int .i64 0) (.int .i64 0)).cell? ⟨X, 2, none⟩ = some (.int .i64 0) := hy 2 (by decide)
    have y3 : (put9 w2 X (.int .i64 0) (.int .i64 0) (.int .i64 0) (.int .i64 0) (.int .u64 0) (.int .u64 0) (.int .u64 0) (.int .i64 0) (.int .i64 0)).cell? ⟨X, 3, none⟩ = some (.int .i64 0) := hy 3 (by decide)
    have y4 : (put9 w2 X (.int .i64 0) (.int .i64 0) (.int .i64 0) (.int .i64 0) (.int .u64 0) (.int .u64 0) (.int .u64 0) (.int .i64 0) (.int .i64 0)).cell? ⟨X, 4, none⟩ = some (.int .u64 0) := hy 4 (by decide)
    have y5 : (put9 w2 X (.int .i64 0) (.int .i64 0) (.int .i64 0) (.int .i64 0) (.int .u64 0) (.int .u64 0) (.int .u64 0) (.int .i64 0) (.int .i64 0)).cell? ⟨X, 5, none⟩ = some (.int .u64 0) := hy 5 (by decide)
    have y6 : (put9 w2 X (.int .i64 0) (.int .i64 0) (.int .i64 0) (.int .i64 0) (.int .u64 0) (.int .u64 0) (.int .u64 0) (.int .i64 0) (.int .i64 0)).cell? ⟨X, 6, none⟩ = some (.int .u64 0) := hy 6 (by decide)
    have y7 : (put9 w2 X (.int .i64 0) (.int .i64 0) (.int .i64 0) (.int .i64 0) (.int .u64 0) (.int .u64 0) (.int .u64 0) (.int .i64 0) (.int .i64 0)).cell? ⟨X, 7, none⟩ = some (.int .i64 0) := hy 7 (by decide)
    have y8 : (put9 w2 X (.int .i64 0) (.int .i64 0) (.int .i64 0) (.int .i64 0) (.int .u64 0) (.int .u64 0) (.int .u64 0) (.int .i64 0) (.int .i64 0)).cell? ⟨X, 8, none⟩ = some (.int .i64 0) := hy 8 (by decide)
    change bodyPost _ _ _ _ _ (put9 w2 X (.int .i64 0) (.int .i64 0) (.int .i64 0) (.int .i64 0) (.int .u64 0) (.int .u64 0) (.int .u64 0) (.int .i64 0) (.int .i64 0))
    clear hy
    generalize put9 w2 X (.int .i64 0) (.int .i64 0) (.int .i64 0) (.int .i64 0) (.int .u64 0) (.int .u64 0) (.int .u64 0) (.int .i64 0) (.int .i64 0) = wF at *
    exact bodyPost_ret (v := .tuple #[.agg #[.int .i64 0, .int .i64 0, .int .i64 0, .int .i64 0, .int .u64 0, .int .u64 0, .int .u64 0, .int .i64 0, .int .i64 0], .bool false]) (by simp [results, Tryd.results32, go_sem, y0, y1, y2, y3, y4, y5, y6, y7, y8]) rfl ⟨rfl, Only.on HR2.out.g ho HR2.out.xw⟩
  | true =>
    have hRf := HV.out
    simp only [if_true] at hRf
    subst hRf
    have z0 : w2.cell? ⟨X, 0, none⟩ = some (.int .i64 0) := HR2.out.r 0 (by decide)
    have zf0 := HR2.out.rf 0
    have z1 : w2.cell? ⟨X, 1, none⟩ = some (.int .i64 0) := HR2.out.r 1 (by decide)
    have zf1 := HR2.out.rf 1
    have z2 : w2.cell? ⟨X, 2, none⟩ = some (.int .i64 0) := HR2.out.r 2 (by decide)
    have zf2 := HR2.out.rf 2
    have z3 : w2.cell? ⟨X, 3, none⟩ = some (.int .i64 0) := HR2.out.r 3 (by decide)
    have zf3 := HR2.out.rf 3
    have z4 : w2.cell? ⟨X, 4, none⟩ = some (.int .u64 0) := HR2.out.r 4 (by decide)
    have zf4 := HR2.out.rf 4
    have z5 : w2.cell? ⟨X, 5, none⟩ = some (.int .u64 0) := HR2.out.r 5 (by decide)
    have zf5 := HR2.out.rf 5
    have z6 : w2.cell? ⟨X, 6, none⟩ = some (.int .u64 0) := HR2.out.r 6 (by decide)
    have zf6 := HR2.out.rf 6
    have z7 : w2.cell? ⟨X, 7, none⟩ = some (.int .i64 0) := HR2.out.r 7 (by decide)
    have zf7 := HR2.out.rf 7
    have z8 : w2.cell? ⟨X, 8, none⟩ = some (.int .i64 0) := HR2.out.r 8 (by decide)
    have zf8 := HR2.out.rf 8
    go_wp2
    have ho := put9_only w2 X (.int .i64 0) (.int .i64 0) (.int .i64 ((f1 : Int) + 256 * (f2 : Int))) (.int .i64 0) (.int .u64 0) (.int .u64 0) (.int .u64 0) (.int .i64 0) (.int .i64 0)
    have hy := put9_at (w := w2) (X := X) (.int .i64 0) (.int .i64 0) (.int .i64 ((f1 : Int) + 256 * (f2 : Int))) (.int .i64 0) (.int .u64 0) (.int .u64 0) (.int .u64 0) (.int .i64 0) (.int .i64 0) (fun i hi => HR2.out.some i hi)
    have y0 : (put9 w2 X (.int .i64 0) (.int .i64 0) (.int .i64 ((f1 : Int) + 256 * (f2 : Int))) (.int .i64 0) (.int .u64 0) (.int .u64 0) (.int .u64 0) (.int .i64 0) (.int .i64 0)).cell? ⟨X, 0, none⟩ = some (.int .i64 0) := hy 0 (by decide)
    have y1 : (put9 w2 X (.int .i64 0) (.int .i64 0) (.int .i64 ((f1 : Int) + 256 * (f2 : Int))) (.int .i64 0) (.int .u64 0) (.int .u64 0) (.int .u64 0) (.int .i64 0) (.int .i64 0)).cell? ⟨X, 1, none⟩ = some (.int .i64 0) := hy 1 (by decide)
    have y2 : (put9 w2 X (.int .i64 0) (.int .i64 0) (.int .i64 ((f1 : Int) + 256 * (f2 : Int))) (.int .i64 0) (.int .u64 0) (.int .u64 0) (.int .u64 0) (.int .i64 0) (.int .i64 0)).cell? ⟨X, 2, none⟩ = some (.int .i64 ((f1 : Int) + 256 * (f2 : Int))) := hy 2 (by decide)
    have y3 : (put9 w2 X (.int .i64 0) (.int .i64 0) (.int .i64 ((f1 : Int) + 256 * (f2 : Int))) (.int .i64 0) (.int .u64 0) (.int .u64 0) (.int .u64 0) (.int .i64 0) (.int .i64 0)).cell? ⟨X, 3, none⟩ = some (.int .i64 0) := hy 3 (by decide)
    have y4 : (put9 w2 X (.int .i64 0) (.int .i64 0) (.int .i64 ((f1 : Int) + 256 * (f2 : Int))) (.int .i64 0) (.int .u64 0) (.int .u64 0) (.int .u64 0) (.int .i64 0) (.int .i64 0)).cell? ⟨X, 4, none⟩ = some (.int .u64 0) := hy 4 (by decide)
    have y5 : (put9 w2 X (.int .i64 0) (.int .i64 0) (.int .i64 ((f1 : Int) + 256 * (f2 : Int))) (.int .i64 0) (.int .u64 0) (.int .u64 0) (.int .u64 0) (.int .i64 0) (.int .i64 0)).cell? ⟨X, 5, none⟩ = some (.int .u64 0) := hy 5 (by decide)
    have y6 : (put9 w2 X (.int .i64 0) (.int .i64 0) (.int .i64 ((f1 : Int) + 256 * (f2 : Int))) (.int .i64 0) (.int .u64 0) (.int .u64 0) (.int .u64 0) (.int .i64 0) (.int .i64 0)).cell? ⟨X, 6, none⟩ = some (.int .u64 0) := hy 6 (by decide)
    have y7 : (put9 w2 X (.int .i64 0) (.int .i64 0) (.int .i64 ((f1 : Int) + 256 * (f2 : Int))) (.int .i64 0) (.int .u64 0) (.int .u64 0) (.int .u64 0) (.int .i64 0) (.int .i64 0)).cell? ⟨X, 7, none⟩ = some (.int .i64 0) := hy 7 (by decide)
    have y8 : (put9 w2 X (.int .i64 0) (.int .i64 0) (.int .i64 ((f1 : Int) + 256 * (f2 : Int))) (.int .i64 0) (.int .u64 0) (.int .u64 0) (.int .u64 0) (.int .i64 0) (.int .i64 0)).cell? ⟨X, 8, none⟩ = some (.int .i64 0) := hy 8 (by decide)
    change bodyPost _ _ _ _ _ (put9 w2 X (.int .i64 0) (.int .i64 0) (.int .i64 ((f1 : Int) + 256 * (f2 : Int))) (.int .i64 0) (.int .u64 0) (.int .u64 0) (.int .u64 0) (.int .i64 0) (.int .i64 0))
    clear hy
    generalize put9 w2 X (.int .i64 0) (.int .i64 0) (.int .i64 ((f1 : Int) + 256 * (f2 : Int))) (.int .i64 0) (.int .u64 0) (.int .u64 0) (.int .u64 0) (.int .i64 0) (.int .i64 0) = wF at *
    exact bodyPost_ret (v := .tuple #[.agg #[.int .i64 0, .int .i64 0, .int .i64 ((f1 : Int) + 256 * (f2 : Int)), .int .i64 0, .int .u64 0, .int .u64 0, .int .u64 0, .int .i64 0, .int .i64 0], .bool true]) (by simp [results, Tryd.results32, go_sem, y0, y1, y2, y3, y4, y5, y6, y7, y8]) rfl ⟨rfl, Only.on HR2.out.g ho HR2.out.xw⟩

set_option maxHeartbeats 4000000 in
theorem rone_r {w : World} {v : Value} {F : List Nat} (H : ReadsB w v F) (hl : F.length = 4) (h0 : F.getD 0 0 = 2) :
    Calls Tryd.prog 32 #[v] w fun r w' => r = .returned (erV F) ∧ w.grownBy w' none := by
  obtain ⟨R, hR⟩ : ∃ R, R = erV F := ⟨_, rfl⟩
  rw [← hR]
  obtain ⟨a0, cap, rfl, hx1, hx2, hx3, hx4⟩ := H
  obtain ⟨b, o, rfl, hb, hc⟩ := hx4 (by omega)
  have HH : Hid (ReadsB w (.slice (some ⟨b, o, none⟩) F.length cap) F) := Lib.hid ⟨_, cap, rfl, hx1, hx2, hx3, hx4⟩
  have hcap : F.length ≤ cap := hx1
  clear hx1 hx2 hx4 hc
  obtain ⟨f1, hf1⟩ : ∃ f1, f1 = F.getD 1 0 := ⟨_, rfl⟩
  obtain ⟨f2, hf2⟩ : ∃ f2, f2 = F.getD 2 0 := ⟨_, rfl⟩
  obtain ⟨f3, hf3⟩ : ∃ f3, f3 = F.getD 3 0 := ⟨_, rfl⟩
  have hraw : rawE F = (En.mk 2 (f1 : Int) 0 zC (f2 : Int) (f3 : Int)) := by unfold rawE; rw [hf1, hf2, hf3]; rw [if_neg (by omega)]; exact if_pos ⟨hl, h0⟩
  rw [erV_raw hraw] at hR
  have hsm : smC ((En.mk 2 (f1 : Int) 0 zC (f2 : Int) (f3 : Int)) : En).call := ⟨by show (0 : Nat) < 18446744073709551616; decide, by show (0 : Nat) < 18446744073709551616; decide, by show (0 : Nat) < 18446744073709551616; decide⟩
  have CR0 := Lib.hid (fun (wz : World) => rrightE (w := wz) (En.mk 2 (f1 : Int) 0 zC (f2 : Int) (f3 : Int)) hsm)
  obtain ⟨q, hq⟩ : ∃ q, q = okE (En.mk 2 (f1 : Int) 0 zC (f2 : Int) (f3 : Int)) := ⟨_, rfl⟩
  rw [← hq] at hR CR0
  have HV := Lib.hid hR
  unfold En.val at HV CR0
  try unfold zC at HV CR0
  simp only at HV CR0
  clear hR hraw hsm hq
  have k1 := World.grownBy_alloc w (.cells #[.int .i64 0, .int .i64 0, .int .i64 0, .int .i64 0, .int .u64 0, .int .u64 0, .int .u64 0, .int .i64 0, .int .i64 0] 55) none
  have k2 := World.grownBy_alloc (w.alloc (.cells #[.int .i64 0, .int .i64 0, .int .i64 0, .int .i64 0, .int .u64 0, .int .u64 0, .int .u64 0, .int .i64 0, .int .i64 0] 55)) (.cells #[.int .i64 0, .int .i64 0, .int .i64 0, .int .i64 0, .int .u64 0, .int .u64 0, .int .u64 0, .int .i64 0, .int .i64 0] 55) none
  have hsz : (w.alloc (.cells #[.int .i64 0, .int .i64 0, .int .i64 0, .int .i64 0, .int .u64 0, .int .u64 0, .int .u64 0, .int .i64 0, .int .i64 0] 55)).heap.size = w.heap.size + 1 := by simp
  have HR0 := Lib.hid ((rese_new (World.grownBy.refl w none)).kept k2)
  have HY0 := rese_new (w := w) k1
  rw [hsz] at HY0
  have HY0 := Lib.hid HY0
  have kz := Lib.hid (k1.trans k2)
  clear k1 k2 hsz
  have c0 := ((HH.out.grown kz.out).get 0 (by omega)).1
  have c1 := ((HH.out.grown kz.out).get 1 (by omega)).1
  have b1 := ((HH.out.grown kz.out).get 1 (by omega)).2.1
  rw [← hf1] at c1 b1
  have hw1 : IntKind.i64.wrap ((f1 : Nat) : Int) = ((f1 : Nat) : Int) := by rw [IntKind.wrap_i64]; omega
  have c2 := ((HH.out.grown kz.out).get 2 (by omega)).1
  have b2 := ((HH.out.grown kz.out).get 2 (by omega)).2.1
  rw [← hf2] at c2 b2
  have hw2 : IntKind.i64.wrap ((f2 : Nat) : Int) = ((f2 : Nat) : Int) := by rw [IntKind.wrap_i64]; omega
  have c3 := ((HH.out.grown kz.out).get 3 (by omega)).1
  have b3 := ((HH.out.grown kz.out).get 3 (by omega)).2.1
  rw [← hf3] at c3 b3
  have hw3 : IntKind.i64.wrap ((f3 : Nat) : Int) = ((f3 : Nat) : Int) := by rw [IntKind.wrap_i64]; omega
  rw [Nat.add_zero, h0] at c0
  rw [hl]
  have hneb : b ≠ w.heap.size := by omega
  have hneb1 : b ≠ w.heap.size + 1 := by omega
  have hsb0 : b < ((w.alloc (.cells #[.int .i64 0, .int .i64 0, .int .i64 0, .int .i64 0, .int .u64 0, .int .u64 0, .int .u64 0, .int .i64 0, .int .i64 0] 55)).alloc (.cells #[.int .i64 0, .int .i64 0, .int .i64 0, .int .i64 0, .int .u64 0, .int .u64 0, .int .u64 0, .int .i64 0, .int .i64 0] 55)).heap.size := by have := kz.out.size; omega
  clear h0 hcap hl HH hb hf1 hf2 hf3
  go_enter Tryd.func32, Tryd.ntmps32
  go_wp2_with fail
  have HR := HR0
  have HY := HY0
  have hXY : w.heap.size ≠ w.heap.size + 1 := by omega
  have hXle : w.heap.size ≤ w.heap.size + 1 := by omega
  have d0 : ((w.alloc (.cells #[.int .i64 0, .int .i64 0, .int .i64 0, .int .i64 0, .int .u64 0, .int .u64 0, .int .u64 0, .int .i64 0, .int .i64 0] 55)).alloc (.cells #[.int .i64 0, .int .i64 0, .int .i64 0, .int .i64 0, .int .u64 0, .int .u64 0, .int .u64 0, .int .i64 0, .int .i64 0] 55)).cell? ⟨b, o + 1, none⟩ = some (.int .u8 (f1 : Int)) := c1
  have d1 : ((w.alloc (.cells #[.int .i64 0, .int .i64 0, .int .i64 0, .int .i64 0, .int .u64 0, .int .u64 0, .int .u64 0, .int .i64 0, .int .i64 0] 55)).alloc (.cells #[.int .i64 0, .int .i64 0, .int .i64 0, .int .i64 0, .int .u64 0, .int .u64 0, .int .u64 0, .int .i64 0, .int .i64 0] 55)).cell? ⟨b, o + 2, none⟩ = some (.int .u8 (f2 : Int)) := c2
  have d2 : ((w.alloc (.cells #[.int .i64 0, .int .i64 0, .int .i64 0, .int .i64 0, .int .u64 0, .int .u64 0, .int .u64 0, .int .i64 0, .int .i64 0] 55)).alloc (.cells #[.int .i64 0, .int .i64 0, .int .i64 0, .int .i64 0, .int .u64 0, .int .u64 0, .int .u64 0, .int .i64 0, .int .i64 0] 55)).cell? ⟨b, o + 3, none⟩ = some (.int .u8 (f3 : Int)) := c3
  have hsb : b < ((w.alloc (.cells #[.int .i64 0, .int .i64 0, .int .i64 0, .int .i64 0, .int .u64 0, .int .u64 0, .int .u64 0, .int .i64 0, .int .i64 0] 55)).alloc (.cells #[.int .i64 0, .int .i64 0, .int .i64 0, .int .i64 0, .int .u64 0, .int .u64 0, .int .u64 0, .int .i64 0, .int .i64 0] 55)).heap.size := hsb0
  clear hsb0 kz c0 c1 c2 c3
  clear HR0 HY0
  generalize ((w.alloc (.cells #[.int .i64 0, .int .i64 0, .int .i64 0, .int .i64 0, .int .u64 0, .int .u64 0, .int .u64 0, .int .i64 0, .int .i64 0] 55)).alloc (.cells #[.int .i64 0, .int .i64 0, .int .i64 0, .int .i64 0, .int .u64 0, .int .u64 0, .int .u64 0, .int .i64 0, .int .i64 0] 55)) = wr at *
  generalize w.heap.size + 1 = Y at *
  generalize hXX : w.heap.size = X at *
  clear hXX
  have d0' : wr.drew.cell? ⟨b, o + 1, none⟩ = some (.int .u8 (f1 : Int)) := d0
  have d1' : wr.drew.cell? ⟨b, o + 2, none⟩ = some (.int .u8 (f2 : Int)) := d1
  have d2' : wr.drew.cell? ⟨b, o + 3, none⟩ = some (.int .u8 (f3 : Int)) := d2
  have kd : wr.grownBy wr.drew none := ⟨rfl, rfl, rfl, Nat.le_refl _, fun _ _ _ => rfl⟩
  have HR1 := Lib.hid (HR.out.kept kd)
  have HY1 := Lib.hid (HY.out.kept kd)
  have hsb1 : b < wr.drew.heap.size := hsb
  clear kd d0 d1 d2 hsb
  refine wp_region_held_drew (S := fun w' => w'.cell? ⟨b, o + 1, none⟩ = some (.int .u8 (f1 : Int)) ∧ w'.cell? ⟨b, o + 2, none⟩ = some (.int .u8 (f2 : Int)) ∧ w'.cell? ⟨b, o + 3, none⟩ = some (.int .u8 (f3 : Int))) (by kernel_rfl) ⟨d0', d1', d2'⟩ (fun hHeld => ?_)
  generalize wr.drew = w1 at *
  refine wpAnyH_take (i := 0) (oi := ⟨_, _, _, _, _, _⟩) (v := ?_) rfl (by kernel_rfl) (by kernel_rfl) (by kernel_rfl) (fun _ _ _ h => h) (Or.inl ⟨by rfl, ?_⟩) (by assumption) ?_
  rotate_left
  · intro wz hSw
    try dsimp only at hSw
    go_simp
    try with_reducible rfl
  simp only [Act.put, List.setIfInBounds_toArray, List.set_cons_zero, List.set_cons_succ]
  refine wpAnyH_take (i := 1) (oi := ⟨_, _, _, _, _, _⟩) (v := ?_) rfl (by kernel_rfl) (by kernel_rfl) (by kernel_rfl) (fun _ _ _ h => h) (Or.inl ⟨by rfl, ?_⟩) (by assumption) ?_
  rotate_left
  · intro wz hSw
    try dsimp only at hSw
    go_simp
    try with_reducible rfl
  simp only [Act.put, List.setIfInBounds_toArray, List.set_cons_zero, List.set_cons_succ]
  refine wpAnyH_take (i := 2) (oi := ⟨_, _, _, _, _, _⟩) (v := ?_) rfl (by kernel_rfl) (by kernel_rfl) (by kernel_rfl) (fun _ _ _ h => h) (Or.inl ⟨by rfl, ?_⟩) (by assumption) ?_
  rotate_left
  · intro wz hSw
    try dsimp only at hSw
    go_simp
    try with_reducible rfl
  simp only [Act.put, List.setIfInBounds_toArray, List.set_cons_zero, List.set_cons_succ]
  refine wpAnyH_take (i := 3) (oi := ⟨_, _, _, _, _, _⟩) (v := ?_) rfl (by kernel_rfl) (by kernel_rfl) (by kernel_rfl) (fun _ _ _ h => h) (Or.inl ⟨by rfl, ?_⟩) (by assumption) ?_
  rotate_left
  · intro wz hSw
    try dsimp only at hSw
    go_simp
    try with_reducible rfl
  simp only [Act.put, List.setIfInBounds_toArray, List.set_cons_zero, List.set_cons_succ]
  refine wpAnyH_take (i := 4) (oi := ⟨_, _, _, _, _, _⟩) (v := ?_) rfl (by kernel_rfl) (by kernel_rfl) (by kernel_rfl) (fun _ _ _ h => h) (Or.inl ⟨by rfl, ?_⟩) (by assumption) ?_
  rotate_left
  · intro wz hSw
    try dsimp only at hSw
    go_simp
    try with_reducible rfl
  simp only [Act.put, List.setIfInBounds_toArray, List.set_cons_zero, List.set_cons_succ]
  refine wpAnyH_take (i := 5) (oi := ⟨_, _, _, _, _, _⟩) (v := ?_) rfl (by kernel_rfl) (by kernel_rfl) (by kernel_rfl) (fun _ _ _ h => h) (Or.inl ⟨by rfl, ?_⟩) (by assumption) ?_
  rotate_left
  · intro wz hSw
    try dsimp only at hSw
    go_simp
    try with_reducible rfl
  simp only [Act.put, List.setIfInBounds_toArray, List.set_cons_zero, List.set_cons_succ]
  refine wpAnyH_take (i := 6) (oi := ⟨_, _, _, _, _, _⟩) (v := ?_) rfl (by kernel_rfl) (by kernel_rfl) (by kernel_rfl) (fun _ _ _ h => h) (Or.inl ⟨by rfl, ?_⟩) (by assumption) ?_
  rotate_left
  · intro wz hSw
    try dsimp only at hSw
    go_simp
    try with_reducible rfl
  simp only [Act.put, List.setIfInBounds_toArray, List.set_cons_zero, List.set_cons_succ]
  refine wpAnyH_take (i := 7) (oi := ⟨_, _, _, _, _, _⟩) (v := ?_) rfl (by kernel_rfl) (by kernel_rfl) (by kernel_rfl) (fun _ _ _ h => h) (Or.inl ⟨by rfl, ?_⟩) (by assumption) ?_
  rotate_left
  · intro wz hSw
    try dsimp only at hSw
    go_simp
    try with_reducible rfl
  simp only [Act.put, List.setIfInBounds_toArray, List.set_cons_zero, List.set_cons_succ]
  refine wpAnyH_take (i := 8) (oi := ⟨_, _, _, _, _, _⟩) (v := ?_) rfl (by kernel_rfl) (by kernel_rfl) (by kernel_rfl) (fun _ _ _ h => h) (Or.inl ⟨by rfl, ?_⟩) (by assumption) ?_
  rotate_left
  · intro wz hSw
    try dsimp only at hSw
    go_simp
    try with_reducible rfl
  simp only [Act.put, List.setIfInBounds_toArray, List.set_cons_zero, List.set_cons_succ]
  refine wpAnyH_take (i := 9) (oi := ⟨_, _, _, _, _, _⟩) (v := ?_) rfl (by kernel_rfl) (by kernel_rfl) (by kernel_rfl) (fun _ _ _ h => h) (Or.inl ⟨by rfl, ?_⟩) (by assumption) ?_
  rotate_left
  · intro wz hSw
    try dsimp only at hSw
    go_simp
    try with_reducible rfl
  simp only [Act.put, List.setIfInBounds_toArray, List.set_cons_zero, List.set_cons_succ]
  refine wpAnyH_take (i := 10) (oi := ⟨_, _, _, _, _, _⟩) (v := ?_) rfl (by kernel_rfl) (by kernel_rfl) (by kernel_rfl) (fun _ _ _ h => h) (Or.inl ⟨by rfl, ?_⟩) (by assumption) ?_
  rotate_left
  · intro wz hSw
    try dsimp only at hSw
    go_simp
    try with_reducible rfl
  simp only [Act.put, List.setIfInBounds_toArray, List.set_cons_zero, List.set_cons_succ]
  refine wpAnyH_take (i := 11) (oi := ⟨_, _, _, _, _, _⟩) (v := ?_) rfl (by kernel_rfl) (by kernel_rfl) (by kernel_rfl) (fun _ _ _ h => h) (Or.inl ⟨by rfl, ?_⟩) (by assumption) ?_
  rotate_left
  · intro wz hSw
    try dsimp only at hSw
    go_simp
    try with_reducible rfl
  simp only [Act.put, List.setIfInBounds_toArray, List.set_cons_zero, List.set_cons_succ]
  refine wpAnyH_take (i := 12) (oi := ⟨_, _, _, _, _, _⟩) (v := ?_) rfl (by kernel_rfl) (by kernel_rfl) (by kernel_rfl) (fun _ _ _ h => h) (Or.inl ⟨by rfl, ?_⟩) (by assumption) ?_
  rotate_left
  · intro wz hSw
    try dsimp only at hSw
    go_simp
    try with_reducible rfl
  simp only [Act.put, List.setIfInBounds_toArray, List.set_cons_zero, List.set_cons_succ]
  refine wpAnyH_ready (rs := [13]) (by kernel_rfl) (by simp) ?_
  refine AllReadyH.cons (o := ⟨_, _, _, _, _, _⟩) rfl (fun K hK => ?_) AllReadyH.nil
  go_simp
  have z0 : w1.cell? ⟨Y, 0, none⟩ = some (.int .i64 0) := HY1.out.r 0 (by decide)
  have zf0 := HY1.out.rf 0
  have z1 : w1.cell? ⟨Y, 1, none⟩ = some (.int .i64 0) := HY1.out.r 1 (by decide)
  have zf1 := HY1.out.rf 1
  have z2 : w1.cell? ⟨Y, 2, none⟩ = some (.int .i64 0) := HY1.out.r 2 (by decide)
  have zf2 := HY1.out.rf 2
  have z3 : w1.cell? ⟨Y, 3, none⟩ = some (.int .i64 0) := HY1.out.r 3 (by decide)
  have zf3 := HY1.out.rf 3
  have z4 : w1.cell? ⟨Y, 4, none⟩ = some (.int .u64 0) := HY1.out.r 4 (by decide)
  have zf4 := HY1.out.rf 4
  have z5 : w1.cell? ⟨Y, 5, none⟩ = some (.int .u64 0) := HY1.out.r 5 (by decide)
  have zf5 := HY1.out.rf 5
  have z6 : w1.cell? ⟨Y, 6, none⟩ = some (.int .u64 0) := HY1.out.r 6 (by decide)
  have zf6 := HY1.out.rf 6
  have z7 : w1.cell? ⟨Y, 7, none⟩ = some (.int .i64 0) := HY1.out.r 7 (by decide)
  have zf7 := HY1.out.rf 7
  have z8 : w1.cell? ⟨Y, 8, none⟩ = some (.int .i64 0) := HY1.out.r 8 (by decide)
  have zf8 := HY1.out.rf 8
  try go_simp
  have hoS := put9_only w1 Y (.int .i64 2) (.int .i64 (f1 : Int)) (.int .i64 0) (.int .i64 0) (.int .u64 0) (.int .u64 0) (.int .u64 0) (.int .i64 (f2 : Int)) (.int .i64 (f3 : Int))
  have hyS := put9_at (w := w1) (X := Y) (.int .i64 2) (.int .i64 (f1 : Int)) (.int .i64 0) (.int .i64 0) (.int .u64 0) (.int .u64 0) (.int .u64 0) (.int .i64 (f2 : Int)) (.int .i64 (f3 : Int)) (fun i hi => HY1.out.some i hi)
  refine hK.out _ _ ⟨(hoS.cell ⟨b, o + 1, none⟩ hsb1 (by show b < Y ∨ Y + 1 ≤ b; omega)).trans d0', (hoS.cell ⟨b, o + 2, none⟩ hsb1 (by show b < Y ∨ Y + 1 ≤ b; omega)).trans d1', (hoS.cell ⟨b, o + 3, none⟩ hsb1 (by show b < Y ∨ Y + 1 ≤ b; omega)).trans d2'⟩ (fun hHeld => ?_)
  clear hK K
  try simp only [Act.put, List.setIfInBounds_toArray, List.set_cons_zero, List.set_cons_succ]
  refine wpAnyH_done (by kernel_rfl) ?_ _
  have e0 : (put9 w1 Y (.int .i64 2) (.int .i64 (f1 : Int)) (.int .i64 0) (.int .i64 0) (.int .u64 0) (.int .u64 0) (.int .u64 0) (.int .i64 (f2 : Int)) (.int .i64 (f3 : Int))).cell? ⟨Y, 0, none⟩ = some (.int .i64 2) := hyS 0 (by decide)
  have e1 : (put9 w1 Y (.int .i64 2) (.int .i64 (f1 : Int)) (.int .i64 0) (.int .i64 0) (.int .u64 0) (.int .u64 0) (.int .u64 0) (.int .i64 (f2 : Int)) (.int .i64 (f3 : Int))).cell? ⟨Y, 1, none⟩ = some (.int .i64 (f1 : Int)) := hyS 1 (by decide)
  have e2 : (put9 w1 Y (.int .i64 2) (.int .i64 (f1 : Int)) (.int .i64 0) (.int .i64 0) (.int .u64 0) (.int .u64 0) (.int .u64 0) (.int .i64 (f2 : Int)) (.int .i64 (f3 : Int))).cell? ⟨Y, 2, none⟩ = some (.int .i64 0) := hyS 2 (by decide)
  have e3 : (put9 w1 Y (.int .i64 2) (.int .i64 (f1 : Int)) (.int .i64 0) (.int .i64 0) (.int .u64 0) (.int .u64 0) (.int .u64 0) (.int .i64 (f2 : Int)) (.int .i64 (f3 : Int))).cell? ⟨Y, 3, none⟩ = some (.int .i64 0) := hyS 3 (by decide)
  have e4 : (put9 w1 Y (.int .i64 2) (.int .i64 (f1 : Int)) (.int .i64 0) (.int .i64 0) (.int .u64 0) (.int .u64 0) (.int .u64 0) (.int .i64 (f2 : Int)) (.int .i64 (f3 : Int))).cell? ⟨Y, 4, none⟩ = some (.int .u64 0) := hyS 4 (by decide)
  have e5 : (put9 w1 Y (.int .i64 2) (.int .i64 (f1 : Int)) (.int .i64 0) (.int .i64 0) (.int .u64 0) (.int .u64 0) (.int .u64 0) (.int .i64 (f2 : Int)) (.int .i64 (f3 : Int))).cell? ⟨Y, 5, none⟩ = some (.int .u64 0) := hyS 5 (by decide)
  have e6 : (put9 w1 Y (.int .i64 2) (.int .i64 (f1 : Int)) (.int .i64 0) (.int .i64 0) (.int .u64 0) (.int .u64 0) (.int .u64 0) (.int .i64 (f2 : Int)) (.int .i64 (f3 : Int))).cell? ⟨Y, 6, none⟩ = some (.int .u64 0) := hyS 6 (by decide)
  have e7 : (put9 w1 Y (.int .i64 2) (.int .i64 (f1 : Int)) (.int .i64 0) (.int .i64 0) (.int .u64 0) (.int .u64 0) (.int .u64 0) (.int .i64 (f2 : Int)) (.int .i64 (f3 : Int))).cell? ⟨Y, 7, none⟩ = some (.int .i64 (f2 : Int)) := hyS 7 (by decide)
  have e8 : (put9 w1 Y (.int .i64 2) (.int .i64 (f1 : Int)) (.int .i64 0) (.int .i64 0) (.int .u64 0) (.int .u64 0) (.int .u64 0) (.int .i64 (f2 : Int)) (.int .i64 (f3 : Int))).cell? ⟨Y, 8, none⟩ = some (.int .i64 (f3 : Int)) := hyS 8 (by decide)
  have HE : Hid (ResE w (put9 w1 Y (.int .i64 2) (.int .i64 (f1 : Int)) (.int .i64 0) (.int .i64 0) (.int .u64 0) (.int .u64 0) (.int .u64 0) (.int .i64 (f2 : Int)) (.int .i64 (f3 : Int))) X) := Lib.hid ⟨Only.on HR1.out.g hoS HY1.out.xw, by have := hoS.size; have := HR1.out.sz; omega, HR1.out.xw, fun i hi => (hoS.cell ⟨X, i, none⟩ HR1.out.sz (by show X < Y ∨ Y + 1 ≤ X; omega)).trans (HR1.out.r i hi), fun i => (hoS.frozen ⟨X, i, none⟩ HR1.out.sz (by show X < Y ∨ Y + 1 ≤ X; omega)).trans (HR1.out.rf i)⟩
  have hsE : Y < (put9 w1 Y (.int .i64 2) (.int .i64 (f1 : Int)) (.int .i64 0) (.int .i64 0) (.int .u64 0) (.int .u64 0) (.int .u64 0) (.int .i64 (f2 : Int)) (.int .i64 (f3 : Int))).heap.size := by have := hoS.size; have := HY1.out.sz; omega
  clear hHeld hoS hyS HY1 HR1 d0' d1' d2' z0 zf0 z1 zf1 z2 zf2 z3 zf3 z4 zf4 z5 zf5 z6 zf6 z7 zf7 z8 zf8
  change Exit.then _ _ _ _ (put9 w1 Y (.int .i64 2) (.int .i64 (f1 : Int)) (.int .i64 0) (.int .i64 0) (.int .u64 0) (.int .u64 0) (.int .u64 0) (.int .i64 (f2 : Int)) (.int .i64 (f3 : Int)))
  generalize put9 w1 Y (.int .i64 2) (.int .i64 (f1 : Int)) (.int .i64 0) (.int .i64 0) (.int .u64 0) (.int .u64 0) (.int .u64 0) (.int .i64 (f2 : Int)) (.int .i64 (f3 : Int)) = wE at *
  have CR := Lib.hid (CR0.out wE)
  clear CR0
  go_wp2_with fail
  refine CR.out.mono ?_
  rintro e w2 ⟨rfl, g2⟩
  have HR2 := Lib.hid (HE.out.kept g2)
  have e0 := (g2.cell_far ⟨Y, 0, none⟩ hsE (by simp)).trans e0
  have e1 := (g2.cell_far ⟨Y, 1, none⟩ hsE (by simp)).trans e1
  have e2 := (g2.cell_far ⟨Y, 2, none⟩ hsE (by simp)).trans e2
  have e3 := (g2.cell_far ⟨Y, 3, none⟩ hsE (by simp)).trans e3
  have e4 := (g2.cell_far ⟨Y, 4, none⟩ hsE (by simp)).trans e4
  have e5 := (g2.cell_far ⟨Y, 5, none⟩ hsE (by simp)).trans e5
  have e6 := (g2.cell_far ⟨Y, 6, none⟩ hsE (by simp)).trans e6
  have e7 := (g2.cell_far ⟨Y, 7, none⟩ hsE (by simp)).trans e7
  have e8 := (g2.cell_far ⟨Y, 8, none⟩ hsE (by simp)).trans e8
  clear g2 CR
  cases q with
  | false =>
    have hRf := HV.out
    simp only [if_neg (show ¬ (false = true) by decide)] at hRf
    try unfold zE at hRf
    try unfold zC at hRf
    try simp only at hRf
    subst hRf
    have z0 : w2.cell? ⟨X, 0, none⟩ = some (.int .i64 0) := HR2.out.r 0 (by decide)
    have zf0 := HR2.out.rf 0
    have z1 : w2.cell? ⟨X, 1, none⟩ = some (.int .i64 0) := HR2.out.r 1 (by decide)
    have zf1 := HR2.out.rf 1
    have z2 : w2.cell? ⟨X, 2, none⟩ = some (.int .i64 0) := HR2.out.r 2 (by decide)
    have zf2 := HR2.out.rf 2
    have z3 : w2.cell? ⟨X, 3, none⟩ = some (.int .i64 0) := HR2.out.r 3 (by decide)
    have zf3 := HR2.out.rf 3
    have z4 : w2.cell? ⟨X, 4, none⟩ = some (.int .u64 0) := HR2.out.r 4 (by decide)
    have zf4 := HR2.out.rf 4
    have z5 : w2.cell? ⟨X, 5, none⟩ = some (.int .u64 0) := HR2.out.r 5 (by decide)
    have zf5 := HR2.out.rf 5
    have z6 : w2.cell? ⟨X, 6, none⟩ = some (.int .u64 0) := HR2.out.r 6 (by decide)
    have zf6 := HR2.out.rf 6
    have z7 : w2.cell? ⟨X, 7, none⟩ = some (.int .i64 0) := HR2.out.r 7 (by decide)
    have zf7 := HR2.out.rf 7
    have z8 : w2.cell? ⟨X, 8, none⟩ = some (.int .i64 0) := HR2.out.r 8 (by decide)
    have zf8 := HR2.out.rf 8
    go_wp2
    have ho := put9_only w2 X (.int .i64 0) (.int .i64 0) (.int .i64 0) (.int .i64 0) (.int .u64 0) (.int .u64 0) (.int .u64 0) (.int .i64 0) (.int .i64 0)
    have hy := put9_at (w := w2) (X := X) (.int .i64 0) (.int .i64 0) (.int .i64 0) (.int .i64 0) (.int .u64 0) (.int .u64 0) (.int .u64 0) (.int .i64 0) (.int .i64 0) (fun i hi => HR2.out.some i hi)
    have y0 : (put9 w2 X (.int .i64 0) (.int .i64 0) (.int .i64 0) (.int .i64 0) (.int .u64 0) (.int .u64 0) (.int .u64 0) (.int .i64 0) (.int .i64 0)).cell? ⟨X, 0, none⟩ = some (.int .i64 0) := hy 0 (by decide)
    have y1 : (put9 w2 X (.int .i64 0) (.int .i64 0) (.int .i64 0) (.int .i64 0) (.int .u64 0) (.int .u64 0) (.int .u64 0) (.int .i64 0) (.int .i64 0)).cell? ⟨X, 1, none⟩ = some (.int .i64 0) := hy 1 (by decide)
    have y2 : (put9 w2 X (.int .i64 0) (.int .i64 0) (.int .i64 0) (.int .i64 0) (.int .u64 0) (.int .u64 0) (.int .u64 0) (.int .i64 0) (.int .i64 0)).cell? ⟨X, 2, none⟩ = some (.int .i64 0) := hy 2 (by decide)
    have y3 : (put9 w2 X (.int .i64 0) (.int .i64 0) (.int .i64 0) (.int .i64 0) (.int .u64 0) (.int .u64 0) (.int .u64 0) (.int .i64 0) (.int .i64 0)).cell? ⟨X, 3, none⟩ = some (.int .i64 0) := hy 3 (by decide)
    have y4 : (put9 w2 X (.int .i64 0) (.int .i64 0) (.int .i64 0) (.int .i64 0) (.int .u64 0) (.int .u64 0) (.int .u64 0) (.int .i64 0) (.int .i64 0)).cell? ⟨X, 4, none⟩ = some (.int .u64 0) := hy 4 (by decide)
    have y5 : (put9 w2 X (.int .i64 0) (.int .i64 0) (.int .i64 0) (.int .i64 0) (.int .u64 0) (.int .u64 0) (.int .u64 0) (.int .i64 0) (.int .i64 0)).cell? ⟨X, 5, none⟩ = some (.int .u64 0) := hy 5 (by decide)
    have y6 : (put9 w2 X (.int .i64 0) (.int .i64 0) (.int .i64 0) (.int .i64 0) (.int .u64 0) (.int .u64 0) (.int .u64 0) (.int .i64 0) (.int .i64 0)).cell? ⟨X, 6, none⟩ = some (.int .u64 0) := hy 6 (by decide)
    have y7 : (put9 w2 X (.int .i64 0) (.int .i64 0) (.int .i64 0) (.int .i64 0) (.int .u64 0) (.int .u64 0) (.int .u64 0) (.int .i64 0) (.int .i64 0)).cell? ⟨X, 7, none⟩ = some (.int .i64 0) := hy 7 (by decide)
    have y8 : (put9 w2 X (.int .i64 0) (.int .i64 0) (.int .i64 0) (.int .i64 0) (.int .u64 0) (.int .u64 0) (.int .u64 0) (.int .i64 0) (.int .i64 0)).cell? ⟨X, 8, none⟩ = some (.int .i64 0) := hy 8 (by decide)
    change bodyPost _ _ _ _ _ (put9 w2 X (.int .i64 0) (.int .i64 0) (.int .i64 0) (.int .i64 0) (.int .u64 0) (.int .u64 0) (.int .u64 0) (.int .i64 0) (.int .i64 0))
    clear hy
    generalize put9 w2 X (.int .i64 0) (.int .i64 0) (.int .i64 0) (.int .i64 0) (.int .u64 0) (.int .u64 0) (.int .u64 0) (.int .i64 0) (.int .i64 0) = wF at *
    exact bodyPost_ret (v := .tuple #[.agg #[.int .i64 0, .int .i64 0, .int .i64 0, .int .i64 0, .int .u64 0, .int .u64 0, .int .u64 0, .int .i64 0, .int .i64 0], .bool false]) (by simp [results, Tryd.results32, go_sem, y0, y1, y2, y3, y4, y5, y6, y7, y8]) rfl ⟨rfl, Only.on HR2.out.g ho HR2.out.xw⟩
  | true =>
    have hRf := HV.out
    simp only [if_true] at hRf
    subst hRf
    have z0 : w2.cell? ⟨X, 0, none⟩ = some (.int .i64 0) := HR2.out.r 0 (by decide)
    have zf0 := HR2.out.rf 0
    have z1 : w2.cell? ⟨X, 1, none⟩ = some (.int .i64 0) := HR2.out.r 1 (by decide)
    have zf1 := HR2.out.rf 1
    have z2 : w2.cell? ⟨X, 2, none⟩ = some (.int .i64 0) := HR2.out.r 2 (by decide)
    have zf2 := HR2.out.rf 2
    have z3 : w2.cell? ⟨X, 3, none⟩ = some (.int .i64 0) := HR2.out.r 3 (by decide)
    have zf3 := HR2.out.rf 3
    have z4 : w2.cell? ⟨X, 4, none⟩ = some (.int .u64 0) := HR2.out.r 4 (by decide)
    have zf4 := HR2.out.rf 4
    have z5 : w2.cell? ⟨X, 5, none⟩ = some (.int .u64 0) := HR2.out.r 5 (by decide)
    have zf5 := HR2.out.rf 5
    have z6 : w2.cell? ⟨X, 6, none⟩ = some (.int .u64 0) := HR2.out.r 6 (by decide)
    have zf6 := HR2.out.rf 6
    have z7 : w2.cell? ⟨X, 7, none⟩ = some (.int .i64 0) := HR2.out.r 7 (by decide)
    have zf7 := HR2.out.rf 7
    have z8 : w2.cell? ⟨X, 8, none⟩ = some (.int .i64 0) := HR2.out.r 8 (by decide)
    have zf8 := HR2.out.rf 8
    go_wp2
    have ho := put9_only w2 X (.int .i64 2) (.int .i64 (f1 : Int)) (.int .i64 0) (.int .i64 0) (.int .u64 0) (.int .u64 0) (.int .u64 0) (.int .i64 (f2 : Int)) (.int .i64 (f3 : Int))
    have hy := put9_at (w := w2) (X := X) (.int .i64 2) (.int .i64 (f1 : Int)) (.int .i64 0) (.int .i64 0) (.int .u64 0) (.int .u64 0) (.int .u64 0) (.int .i64 (f2 : Int)) (.int .i64 (f3 : Int)) (fun i hi => HR2.out.some i hi)
    have y0 : (put9 w2 X (.int .i64 2) (.int .i64 (f1 : Int)) (.int .i64 0) (.int .i64 0) (.int .u64 0) (.int .u64 0) (.int .u64 0) (.int .i64 (f2 : Int)) (.int .i64 (f3 : Int))).cell? ⟨X, 0, none⟩ = some (.int .i64 2) := hy 0 (by decide)
    have y1 : (put9 w2 X (.int .i64 2) (.int .i64 (f1 : Int)) (.int .i64 0) (.int .i64 0) (.int .u64 0) (.int .u64 0) (.int .u64 0) (.int .i64 (f2 : Int)) (.int .i64 (f3 : Int))).cell? ⟨X, 1, none⟩ = some (.int .i64 (f1 : Int)) := hy 1 (by decide)
    have y2 : (put9 w2 X (.int .i64 2) (.int .i64 (f1 : Int)) (.int .i64 0) (.int .i64 0) (.int .u64 0) (.int .u64 0) (.int .u64 0) (.int .i64 (f2 : Int)) (.int .i64 (f3 : Int))).cell? ⟨X, 2, none⟩ = some (.int .i64 0) := hy 2 (by decide)
    have y3 : (put9 w2 X (.int .i64 2) (.int .i64 (f1 : Int)) (.int .i64 0) (.int .i64 0) (.int .u64 0) (.int .u64 0) (.int .u64 0) (.int .i64 (f2 : Int)) (.int .i64 (f3 : Int))).cell? ⟨X, 3, none⟩ = some (.int .i64 0) := hy 3 (by decide)
    have y4 : (put9 w2 X (.int .i64 2) (.int .i64 (f1 : Int)) (.int .i64 0) (.int .i64 0) (.int .u64 0) (.int .u64 0) (.int .u64 0) (.int .i64 (f2 : Int)) (.int .i64 (f3 : Int))).cell? ⟨X, 4, none⟩ = some (.int .u64 0) := hy 4 (by decide)
    have y5 : (put9 w2 X (.int .i64 2) (.int .i64 (f1 : Int)) (.int .i64 0) (.int .i64 0) (.int .u64 0) (.int .u64 0) (.int .u64 0) (.int .i64 (f2 : Int)) (.int .i64 (f3 : Int))).cell? ⟨X, 5, none⟩ = some (.int .u64 0) := hy 5 (by decide)
    have y6 : (put9 w2 X (.int .i64 2) (.int .i64 (f1 : Int)) (.int .i64 0) (.int .i64 0) (.int .u64 0) (.int .u64 0) (.int .u64 0) (.int .i64 (f2 : Int)) (.int .i64 (f3 : Int))).cell? ⟨X, 6, none⟩ = some (.int .u64 0) := hy 6 (by decide)
    have y7 : (put9 w2 X (.int .i64 2) (.int .i64 (f1 : Int)) (.int .i64 0) (.int .i64 0) (.int .u64 0) (.int .u64 0) (.int .u64 0) (.int .i64 (f2 : Int)) (.int .i64 (f3 : Int))).cell? ⟨X, 7, none⟩ = some (.int .i64 (f2 : Int)) := hy 7 (by decide)
    have y8 : (put9 w2 X (.int .i64 2) (.int .i64 (f1 : Int)) (.int .i64 0) (.int .i64 0) (.int .u64 0) (.int .u64 0) (.int .u64 0) (.int .i64 (f2 : Int)) (.int .i64 (f3 : Int))).cell? ⟨X, 8, none⟩ = some (.int .i64 (f3 : Int)) := hy 8 (by decide)
    change bodyPost _ _ _ _ _ (put9 w2 X (.int .i64 2) (.int .i64 (f1 : Int)) (.int .i64 0) (.int .i64 0) (.int .u64 0) (.int .u64 0) (.int .u64 0) (.int .i64 (f2 : Int)) (.int .i64 (f3 : Int)))
    clear hy
    generalize put9 w2 X (.int .i64 2) (.int .i64 (f1 : Int)) (.int .i64 0) (.int .i64 0) (.int .u64 0) (.int .u64 0) (.int .u64 0) (.int .i64 (f2 : Int)) (.int .i64 (f3 : Int)) = wF at *
    exact bodyPost_ret (v := .tuple #[.agg #[.int .i64 2, .int .i64 (f1 : Int), .int .i64 0, .int .i64 0, .int .u64 0, .int .u64 0, .int .u64 0, .int .i64 (f2 : Int), .int .i64 (f3 : Int)], .bool true]) (by simp [results, Tryd.results32, go_sem, y0, y1, y2, y3, y4, y5, y6, y7, y8]) rfl ⟨rfl, Only.on HR2.out.g ho HR2.out.xw⟩

set_option maxHeartbeats 4000000 in
theorem rone_b {w : World} {v : Value} {F : List Nat} (H : ReadsB w v F) (hl : F.length = 27) (h0 : F.getD 0 0 = 1) (hcr : cr (F.drop 2) = none) :
    Calls Tryd.prog 32 #[v] w fun r w' => r = .returned (erV F) ∧ w.grownBy w' none := by
  obtain ⟨R, hR⟩ : ∃ R, R = erV F := ⟨_, rfl⟩
  rw [← hR]
  have hB : isB F := by obtain ⟨_, _, _, _, _, h, _⟩ := H; exact h
  obtain ⟨a0, cap, rfl, hx1, hx2, hx3, hx4⟩ := H
  obtain ⟨b, o, rfl, hb, hc⟩ := hx4 (by omega)
  have HH : Hid (ReadsB w (.slice (some ⟨b, o, none⟩) F.length cap) F) := Lib.hid ⟨_, cap, rfl, hx1, hx2, hx3, hx4⟩
  have hcap : F.length ≤ cap := hx1
  clear hx1 hx2 hx4 hc
  obtain ⟨f1, hf1⟩ : ∃ f1, f1 = F.getD 1 0 := ⟨_, rfl⟩
  have hraw : rawE F = zE := by unfold rawE; rw [hcr, if_neg (by omega), if_neg (by omega)]; exact if_neg (fun h => absurd h.2.2 (by simp))
  rw [erV_raw hraw] at hR
  have hsm : smC (zE : En).call := ⟨by show (0 : Nat) < 18446744073709551616; decide, by show (0 : Nat) < 18446744073709551616; decide, by show (0 : Nat) < 18446744073709551616; decide⟩
  have CR0 := Lib.hid (fun (wz : World) => rrightE (w := wz) zE hsm)
  obtain ⟨q, hq⟩ : ∃ q, q = okE zE := ⟨_, rfl⟩
  rw [← hq] at hR CR0
  have HV := Lib.hid hR
  unfold En.val zE at HV CR0
  try unfold zC at HV CR0
  simp only at HV CR0
  clear hR hraw hsm hq
  have hcv : crV (F.drop 2) = .tuple #[.agg #[.int .i64 0, .int .u64 0, .int .u64 0, .int .u64 0], .bool false] := by rw [crV, hcr]; rfl
  have RR : Hid (∀ (wz : World) (k2 : Nat), w.grownBy wz none → k2 = cap - 2 → Calls Tryd.prog 26 #[.slice (some ⟨b, o + 2, none⟩) 25 k2] wz fun e w' => e = .returned (.tuple #[.agg #[.int .i64 0, .int .u64 0, .int .u64 0, .int .u64 0], .bool false]) ∧ wz.grownBy w' none) := Lib.hid (fun wz k2 hg hk2 => by
    rw [← hcv]
    exact rread ((HH.out.grown hg).drop 2 _ _ (by omega) (by omega) (by omega)))
  have k1 := World.grownBy_alloc w (.cells #[.int .i64 0, .int .i64 0, .int .i64 0, .int .i64 0, .int .u64 0, .int .u64 0, .int .u64 0, .int .i64 0, .int .i64 0] 55) none
  have k2 := World.grownBy_alloc (w.alloc (.cells #[.int .i64 0, .int .i64 0, .int .i64 0, .int .i64 0, .int .u64 0, .int .u64 0, .int .u64 0, .int .i64 0, .int .i64 0] 55)) (.cells #[.int .i64 0, .int .i64 0, .int .i64 0, .int .i64 0, .int .u64 0, .int .u64 0, .int .u64 0, .int .i64 0, .int .i64 0] 55) none
  have hsz : (w.alloc (.cells #[.int .i64 0, .int .i64 0, .int .i64 0, .int .i64 0, .int .u64 0, .int .u64 0, .int .u64 0, .int .i64 0, .int .i64 0] 55)).heap.size = w.heap.size + 1 := by simp
  have HR0 := Lib.hid ((rese_new (World.grownBy.refl w none)).kept k2)
  have HY0 := rese_new (w := w) k1
  rw [hsz] at HY0
  have HY0 := Lib.hid HY0
  have kz := Lib.hid (k1.trans k2)
  clear k1 k2 hsz
  have c0 := ((HH.out.grown kz.out).get 0 (by omega)).1
  have c1 := ((HH.out.grown kz.out).get 1 (by omega)).1
  have b1 := ((HH.out.grown kz.out).get 1 (by omega)).2.1
  rw [← hf1] at c1 b1
  have hw1 : IntKind.i64.wrap ((f1 : Nat) : Int) = ((f1 : Nat) : Int) := by rw [IntKind.wrap_i64]; omega
  rw [Nat.add_zero, h0] at c0
  rw [hl]
  have hneb : b ≠ w.heap.size := by omega
  have hneb1 : b ≠ w.heap.size + 1 := by omega
  have hsb0 : b < ((w.alloc (.cells #[.int .i64 0, .int .i64 0, .int .i64 0, .int .i64 0, .int .u64 0, .int .u64 0, .int .u64 0, .int .i64 0, .int .i64 0] 55)).alloc (.cells #[.int .i64 0, .int .i64 0, .int .i64 0, .int .i64 0, .int .u64 0, .int .u64 0, .int .u64 0, .int .i64 0, .int .i64 0] 55)).heap.size := by have := kz.out.size; omega
  have hc2 : ¬ cap = 2 := by omega
  have hc3 : 2 ≤ cap := by omega
  clear h0 hcap hl HH hb hf1 hcr hcv hB
  go_enter Tryd.func32, Tryd.ntmps32
  go_wp2_with fail
  have HR := HR0
  have HY := HY0
  have hXY : w.heap.size ≠ w.heap.size + 1 := by omega
  have hXle : w.heap.size ≤ w.heap.size + 1 := by omega
  have d0 : ((w.alloc (.cells #[.int .i64 0, .int .i64 0, .int .i64 0, .int .i64 0, .int .u64 0, .int .u64 0, .int .u64 0, .int .i64 0, .int .i64 0] 55)).alloc (.cells #[.int .i64 0, .int .i64 0, .int .i64 0, .int .i64 0, .int .u64 0, .int .u64 0, .int .u64 0, .int .i64 0, .int .i64 0] 55)).cell? ⟨b, o + 1, none⟩ = some (.int .u8 (f1 : Int)) := c1
  have hsb : b < ((w.alloc (.cells #[.int .i64 0, .int .i64 0, .int .i64 0, .int .i64 0, .int .u64 0, .int .u64 0, .int .u64 0, .int .i64 0, .int .i64 0] 55)).alloc (.cells #[.int .i64 0, .int .i64 0, .int .i64 0, .int .i64 0, .int .u64 0, .int .u64 0, .int .u64 0, .int .i64 0, .int .i64 0] 55)).heap.size := hsb0
  clear hsb0 kz c0 c1
  clear HR0 HY0
  generalize ((w.alloc (.cells #[.int .i64 0, .int .i64 0, .int .i64 0, .int .i64 0, .int .u64 0, .int .u64 0, .int .u64 0, .int .i64 0, .int .i64 0] 55)).alloc (.cells #[.int .i64 0, .int .i64 0, .int .i64 0, .int .i64 0, .int .u64 0, .int .u64 0, .int .u64 0, .int .i64 0, .int .i64 0] 55)) = wr at *
  generalize w.heap.size + 1 = Y at *
  generalize hXX : w.heap.size = X at *
  clear hXX
  refine (RR.out _ _ HR.out.g (by omega)).mono ?_
  rintro e w3 ⟨rfl, g⟩
  have HR2 := Lib.hid (HR.out.kept g)
  have HY2 := Lib.hid (HY.out.kept g)
  have kb := World.grownBy_alloc w3 (.cells #[.int .i64 0, .int .u64 0, .int .u64 0, .int .u64 0] 24) none
  have d2 : (w3.alloc (.cells #[.int .i64 0, .int .u64 0, .int .u64 0, .int .u64 0] 24)).cell? ⟨b, o + 1, none⟩ = some (.int .u8 (f1 : Int)) := ((g.trans kb).cell_far ⟨b, o + 1, none⟩ hsb (by simp)).trans d0
  have hsb2 : b < (w3.alloc (.cells #[.int .i64 0, .int .u64 0, .int .u64 0, .int .u64 0] 24)).heap.size := Nat.lt_of_lt_of_le (Nat.lt_of_lt_of_le hsb g.size) kb.size
  have x0 : (w3.alloc (.cells #[.int .i64 0, .int .u64 0, .int .u64 0, .int .u64 0] 24)).cell? ⟨w3.heap.size, 0, none⟩ = some (.int .i64 0) := World.cell?_alloc_new ..
  have x1 : (w3.alloc (.cells #[.int .i64 0, .int .u64 0, .int .u64 0, .int .u64 0] 24)).cell? ⟨w3.heap.size, 1, none⟩ = some (.int .u64 0) := World.cell?_alloc_new ..
  have x2 : (w3.alloc (.cells #[.int .i64 0, .int .u64 0, .int .u64 0, .int .u64 0] 24)).cell? ⟨w3.heap.size, 2, none⟩ = some (.int .u64 0) := World.cell?_alloc_new ..
  have x3 : (w3.alloc (.cells #[.int .i64 0, .int .u64 0, .int .u64 0, .int .u64 0] 24)).cell? ⟨w3.heap.size, 3, none⟩ = some (.int .u64 0) := World.cell?_alloc_new ..
  have hsZ : w3.heap.size < (w3.alloc (.cells #[.int .i64 0, .int .u64 0, .int .u64 0, .int .u64 0] 24)).heap.size := by simp
  have hneE : w3.heap.size ≠ X := by have := HR2.out.sz; omega
  have hneY : w3.heap.size ≠ Y := by have := HY2.out.sz; omega
  clear HR HY d0 hsb g
  have HR := Lib.hid (HR2.out.kept kb)
  have HY := Lib.hid (HY2.out.kept kb)
  clear HR2 HY2 kb RR
  clear x0 x1 x2 x3 d2 hsb2
  have e0 : (w3.alloc (.cells #[.int .i64 0, .int .u64 0, .int .u64 0, .int .u64 0] 24)).cell? ⟨Y, 0, none⟩ = some (.int .i64 0) := HY.out.r 0 (by decide)
  have e1 : (w3.alloc (.cells #[.int .i64 0, .int .u64 0, .int .u64 0, .int .u64 0] 24)).cell? ⟨Y, 1, none⟩ = some (.int .i64 0) := HY.out.r 1 (by decide)
  have e2 : (w3.alloc (.cells #[.int .i64 0, .int .u64 0, .int .u64 0, .int .u64 0] 24)).cell? ⟨Y, 2, none⟩ = some (.int .i64 0) := HY.out.r 2 (by decide)
  have e3 : (w3.alloc (.cells #[.int .i64 0, .int .u64 0, .int .u64 0, .int .u64 0] 24)).cell? ⟨Y, 3, none⟩ = some (.int .i64 0) := HY.out.r 3 (by decide)
  have e4 : (w3.alloc (.cells #[.int .i64 0, .int .u64 0, .int .u64 0, .int .u64 0] 24)).cell? ⟨Y, 4, none⟩ = some (.int .u64 0) := HY.out.r 4 (by decide)
  have e5 : (w3.alloc (.cells #[.int .i64 0, .int .u64 0, .int .u64 0, .int .u64 0] 24)).cell? ⟨Y, 5, none⟩ = some (.int .u64 0) := HY.out.r 5 (by decide)
  have e6 : (w3.alloc (.cells #[.int .i64 0, .int .u64 0, .int .u64 0, .int .u64 0] 24)).cell? ⟨Y, 6, none⟩ = some (.int .u64 0) := HY.out.r 6 (by decide)
  have e7 : (w3.alloc (.cells #[.int .i64 0, .int .u64 0, .int .u64 0, .int .u64 0] 24)).cell? ⟨Y, 7, none⟩ = some (.int .i64 0) := HY.out.r 7 (by decide)
  have e8 : (w3.alloc (.cells #[.int .i64 0, .int .u64 0, .int .u64 0, .int .u64 0] 24)).cell? ⟨Y, 8, none⟩ = some (.int .i64 0) := HY.out.r 8 (by decide)
  have hsE := HY.out.sz
  go_wp2_with fail
  generalize w3.alloc (.cells #[.int .i64 0, .int .u64 0, .int .u64 0, .int .u64 0] 24) = wr at *
  generalize w3.heap.size = Z at *
  clear HY
  have CR := Lib.hid (CR0.out wr)
  clear CR0
  refine CR.out.mono ?_
  rintro e w2 ⟨rfl, g2⟩
  have HR2 := Lib.hid (HR.out.kept g2)
  have e0 := (g2.cell_far ⟨Y, 0, none⟩ hsE (by simp)).trans e0
  have e1 := (g2.cell_far ⟨Y, 1, none⟩ hsE (by simp)).trans e1
  have e2 := (g2.cell_far ⟨Y, 2, none⟩ hsE (by simp)).trans e2
  have e3 := (g2.cell_far ⟨Y, 3, none⟩ hsE (by simp)).trans e3
  have e4 := (g2.cell_far ⟨Y, 4, none⟩ hsE (by simp)).trans e4
  have e5 := (g2.cell_far ⟨Y, 5, none⟩ hsE (by simp)).trans e5
  have e6 := (g2.cell_far ⟨Y, 6, none⟩ hsE (by simp)).trans e6
  have e7 := (g2.cell_far ⟨Y, 7, none⟩ hsE (by simp)).trans e7
  have e8 := (g2.cell_far ⟨Y, 8, none⟩ hsE (by simp)).trans e8
  clear g2 CR
  cases q with
  | false =>
    have hRf := HV.out
    simp only [if_neg (show ¬ (false = true) by decide)] at hRf
    try unfold zE at hRf
    try unfold zC at hRf
    try simp only at hRf
    subst hRf
    have z0 : w2.cell? ⟨X, 0, none⟩ = some (.int .i64 0) := HR2.out.r 0 (by decide)
    have zf0 := HR2.out.rf 0
    have z1 : w2.cell? ⟨X, 1, none⟩ = some (.int .i64 0) := HR2.out.r 1 (by decide)
    have zf1 := HR2.out.rf 1
    have z2 : w2.cell? ⟨X, 2, none⟩ = some (.int .i64 0) := HR2.out.r 2 (by decide)
    have zf2 := HR2.out.rf 2
    have z3 : w2.cell? ⟨X, 3, none⟩ = some (.int .i64 0) := HR2.out.r 3 (by decide)
    have zf3 := HR2.out.rf 3
    have z4 : w2.cell? ⟨X, 4, none⟩ = some (.int .u64 0) := HR2.out.r 4 (by decide)
    have zf4 := HR2.out.rf 4
    have z5 : w2.cell? ⟨X, 5, none⟩ = some (.int .u64 0) := HR2.out.r 5 (by decide)
    have zf5 := HR2.out.rf 5
    have z6 : w2.cell? ⟨X, 6, none⟩ = some (.int .u64 0) := HR2.out.r 6 (by decide)
    have zf6 := HR2.out.rf 6
    have z7 : w2.cell? ⟨X, 7, none⟩ = some (.int .i64 0) := HR2.out.r 7 (by decide)
    have zf7 := HR2.out.rf 7
    have z8 : w2.cell? ⟨X, 8, none⟩ = some (.int .i64 0) := HR2.out.r 8 (by decide)
    have zf8 := HR2.out.rf 8
    go_wp2
    have ho := put9_only w2 X (.int .i64 0) (.int .i64 0) (.int .i64 0) (.int .i64 0) (.int .u64 0) (.int .u64 0) (.int .u64 0) (.int .i64 0) (.int .i64 0)
    have hy := put9_at (w := w2) (X := X) (.int .i64 0) (.int .i64 0) (.int .i64 0) (.int .i64 0) (.int .u64 0) (.int .u64 0) (.int .u64 0) (.int .i64 0) (.int .i64 0) (fun i hi => HR2.out.some i hi)
    have y0 : (put9 w2 X (.int .i64 0) (.int .i64 0) (.int .i64 0) (.int .i64 0) (.int .u64 0) (.int .u64 0) (.int .u64 0) (.int .i64 0) (.int .i64 0)).cell? ⟨X, 0, none⟩ = some (.int .i64 0) := hy 0 (by decide)
    have y1 : (put9 w2 X (.int .i64 0) (.int .i64 0) (.int .i64 0) (.int .i64 0) (.int .u64 0) (.int .u64 0) (.int .u64 0) (.int .i64 0) (.int .i64 0)).cell? ⟨X, 1, none⟩ = some (.int .i64 0) := hy 1 (by decide)
    have y2 : (put9 w2 X (.int .i64 0) (.int .i64 0) (.int .i64 0) (.int .i64 0) (.int .u64 0) (.int .u64 0) (.int .u64 0) (.int .i64 0) (.int .i64 0)).cell? ⟨X, 2, none⟩ = some (.int .i64 0) := hy 2 (by decide)
    have y3 : (put9 w2 X (.int .i64 0) (.int .i64 0) (.int .i64 0) (.int .i64 0) (.int .u64 0) (.int .u64 0) (.int .u64 0) (.int .i64 0) (.int .i64 0)).cell? ⟨X, 3, none⟩ = some (.int .i64 0) := hy 3 (by decide)
    have y4 : (put9 w2 X (.int .i64 0) (.int .i64 0) (.int .i64 0) (.int .i64 0) (.int .u64 0) (.int .u64 0) (.int .u64 0) (.int .i64 0) (.int .i64 0)).cell? ⟨X, 4, none⟩ = some (.int .u64 0) := hy 4 (by decide)
    have y5 : (put9 w2 X (.int .i64 0) (.int .i64 0) (.int .i64 0) (.int .i64 0) (.int .u64 0) (.int .u64 0) (.int .u64 0) (.int .i64 0) (.int .i64 0)).cell? ⟨X, 5, none⟩ = some (.int .u64 0) := hy 5 (by decide)
    have y6 : (put9 w2 X (.int .i64 0) (.int .i64 0) (.int .i64 0) (.int .i64 0) (.int .u64 0) (.int .u64 0) (.int .u64 0) (.int .i64 0) (.int .i64 0)).cell? ⟨X, 6, none⟩ = some (.int .u64 0) := hy 6 (by decide)
    have y7 : (put9 w2 X (.int .i64 0) (.int .i64 0) (.int .i64 0) (.int .i64 0) (.int .u64 0) (.int .u64 0) (.int .u64 0) (.int .i64 0) (.int .i64 0)).cell? ⟨X, 7, none⟩ = some (.int .i64 0) := hy 7 (by decide)
    have y8 : (put9 w2 X (.int .i64 0) (.int .i64 0) (.int .i64 0) (.int .i64 0) (.int .u64 0) (.int .u64 0) (.int .u64 0) (.int .i64 0) (.int .i64 0)).cell? ⟨X, 8, none⟩ = some (.int .i64 0) := hy 8 (by decide)
    change bodyPost _ _ _ _ _ (put9 w2 X (.int .i64 0) (.int .i64 0) (.int .i64 0) (.int .i64 0) (.int .u64 0) (.int .u64 0) (.int .u64 0) (.int .i64 0) (.int .i64 0))
    clear hy
    generalize put9 w2 X (.int .i64 0) (.int .i64 0) (.int .i64 0) (.int .i64 0) (.int .u64 0) (.int .u64 0) (.int .u64 0) (.int .i64 0) (.int .i64 0) = wF at *
    exact bodyPost_ret (v := .tuple #[.agg #[.int .i64 0, .int .i64 0, .int .i64 0, .int .i64 0, .int .u64 0, .int .u64 0, .int .u64 0, .int .i64 0, .int .i64 0], .bool false]) (by simp [results, Tryd.results32, go_sem, y0, y1, y2, y3, y4, y5, y6, y7, y8]) rfl ⟨rfl, Only.on HR2.out.g ho HR2.out.xw⟩
  | true =>
    have hRf := HV.out
    simp only [if_true] at hRf
    subst hRf
    have z0 : w2.cell? ⟨X, 0, none⟩ = some (.int .i64 0) := HR2.out.r 0 (by decide)
    have zf0 := HR2.out.rf 0
    have z1 : w2.cell? ⟨X, 1, none⟩ = some (.int .i64 0) := HR2.out.r 1 (by decide)
    have zf1 := HR2.out.rf 1
    have z2 : w2.cell? ⟨X, 2, none⟩ = some (.int .i64 0) := HR2.out.r 2 (by decide)
    have zf2 := HR2.out.rf 2
    have z3 : w2.cell? ⟨X, 3, none⟩ = some (.int .i64 0) := HR2.out.r 3 (by decide)
    have zf3 := HR2.out.rf 3
    have z4 : w2.cell? ⟨X, 4, none⟩ = some (.int .u64 0) := HR2.out.r 4 (by decide)
    have zf4 := HR2.out.rf 4
    have z5 : w2.cell? ⟨X, 5, none⟩ = some (.int .u64 0) := HR2.out.r 5 (by decide)
    have zf5 := HR2.out.rf 5
    have z6 : w2.cell? ⟨X, 6, none⟩ = some (.int .u64 0) := HR2.out.r 6 (by decide)
    have zf6 := HR2.out.rf 6
    have z7 : w2.cell? ⟨X, 7, none⟩ = some (.int .i64 0) := HR2.out.r 7 (by decide)
    have zf7 := HR2.out.rf 7
    have z8 : w2.cell? ⟨X, 8, none⟩ = some (.int .i64 0) := HR2.out.r 8 (by decide)
    have zf8 := HR2.out.rf 8
    go_wp2
    have ho := put9_only w2 X (.int .i64 0) (.int .i64 0) (.int .i64 0) (.int .i64 0) (.int .u64 0) (.int .u64 0) (.int .u64 0) (.int .i64 0) (.int .i64 0)
    have hy := put9_at (w := w2) (X := X) (.int .i64 0) (.int .i64 0) (.int .i64 0) (.int .i64 0) (.int .u64 0) (.int .u64 0) (.int .u64 0) (.int .i64 0) (.int .i64 0) (fun i hi => HR2.out.some i hi)
    have y0 : (put9 w2 X (.int .i64 0) (.int .i64 0) (.int .i64 0) (.int .i64 0) (.int .u64 0) (.int .u64 0) (.int .u64 0) (.int .i64 0) (.int .i64 0)).cell? ⟨X, 0, none⟩ = some (.int .i64 0) := hy 0 (by decide)
    have y1 : (put9 w2 X (.int .i64 0) (.int .i64 0) (.int .i64 0) (.int .i64 0) (.int .u64 0) (.int .u64 0) (.int .u64 0) (.int .i64 0) (.int .i64 0)).cell? ⟨X, 1, none⟩ = some (.int .i64 0) := hy 1 (by decide)
    have y2 : (put9 w2 X (.int .i64 0) (.int .i64 0) (.int .i64 0) (.int .i64 0) (.int .u64 0) (.int .u64 0) (.int .u64 0) (.int .i64 0) (.int .i64 0)).cell? ⟨X, 2, none⟩ = some (.int .i64 0) := hy 2 (by decide)
    have y3 : (put9 w2 X (.int .i64 0) (.int .i64 0) (.int .i64 0) (.int .i64 0) (.int .u64 0) (.int .u64 0) (.int .u64 0) (.int .i64 0) (.int .i64 0)).cell? ⟨X, 3, none⟩ = some (.int .i64 0) := hy 3 (by decide)
    have y4 : (put9 w2 X (.int .i64 0) (.int .i64 0) (.int .i64 0) (.int .i64 0) (.int .u64 0) (.int .u64 0) (.int .u64 0) (.int .i64 0) (.int .i64 0)).cell? ⟨X, 4, none⟩ = some (.int .u64 0) := hy 4 (by decide)
    have y5 : (put9 w2 X (.int .i64 0) (.int .i64 0) (.int .i64 0) (.int .i64 0) (.int .u64 0) (.int .u64 0) (.int .u64 0) (.int .i64 0) (.int .i64 0)).cell? ⟨X, 5, none⟩ = some (.int .u64 0) := hy 5 (by decide)
    have y6 : (put9 w2 X (.int .i64 0) (.int .i64 0) (.int .i64 0) (.int .i64 0) (.int .u64 0) (.int .u64 0) (.int .u64 0) (.int .i64 0) (.int .i64 0)).cell? ⟨X, 6, none⟩ = some (.int .u64 0) := hy 6 (by decide)
    have y7 : (put9 w2 X (.int .i64 0) (.int .i64 0) (.int .i64 0) (.int .i64 0) (.int .u64 0) (.int .u64 0) (.int .u64 0) (.int .i64 0) (.int .i64 0)).cell? ⟨X, 7, none⟩ = some (.int .i64 0) := hy 7 (by decide)
    have y8 : (put9 w2 X (.int .i64 0) (.int .i64 0) (.int .i64 0) (.int .i64 0) (.int .u64 0) (.int .u64 0) (.int .u64 0) (.int .i64 0) (.int .i64 0)).cell? ⟨X, 8, none⟩ = some (.int .i64 0) := hy 8 (by decide)
    change bodyPost _ _ _ _ _ (put9 w2 X (.int .i64 0) (.int .i64 0) (.int .i64 0) (.int .i64 0) (.int .u64 0) (.int .u64 0) (.int .u64 0) (.int .i64 0) (.int .i64 0))
    clear hy
    generalize put9 w2 X (.int .i64 0) (.int .i64 0) (.int .i64 0) (.int .i64 0) (.int .u64 0) (.int .u64 0) (.int .u64 0) (.int .i64 0) (.int .i64 0) = wF at *
    exact bodyPost_ret (v := .tuple #[.agg #[.int .i64 0, .int .i64 0, .int .i64 0, .int .i64 0, .int .u64 0, .int .u64 0, .int .u64 0, .int .i64 0, .int .i64 0], .bool true]) (by simp [results, Tryd.results32, go_sem, y0, y1, y2, y3, y4, y5, y6, y7, y8]) rfl ⟨rfl, Only.on HR2.out.g ho HR2.out.xw⟩

set_option maxHeartbeats 4000000 in
theorem rone_a {w : World} {v : Value} {F : List Nat} (H : ReadsB w v F) (hl : F.length = 27) (h0 : F.getD 0 0 = 1) (op : Int) (ca cb cc : Nat) (hcr : cr (F.drop 2) = some ⟨op, ca, cb, cc⟩) :
    Calls Tryd.prog 32 #[v] w fun r w' => r = .returned (erV F) ∧ w.grownBy w' none := by
  obtain ⟨R, hR⟩ : ∃ R, R = erV F := ⟨_, rfl⟩
  rw [← hR]
  have hB : isB F := by obtain ⟨_, _, _, _, _, h, _⟩ := H; exact h
  obtain ⟨a0, cap, rfl, hx1, hx2, hx3, hx4⟩ := H
  obtain ⟨b, o, rfl, hb, hc⟩ := hx4 (by omega)
  have HH : Hid (ReadsB w (.slice (some ⟨b, o, none⟩) F.length cap) F) := Lib.hid ⟨_, cap, rfl, hx1, hx2, hx3, hx4⟩
  have hcap : F.length ≤ cap := hx1
  clear hx1 hx2 hx4 hc
  obtain ⟨f1, hf1⟩ : ∃ f1, f1 = F.getD 1 0 := ⟨_, rfl⟩
  have hraw : rawE F = (En.mk 1 (f1 : Int) 0 ⟨op, ca, cb, cc⟩ 0 0) := by unfold rawE; rw [hcr, hf1, if_neg (by omega), if_neg (by omega)]; exact if_pos ⟨hl, h0, rfl⟩
  rw [erV_raw hraw] at hR
  have hsm : smC ((En.mk 1 (f1 : Int) 0 ⟨op, ca, cb, cc⟩ 0 0) : En).call := (cb_cr (isB_drop hB 2) hcr).2.2
  have CR0 := Lib.hid (fun (wz : World) => rrightE (w := wz) (En.mk 1 (f1 : Int) 0 ⟨op, ca, cb, cc⟩ 0 0) hsm)
  obtain ⟨q, hq⟩ : ∃ q, q = okE (En.mk 1 (f1 : Int) 0 ⟨op, ca, cb, cc⟩ 0 0) := ⟨_, rfl⟩
  rw [← hq] at hR CR0
  have HV := Lib.hid hR
  unfold En.val at HV CR0
  try unfold zC at HV CR0
  simp only at HV CR0
  clear hR hraw hsm hq
  have hcv : crV (F.drop 2) = .tuple #[.agg #[.int .i64 op, .int .u64 (ca : Nat), .int .u64 (cb : Nat), .int .u64 (cc : Nat)], .bool true] := by rw [crV, hcr]; rfl
  have RR : Hid (∀ (wz : World) (k2 : Nat), w.grownBy wz none → k2 = cap - 2 → Calls Tryd.prog 26 #[.slice (some ⟨b, o + 2, none⟩) 25 k2] wz fun e w' => e = .returned (.tuple #[.agg #[.int .i64 op, .int .u64 (ca : Nat), .int .u64 (cb : Nat), .int .u64 (cc : Nat)], .bool true]) ∧ wz.grownBy w' none) := Lib.hid (fun wz k2 hg hk2 => by
    rw [← hcv]
    exact rread ((HH.out.grown hg).drop 2 _ _ (by omega) (by omega) (by omega)))
  have k1 := World.grownBy_alloc w (.cells #[.int .i64 0, .int .i64 0, .int .i64 0, .int .i64 0, .int .u64 0, .int .u64 0, .int .u64 0, .int .i64 0, .int .i64 0] 55) none
  have k2 := World.grownBy_alloc (w.alloc (.cells #[.int .i64 0, .int .i64 0, .int .i64 0, .int .i64 0, .int .u64 0, .int .u64 0, .int .u64 0, .int .i64 0, .int .i64 0] 55)) (.cells #[.int .i64 0, .int .i64 0, .int .i64 0, .int .i64 0, .int .u64 0, .int .u64 0, .int .u64 0, .int .i64 0, .int .i64 0] 55) none
  have hsz : (w.alloc (.cells #[.int .i64 0, .int .i64 0, .int .i64 0, .int .i64 0, .int .u64 0, .int .u64 0, .int .u64 0, .int .i64 0, .int .i64 0] 55)).heap.size = w.heap.size + 1 := by simp
  have HR0 := Lib.hid ((rese_new (World.grownBy.refl w none)).kept k2)
  have HY0 := rese_new (w := w) k1
  rw [hsz] at HY0
  have HY0 := Lib.hid HY0
  have kz := Lib.hid (k1.trans k2)
  clear k1 k2 hsz
  have c0 := ((HH.out.grown kz.out).get 0 (by omega)).1
  have c1 := ((HH.out.grown kz.out).get 1 (by omega)).1
  have b1 := ((HH.out.grown kz.out).get 1 (by omega)).2.1
  rw [← hf1] at c1 b1
  have hw1 : IntKind.i64.wrap ((f1 : Nat) : Int) = ((f1 : Nat) : Int) := by rw [IntKind.wrap_i64]; omega
  rw [Nat.add_zero, h0] at c0
  rw [hl]
  have hneb : b ≠ w.heap.size := by omega
  have hneb1 : b ≠ w.heap.size + 1 := by omega
  have hsb0 : b < ((w.alloc (.cells #[.int .i64 0, .int .i64 0, .int .i64 0, .int .i64 0, .int .u64 0, .int .u64 0, .int .u64 0, .int .i64 0, .int .i64 0] 55)).alloc (.cells #[.int .i64 0, .int .i64 0, .int .i64 0, .int .i64 0, .int .u64 0, .int .u64 0, .int .u64 0, .int .i64 0, .int .i64 0] 55)).heap.size := by have := kz.out.size; omega
  have hc2 : ¬ cap = 2 := by omega
  have hc3 : 2 ≤ cap := by omega
  clear h0 hcap hl HH hb hf1 hcr hcv hB
  go_enter Tryd.func32, Tryd.ntmps32
  go_wp2_with fail
  have HR := HR0
  have HY := HY0
  have hXY : w.heap.size ≠ w.heap.size + 1 := by omega
  have hXle : w.heap.size ≤ w.heap.size + 1 := by omega
  have d0 : ((w.alloc (.cells #[.int .i64 0, .int .i64 0, .int .i64 0, .int .i64 0, .int .u64 0, .int .u64 0, .int .u64 0, .int .i64 0, .int .i64 0] 55)).alloc (.cells #[.int .i64 0, .int .i64 0, .int .i64 0, .int .i64 0, .int .u64 0, .int .u64 0, .int .u64 0, .int .i64 0, .int .i64 0] 55)).cell? ⟨b, o + 1, none⟩ = some (.int .u8 (f1 : Int)) := c1
  have hsb : b < ((w.alloc (.cells #[.int .i64 0, .int .i64 0, .int .i64 0, .int .i64 0, .int .u64 0, .int .u64 0, .int .u64 0, .int .i64 0, .int .i64 0] 55)).alloc (.cells #[.int .i64 0, .int .i64 0, .int .i64 0, .int .i64 0, .int .u64 0, .int .u64 0, .int .u64 0, .int .i64 0, .int .i64 0] 55)).heap.size := hsb0
  clear hsb0 kz c0 c1
  clear HR0 HY0
  generalize ((w.alloc (.cells #[.int .i64 0, .int .i64 0, .int .i64 0, .int .i64 0, .int .u64 0, .int .u64 0, .int .u64 0, .int .i64 0, .int .i64 0] 55)).alloc (.cells #[.int .i64 0, .int .i64 0, .int .i64 0, .int .i64 0, .int .u64 0, .int .u64 0, .int .u64 0, .int .i64 0, .int .i64 0] 55)) = wr at *
  generalize w.heap.size + 1 = Y at *
  generalize hXX : w.heap.size = X at *
  clear hXX
  refine (RR.out _ _ HR.out.g (by omega)).mono ?_
  rintro e w3 ⟨rfl, g⟩
  have HR2 := Lib.hid (HR.out.kept g)
  have HY2 := Lib.hid (HY.out.kept g)
  have kb := World.grownBy_alloc w3 (.cells #[.int .i64 op, .int .u64 (ca : Nat), .int .u64 (cb : Nat), .int .u64 (cc : Nat)] 24) none
  have d2 : (w3.alloc (.cells #[.int .i64 op, .int .u64 (ca : Nat), .int .u64 (cb : Nat), .int .u64 (cc : Nat)] 24)).cell? ⟨b, o + 1, none⟩ = some (.int .u8 (f1 : Int)) := ((g.trans kb).cell_far ⟨b, o + 1, none⟩ hsb (by simp)).trans d0
  have hsb2 : b < (w3.alloc (.cells #[.int .i64 op, .int .u64 (ca : Nat), .int .u64 (cb : Nat), .int .u64 (cc : Nat)] 24)).heap.size := Nat.lt_of_lt_of_le (Nat.lt_of_lt_of_le hsb g.size) kb.size
  have x0 : (w3.alloc (.cells #[.int .i64 op, .int .u64 (ca : Nat), .int .u64 (cb : Nat), .int .u64 (cc : Nat)] 24)).cell? ⟨w3.heap.size, 0, none⟩ = some (.int .i64 op) := World.cell?_alloc_new ..
  have x1 : (w3.alloc (.cells #[.int .i64 op, .int .u64 (ca : Nat), .int .u64 (cb : Nat), .int .u64 (cc : Nat)] 24)).cell? ⟨w3.heap.size, 1, none⟩ = some (.int .u64 (ca : Nat)) := World.cell?_alloc_new ..
  have x2 : (w3.alloc (.cells #[.int .i64 op, .int .u64 (ca : Nat), .int .u64 (cb : Nat), .int .u64 (cc : Nat)] 24)).cell? ⟨w3.heap.size, 2, none⟩ = some (.int .u64 (cb : Nat)) := World.cell?_alloc_new ..
  have x3 : (w3.alloc (.cells #[.int .i64 op, .int .u64 (ca : Nat), .int .u64 (cb : Nat), .int .u64 (cc : Nat)] 24)).cell? ⟨w3.heap.size, 3, none⟩ = some (.int .u64 (cc : Nat)) := World.cell?_alloc_new ..
  have hsZ : w3.heap.size < (w3.alloc (.cells #[.int .i64 op, .int .u64 (ca : Nat), .int .u64 (cb : Nat), .int .u64 (cc : Nat)] 24)).heap.size := by simp
  have hneE : w3.heap.size ≠ X := by have := HR2.out.sz; omega
  have hneY : w3.heap.size ≠ Y := by have := HY2.out.sz; omega
  clear HR HY d0 hsb g
  have HR := Lib.hid (HR2.out.kept kb)
  have HY := Lib.hid (HY2.out.kept kb)
  clear HR2 HY2 kb RR
  go_wp2_with fail
  generalize w3.alloc (.cells #[.int .i64 op, .int .u64 (ca : Nat), .int .u64 (cb : Nat), .int .u64 (cc : Nat)] 24) = wr at *
  generalize w3.heap.size = Z at *
  have d0 := d2
  have d1 := x0
  clear d2
  have d2 := x1
  have d3 := x2
  have d4 := x3
  have hsb := hsb2
  clear x0 x1 x2 x3 hsb2
  have d0' : wr.drew.cell? ⟨b, o + 1, none⟩ = some (.int .u8 (f1 : Int)) := d0
  have d1' : wr.drew.cell? ⟨Z, 0, none⟩ = some (.int .i64 op) := d1
  have d2' : wr.drew.cell? ⟨Z, 1, none⟩ = some (.int .u64 (ca : Nat)) := d2
  have d3' : wr.drew.cell? ⟨Z, 2, none⟩ = some (.int .u64 (cb : Nat)) := d3
  have d4' : wr.drew.cell? ⟨Z, 3, none⟩ = some (.int .u64 (cc : Nat)) := d4
  have kd : wr.grownBy wr.drew none := ⟨rfl, rfl, rfl, Nat.le_refl _, fun _ _ _ => rfl⟩
  have HR1 := Lib.hid (HR.out.kept kd)
  have HY1 := Lib.hid (HY.out.kept kd)
  have hsb1 : b < wr.drew.heap.size := hsb
  have hsZ1 : Z < wr.drew.heap.size := hsZ
  clear hsZ
  clear kd d0 d1 d2 d3 d4 hsb
  refine wp_region_held_drew (S := fun w' => w'.cell? ⟨b, o + 1, none⟩ = some (.int .u8 (f1 : Int)) ∧ w'.cell? ⟨Z, 0, none⟩ = some (.int .i64 op) ∧ w'.cell? ⟨Z, 1, none⟩ = some (.int .u64 (ca : Nat)) ∧ w'.cell? ⟨Z, 2, none⟩ = some (.int .u64 (cb : Nat)) ∧ w'.cell? ⟨Z, 3, none⟩ = some (.int .u64 (cc : Nat))) (by kernel_rfl) ⟨d0', d1', d2', d3', d4'⟩ (fun hHeld => ?_)
  generalize wr.drew = w1 at *
  refine wpAnyH_take (i := 0) (oi := ⟨_, _, _, _, _, _⟩) (v := ?_) rfl (by kernel_rfl) (by kernel_rfl) (by kernel_rfl) (fun _ _ _ h => h) (Or.inl ⟨by rfl, ?_⟩) (by assumption) ?_
  rotate_left
  · intro wz hSw
    try dsimp only at hSw
    go_simp
    try with_reducible rfl
  simp only [Act.put, List.setIfInBounds_toArray, List.set_cons_zero, List.set_cons_succ]
  refine wpAnyH_take (i := 1) (oi := ⟨_, _, _, _, _, _⟩) (v := ?_) rfl (by kernel_rfl) (by kernel_rfl) (by kernel_rfl) (fun _ _ _ h => h) (Or.inl ⟨by rfl, ?_⟩) (by assumption) ?_
  rotate_left
  · intro wz hSw
    try dsimp only at hSw
    go_simp
    try with_reducible rfl
  simp only [Act.put, List.setIfInBounds_toArray, List.set_cons_zero, List.set_cons_succ]
  refine wpAnyH_take (i := 2) (oi := ⟨_, _, _, _, _, _⟩) (v := ?_) rfl (by kernel_rfl) (by kernel_rfl) (by kernel_rfl) (fun _ _ _ h => h) (Or.inl ⟨by rfl, ?_⟩) (by assumption) ?_
  rotate_left
  · intro wz hSw
    try dsimp only at hSw
    go_simp
    try with_reducible rfl
  simp only [Act.put, List.setIfInBounds_toArray, List.set_cons_zero, List.set_cons_succ]
  refine wpAnyH_take (i := 3) (oi := ⟨_, _, _, _, _, _⟩) (v := ?_) rfl (by kernel_rfl) (by kernel_rfl) (by kernel_rfl) (fun _ _ _ h => h) (Or.inl ⟨by rfl, ?_⟩) (by assumption) ?_
  rotate_left
  · intro wz hSw
    try dsimp only at hSw
    go_simp
    try with_reducible rfl
  simp only [Act.put, List.setIfInBounds_toArray, List.set_cons_zero, List.set_cons_succ]
  refine wpAnyH_take (i := 4) (oi := ⟨_, _, _, _, _, _⟩) (v := ?_) rfl (by kernel_rfl) (by kernel_rfl) (by kernel_rfl) (fun _ _ _ h => h) (Or.inl ⟨by rfl, ?_⟩) (by assumption) ?_
  rotate_left
  · intro wz hSw
    try dsimp only at hSw
    go_simp
    try with_reducible rfl
  simp only [Act.put, List.setIfInBounds_toArray, List.set_cons_zero, List.set_cons_succ]
  refine wpAnyH_take (i := 5) (oi := ⟨_, _, _, _, _, _⟩) (v := ?_) rfl (by kernel_rfl) (by kernel_rfl) (by kernel_rfl) (fun _ _ _ h => h) (Or.inl ⟨by rfl, ?_⟩) (by assumption) ?_
  rotate_left
  · intro wz hSw
    try dsimp only at hSw
    go_simp
    try with_reducible rfl
  simp only [Act.put, List.setIfInBounds_toArray, List.set_cons_zero, List.set_cons_succ]
  refine wpAnyH_ready (rs := [6]) (by kernel_rfl) (by simp) ?_
  refine AllReadyH.cons (o := ⟨_, _, _, _, _, _⟩) rfl (fun K hK => ?_) AllReadyH.nil
  go_simp
  have z0 : w1.cell? ⟨Y, 0, none⟩ = some (.int .i64 0) := HY1.out.r 0 (by decide)
  have zf0 := HY1.out.rf 0
  have z1 : w1.cell? ⟨Y, 1, none⟩ = some (.int .i64 0) := HY1.out.r 1 (by decide)
  have zf1 := HY1.out.rf 1
  have z2 : w1.cell? ⟨Y, 2, none⟩ = some (.int .i64 0) := HY1.out.r 2 (by decide)
  have zf2 := HY1.out.rf 2
  have z3 : w1.cell? ⟨Y, 3, none⟩ = some (.int .i64 0) := HY1.out.r 3 (by decide)
  have zf3 := HY1.out.rf 3
  have z4 : w1.cell? ⟨Y, 4, none⟩ = some (.int .u64 0) := HY1.out.r 4 (by decide)
  have zf4 := HY1.out.rf 4
  have z5 : w1.cell? ⟨Y, 5, none⟩ = some (.int .u64 0) := HY1.out.r 5 (by decide)
  have zf5 := HY1.out.rf 5
  have z6 : w1.cell? ⟨Y, 6, none⟩ = some (.int .u64 0) := HY1.out.r 6 (by decide)
  have zf6 := HY1.out.rf 6
  have z7 : w1.cell? ⟨Y, 7, none⟩ = some (.int .i64 0) := HY1.out.r 7 (by decide)
  have zf7 := HY1.out.rf 7
  have z8 : w1.cell? ⟨Y, 8, none⟩ = some (.int .i64 0) := HY1.out.r 8 (by decide)
  have zf8 := HY1.out.rf 8
  try go_simp
  have hoS := put9_only w1 Y (.int .i64 1) (.int .i64 (f1 : Int)) (.int .i64 0) (.int .i64 op) (.int .u64 (ca : Nat)) (.int .u64 (cb : Nat)) (.int .u64 (cc : Nat)) (.int .i64 0) (.int .i64 0)
  have hyS := put9_at (w := w1) (X := Y) (.int .i64 1) (.int .i64 (f1 : Int)) (.int .i64 0) (.int .i64 op) (.int .u64 (ca : Nat)) (.int .u64 (cb : Nat)) (.int .u64 (cc : Nat)) (.int .i64 0) (.int .i64 0) (fun i hi => HY1.out.some i hi)
  refine hK.out _ _ ⟨(hoS.cell ⟨b, o + 1, none⟩ hsb1 (by show b < Y ∨ Y + 1 ≤ b; omega)).trans d0', (hoS.cell ⟨Z, 0, none⟩ hsZ1 (by show Z < Y ∨ Y + 1 ≤ Z; omega)).trans d1', (hoS.cell ⟨Z, 1, none⟩ hsZ1 (by show Z < Y ∨ Y + 1 ≤ Z; omega)).trans d2', (hoS.cell ⟨Z, 2, none⟩ hsZ1 (by show Z < Y ∨ Y + 1 ≤ Z; omega)).trans d3', (hoS.cell ⟨Z, 3, none⟩ hsZ1 (by show Z < Y ∨ Y + 1 ≤ Z; omega)).trans d4'⟩ (fun hHeld => ?_)
  clear hK K
  try simp only [Act.put, List.setIfInBounds_toArray, List.set_cons_zero, List.set_cons_succ]
  refine wpAnyH_done (by kernel_rfl) ?_ _
  have e0 : (put9 w1 Y (.int .i64 1) (.int .i64 (f1 : Int)) (.int .i64 0) (.int .i64 op) (.int .u64 (ca : Nat)) (.int .u64 (cb : Nat)) (.int .u64 (cc : Nat)) (.int .i64 0) (.int .i64 0)).cell? ⟨Y, 0, none⟩ = some (.int .i64 1) := hyS 0 (by decide)
  have e1 : (put9 w1 Y (.int .i64 1) (.int .i64 (f1 : Int)) (.int .i64 0) (.int .i64 op) (.int .u64 (ca : Nat)) (.int .u64 (cb : Nat)) (.int .u64 (cc : Nat)) (.int .i64 0) (.int .i64 0)).cell? ⟨Y, 1, none⟩ = some (.int .i64 (f1 : Int)) := hyS 1 (by decide)
  have e2 : (put9 w1 Y (.int .i64 1) (.int .i64 (f1 : Int)) (.int .i64 0) (.int .i64 op) (.int .u64 (ca : Nat)) (.int .u64 (cb : Nat)) (.int .u64 (cc : Nat)) (.int .i64 0) (.int .i64 0)).cell? ⟨Y, 2, none⟩ = some (.int .i64 0) := hyS 2 (by decide)
  have e3 : (put9 w1 Y (.int .i64 1) (.int .i64 (f1 : Int)) (.int .i64 0) (.int .i64 op) (.int .u64 (ca : Nat)) (.int .u64 (cb : Nat)) (.int .u64 (cc : Nat)) (.int .i64 0) (.int .i64 0)).cell? ⟨Y, 3, none⟩ = some (.int .i64 op) := hyS 3 (by decide)
  have e4 : (put9 w1 Y (.int .i64 1) (.int .i64 (f1 : Int)) (.int .i64 0) (.int .i64 op) (.int .u64 (ca : Nat)) (.int .u64 (cb : Nat)) (.int .u64 (cc : Nat)) (.int .i64 0) (.int .i64 0)).cell? ⟨Y, 4, none⟩ = some (.int .u64 (ca : Nat)) := hyS 4 (by decide)
  have e5 : (put9 w1 Y (.int .i64 1) (.int .i64 (f1 : Int)) (.int .i64 0) (.int .i64 op) (.int .u64 (ca : Nat)) (.int .u64 (cb : Nat)) (.int .u64 (cc : Nat)) (.int .i64 0) (.int .i64 0)).cell? ⟨Y, 5, none⟩ = some (.int .u64 (cb : Nat)) := hyS 5 (by decide)
  have e6 : (put9 w1 Y (.int .i64 1) (.int .i64 (f1 : Int)) (.int .i64 0) (.int .i64 op) (.int .u64 (ca : Nat)) (.int .u64 (cb : Nat)) (.int .u64 (cc : Nat)) (.int .i64 0) (.int .i64 0)).cell? ⟨Y, 6, none⟩ = some (.int .u64 (cc : Nat)) := hyS 6 (by decide)
  have e7 : (put9 w1 Y (.int .i64 1) (.int .i64 (f1 : Int)) (.int .i64 0) (.int .i64 op) (.int .u64 (ca : Nat)) (.int .u64 (cb : Nat)) (.int .u64 (cc : Nat)) (.int .i64 0) (.int .i64 0)).cell? ⟨Y, 7, none⟩ = some (.int .i64 0) := hyS 7 (by decide)
  have e8 : (put9 w1 Y (.int .i64 1) (.int .i64 (f1 : Int)) (.int .i64 0) (.int .i64 op) (.int .u64 (ca : Nat)) (.int .u64 (cb : Nat)) (.int .u64 (cc : Nat)) (.int .i64 0) (.int .i64 0)).cell? ⟨Y, 8, none⟩ = some (.int .i64 0) := hyS 8 (by decide)
  have HE : Hid (ResE w (put9 w1 Y (.int .i64 1) (.int .i64 (f1 : Int)) (.int .i64 0) (.int .i64 op) (.int .u64 (ca : Nat)) (.int .u64 (cb : Nat)) (.int .u64 (cc : Nat)) (.int .i64 0) (.int .i64 0)) X) := Lib.hid ⟨Only.on HR1.out.g hoS HY1.out.xw, by have := hoS.size; have := HR1.out.sz; omega, HR1.out.xw, fun i hi => (hoS.cell ⟨X, i, none⟩ HR1.out.sz (by show X < Y ∨ Y + 1 ≤ X; omega)).trans (HR1.out.r i hi), fun i => (hoS.frozen ⟨X, i, none⟩ HR1.out.sz (by show X < Y ∨ Y + 1 ≤ X; omega)).trans (HR1.out.rf i)⟩
  have hsE : Y < (put9 w1 Y (.int .i64 1) (.int .i64 (f1 : Int)) (.int .i64 0) (.int .i64 op) (.int .u64 (ca : Nat)) (.int .u64 (cb : Nat)) (.int .u64 (cc : Nat)) (.int .i64 0) (.int .i64 0)).heap.size := by have := hoS.size; have := HY1.out.sz; omega
  clear hHeld hoS hyS HY1 HR1 d0' d1' d2' d3' d4' z0 zf0 z1 zf1 z2 zf2 z3 zf3 z4 zf4 z5 zf5 z6 zf6 z7 zf7 z8 zf8
  change Exit.then _ _ _ _ (put9 w1 Y (.int .i64 1) (.int .i64 (f1 : Int)) (.int .i64 0) (.int .i64 op) (.int .u64 (ca : Nat)) (.int .u64 (cb : Nat)) (.int .u64 (cc : Nat)) (.int .i64 0) (.int .i64 0))
  generalize put9 w1 Y (.int .i64 1) (.int .i64 (f1 : Int)) (.int .i64 0) (.int .i64 op) (.int .u64 (ca : Nat)) (.int .u64 (cb : Nat)) (.int .u64 (cc : Nat)) (.int .i64 0) (.int .i64 0) = wE at *
  have CR := Lib.hid (CR0.out wE)
  clear CR0
  go_wp2_with fail
  refine CR.out.mono ?_
  rintro e w2 ⟨rfl, g2⟩
  have HR2 := Lib.hid (HE.out.kept g2)
  have e0 := (g2.cell_far ⟨Y, 0, none⟩ hsE (by simp)).trans e0
  have e1 := (g2.cell_far ⟨Y, 1, none⟩ hsE (by simp)).trans e1
  have e2 := (g2.cell_far ⟨Y, 2, none⟩ hsE (by simp)).trans e2
  have e3 := (g2.cell_far ⟨Y, 3, none⟩ hsE (by simp)).trans e3
  have e4 := (g2.cell_far ⟨Y, 4, none⟩ hsE (by simp)).trans e4
  have e5 := (g2.cell_far ⟨Y, 5, none⟩ hsE (by simp)).trans e5
  have e6 := (g2.cell_far ⟨Y, 6, none⟩ hsE (by simp)).trans e6
  have e7 := (g2.cell_far ⟨Y, 7, none⟩ hsE (by simp)).trans e7
  have e8 := (g2.cell_far ⟨Y, 8, none⟩ hsE (by simp)).trans e8
  clear g2 CR
  cases q with
  | false =>
    have hRf := HV.out
    simp only [if_neg (show ¬ (false = true) by decide)] at hRf
    try unfold zE at hRf
    try unfold zC at hRf
    try simp only at hRf
    subst hRf
    have z0 : w2.cell? ⟨X, 0, none⟩ = some (.int .i64 0) := HR2.out.r 0 (by decide)
    have zf0 := HR2.out.rf 0
    have z1 : w2.cell? ⟨X, 1, none⟩ = some (.int .i64 0) := HR2.out.r 1 (by decide)
    have zf1 := HR2.out.rf 1
    have z2 : w2.cell? ⟨X, 2, none⟩ = some (.int .i64 0) := HR2.out.r 2 (by decide)
    have zf2 := HR2.out.rf 2
    have z3 : w2.cell? ⟨X, 3, none⟩ = some (.int .i64 0) := HR2.out.r 3 (by decide)
    have zf3 := HR2.out.rf 3
    have z4 : w2.cell? ⟨X, 4, none⟩ = some (.int .u64 0) := HR2.out.r 4 (by decide)
    have zf4 := HR2.out.rf 4
    have z5 : w2.cell? ⟨X, 5, none⟩ = some (.int .u64 0) := HR2.out.r 5 (by decide)
    have zf5 := HR2.out.rf 5
    have z6 : w2.cell? ⟨X, 6, none⟩ = some (.int .u64 0) := HR2.out.r 6 (by decide)
    have zf6 := HR2.out.rf 6
    have z7 : w2.cell? ⟨X, 7, none⟩ = some (.int .i64 0) := HR2.out.r 7 (by decide)
    have zf7 := HR2.out.rf 7
    have z8 : w2.cell? ⟨X, 8, none⟩ = some (.int .i64 0) := HR2.out.r 8 (by decide)
    have zf8 := HR2.out.rf 8
    go_wp2
    have ho := put9_only w2 X (.int .i64 0) (.int .i64 0) (.int .i64 0) (.int .i64 0) (.int .u64 0) (.int .u64 0) (.int .u64 0) (.int .i64 0) (.int .i64 0)
    have hy := put9_at (w := w2) (X := X) (.int .i64 0) (.int .i64 0) (.int .i64 0) (.int .i64 0) (.int .u64 0) (.int .u64 0) (.int .u64 0) (.int .i64 0) (.int .i64 0) (fun i hi => HR2.out.some i hi)
    have y0 : (put9 w2 X (.int .i64 0) (.int .i64 0) (.int .i64 0) (.int .i64 0) (.int .u64 0) (.int .u64 0) (.int .u64 0) (.int .i64 0) (.int .i64 0)).cell? ⟨X, 0, none⟩ = some (.int .i64 0) := hy 0 (by decide)
    have y1 : (put9 w2 X (.int .i64 0) (.int .i64 0) (.int .i64 0) (.int .i64 0) (.int .u64 0) (.int .u64 0) (.int .u64 0) (.int .i64 0) (.int .i64 0)).cell? ⟨X, 1, none⟩ = some (.int .i64 0) := hy 1 (by decide)
    have y2 : (put9 w2 X (.int .i64 0) (.int .i64 0) (.int .i64 0) (.int .i64 0) (.int .u64 0) (.int .u64 0) (.int .u64 0) (.int .i64 0) (.int .i64 0)).cell? ⟨X, 2, none⟩ = some (.int .i64 0) := hy 2 (by decide)
    have y3 : (put9 w2 X (.int .i64 0) (.int .i64 0) (.int .i64 0) (.int .i64 0) (.int .u64 0) (.int .u64 0) (.int .u64 0) (.int .i64 0) (.int .i64 0)).cell? ⟨X, 3, none⟩ = some (.int .i64 0) := hy 3 (by decide)
    have y4 : (put9 w2 X (.int .i64 0) (.int .i64 0) (.int .i64 0) (.int .i64 0) (.int .u64 0) (.int .u64 0) (.int .u64 0) (.int .i64 0) (.int .i64 0)).cell? ⟨X, 4, none⟩ = some (.int .u64 0) := hy 4 (by decide)
    have y5 : (put9 w2 X (.int .i64 0) (.int .i64 0) (.int .i64 0) (.int .i64 0) (.int .u64 0) (.int .u64 0) (.int .u64 0) (.int .i64 0) (.int .i64 0)).cell? ⟨X, 5, none⟩ = some (.int .u64 0) := hy 5 (by decide)
    have y6 : (put9 w2 X (.int .i64 0) (.int .i64 0) (.int .i64 0) (.int .i64 0) (.int .u64 0) (.int .u64 0) (.int .u64 0) (.int .i64 0) (.int .i64 0)).cell? ⟨X, 6, none⟩ = some (.int .u64 0) := hy 6 (by decide)
    have y7 : (put9 w2 X (.int .i64 0) (.int .i64 0) (.int .i64 0) (.int .i64 0) (.int .u64 0) (.int .u64 0) (.int .u64 0) (.int .i64 0) (.int .i64 0)).cell? ⟨X, 7, none⟩ = some (.int .i64 0) := hy 7 (by decide)
    have y8 : (put9 w2 X (.int .i64 0) (.int .i64 0) (.int .i64 0) (.int .i64 0) (.int .u64 0) (.int .u64 0) (.int .u64 0) (.int .i64 0) (.int .i64 0)).cell? ⟨X, 8, none⟩ = some (.int .i64 0) := hy 8 (by decide)
    change bodyPost _ _ _ _ _ (put9 w2 X (.int .i64 0) (.int .i64 0) (.int .i64 0) (.int .i64 0) (.int .u64 0) (.int .u64 0) (.int .u64 0) (.int .i64 0) (.int .i64 0))
    clear hy
    generalize put9 w2 X (.int .i64 0) (.int .i64 0) (.int .i64 0) (.int .i64 0) (.int .u64 0) (.int .u64 0) (.int .u64 0) (.int .i64 0) (.int .i64 0) = wF at *
    exact bodyPost_ret (v := .tuple #[.agg #[.int .i64 0, .int .i64 0, .int .i64 0, .int .i64 0, .int .u64 0, .int .u64 0, .int .u64 0, .int .i64 0, .int .i64 0], .bool false]) (by simp [results, Tryd.results32, go_sem, y0, y1, y2, y3, y4, y5, y6, y7, y8]) rfl ⟨rfl, Only.on HR2.out.g ho HR2.out.xw⟩
  | true =>
    have hRf := HV.out
    simp only [if_true] at hRf
    subst hRf
    have z0 : w2.cell? ⟨X, 0, none⟩ = some (.int .i64 0) := HR2.out.r 0 (by decide)
    have zf0 := HR2.out.rf 0
    have z1 : w2.cell? ⟨X, 1, none⟩ = some (.int .i64 0) := HR2.out.r 1 (by decide)
    have zf1 := HR2.out.rf 1
    have z2 : w2.cell? ⟨X, 2, none⟩ = some (.int .i64 0) := HR2.out.r 2 (by decide)
    have zf2 := HR2.out.rf 2
    have z3 : w2.cell? ⟨X, 3, none⟩ = some (.int .i64 0) := HR2.out.r 3 (by decide)
    have zf3 := HR2.out.rf 3
    have z4 : w2.cell? ⟨X, 4, none⟩ = some (.int .u64 0) := HR2.out.r 4 (by decide)
    have zf4 := HR2.out.rf 4
    have z5 : w2.cell? ⟨X, 5, none⟩ = some (.int .u64 0) := HR2.out.r 5 (by decide)
    have zf5 := HR2.out.rf 5
    have z6 : w2.cell? ⟨X, 6, none⟩ = some (.int .u64 0) := HR2.out.r 6 (by decide)
    have zf6 := HR2.out.rf 6
    have z7 : w2.cell? ⟨X, 7, none⟩ = some (.int .i64 0) := HR2.out.r 7 (by decide)
    have zf7 := HR2.out.rf 7
    have z8 : w2.cell? ⟨X, 8, none⟩ = some (.int .i64 0) := HR2.out.r 8 (by decide)
    have zf8 := HR2.out.rf 8
    go_wp2
    have ho := put9_only w2 X (.int .i64 1) (.int .i64 (f1 : Int)) (.int .i64 0) (.int .i64 op) (.int .u64 (ca : Nat)) (.int .u64 (cb : Nat)) (.int .u64 (cc : Nat)) (.int .i64 0) (.int .i64 0)
    have hy := put9_at (w := w2) (X := X) (.int .i64 1) (.int .i64 (f1 : Int)) (.int .i64 0) (.int .i64 op) (.int .u64 (ca : Nat)) (.int .u64 (cb : Nat)) (.int .u64 (cc : Nat)) (.int .i64 0) (.int .i64 0) (fun i hi => HR2.out.some i hi)
    have y0 : (put9 w2 X (.int .i64 1) (.int .i64 (f1 : Int)) (.int .i64 0) (.int .i64 op) (.int .u64 (ca : Nat)) (.int .u64 (cb : Nat)) (.int .u64 (cc : Nat)) (.int .i64 0) (.int .i64 0)).cell? ⟨X, 0, none⟩ = some (.int .i64 1) := hy 0 (by decide)
    have y1 : (put9 w2 X (.int .i64 1) (.int .i64 (f1 : Int)) (.int .i64 0) (.int .i64 op) (.int .u64 (ca : Nat)) (.int .u64 (cb : Nat)) (.int .u64 (cc : Nat)) (.int .i64 0) (.int .i64 0)).cell? ⟨X, 1, none⟩ = some (.int .i64 (f1 : Int)) := hy 1 (by decide)
    have y2 : (put9 w2 X (.int .i64 1) (.int .i64 (f1 : Int)) (.int .i64 0) (.int .i64 op) (.int .u64 (ca : Nat)) (.int .u64 (cb : Nat)) (.int .u64 (cc : Nat)) (.int .i64 0) (.int .i64 0)).cell? ⟨X, 2, none⟩ = some (.int .i64 0) := hy 2 (by decide)
    have y3 : (put9 w2 X (.int .i64 1) (.int .i64 (f1 : Int)) (.int .i64 0) (.int .i64 op) (.int .u64 (ca : Nat)) (.int .u64 (cb : Nat)) (.int .u64 (cc : Nat)) (.int .i64 0) (.int .i64 0)).cell? ⟨X, 3, none⟩ = some (.int .i64 op) := hy 3 (by decide)
    have y4 : (put9 w2 X (.int .i64 1) (.int .i64 (f1 : Int)) (.int .i64 0) (.int .i64 op) (.int .u64 (ca : Nat)) (.int .u64 (cb : Nat)) (.int .u64 (cc : Nat)) (.int .i64 0) (.int .i64 0)).cell? ⟨X, 4, none⟩ = some (.int .u64 (ca : Nat)) := hy 4 (by decide)
    have y5 : (put9 w2 X (.int .i64 1) (.int .i64 (f1 : Int)) (.int .i64 0) (.int .i64 op) (.int .u64 (ca : Nat)) (.int .u64 (cb : Nat)) (.int .u64 (cc : Nat)) (.int .i64 0) (.int .i64 0)).cell? ⟨X, 5, none⟩ = some (.int .u64 (cb : Nat)) := hy 5 (by decide)
    have y6 : (put9 w2 X (.int .i64 1) (.int .i64 (f1 : Int)) (.int .i64 0) (.int .i64 op) (.int .u64 (ca : Nat)) (.int .u64 (cb : Nat)) (.int .u64 (cc : Nat)) (.int .i64 0) (.int .i64 0)).cell? ⟨X, 6, none⟩ = some (.int .u64 (cc : Nat)) := hy 6 (by decide)
    have y7 : (put9 w2 X (.int .i64 1) (.int .i64 (f1 : Int)) (.int .i64 0) (.int .i64 op) (.int .u64 (ca : Nat)) (.int .u64 (cb : Nat)) (.int .u64 (cc : Nat)) (.int .i64 0) (.int .i64 0)).cell? ⟨X, 7, none⟩ = some (.int .i64 0) := hy 7 (by decide)
    have y8 : (put9 w2 X (.int .i64 1) (.int .i64 (f1 : Int)) (.int .i64 0) (.int .i64 op) (.int .u64 (ca : Nat)) (.int .u64 (cb : Nat)) (.int .u64 (cc : Nat)) (.int .i64 0) (.int .i64 0)).cell? ⟨X, 8, none⟩ = some (.int .i64 0) := hy 8 (by decide)
    change bodyPost _ _ _ _ _ (put9 w2 X (.int .i64 1) (.int .i64 (f1 : Int)) (.int .i64 0) (.int .i64 op) (.int .u64 (ca : Nat)) (.int .u64 (cb : Nat)) (.int .u64 (cc : Nat)) (.int .i64 0) (.int .i64 0))
    clear hy
    generalize put9 w2 X (.int .i64 1) (.int .i64 (f1 : Int)) (.int .i64 0) (.int .i64 op) (.int .u64 (ca : Nat)) (.int .u64 (cb : Nat)) (.int .u64 (cc : Nat)) (.int .i64 0) (.int .i64 0) = wF at *
    exact bodyPost_ret (v := .tuple #[.agg #[.int .i64 1, .int .i64 (f1 : Int), .int .i64 0, .int .i64 op, .int .u64 (ca : Nat), .int .u64 (cb : Nat), .int .u64 (cc : Nat), .int .i64 0, .int .i64 0], .bool true]) (by simp [results, Tryd.results32, go_sem, y0, y1, y2, y3, y4, y5, y6, y7, y8]) rfl ⟨rfl, Only.on HR2.out.g ho HR2.out.xw⟩

theorem rone {w : World} {v : Value} {F : List Nat} (H : ReadsB w v F) :
    Calls Tryd.prog 32 #[v] w fun r w' => r = .returned (erV F) ∧ w.grownBy w' none := by
  by_cases h3 : F.length = 3
  · by_cases h0 : F.getD 0 0 = 0
    · exact rone_t H h3 h0
    · exact rone_x3 H h3 h0
  by_cases h4 : F.length = 4
  · by_cases h0 : F.getD 0 0 = 2
    · exact rone_r H h4 h0
    · exact rone_x4 H h4 h0
  by_cases h27 : F.length = 27
  · by_cases h0 : F.getD 0 0 = 1
    · cases hc : cr (F.drop 2) with
      | none => exact rone_b H h27 h0 hc
      | some x =>
        obtain ⟨op, ca, cb, cc⟩ := x
        exact rone_a H h27 h0 op ca cb cc hc
    · exact rone_x27 H h27 h0
  exact rone_n H h3 h4 h27
end Go.Proofs.YtcnojgkolpdomaaDoor
