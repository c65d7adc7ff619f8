/-
  nightjarref15.Right, over this seat's translation.
-/
import Derived.Test.YtcnojgkolpdomaaDoorWire1
import Derived.Test.YtcnojgkolpdomaaDoorRefC
namespace Go.Proofs.YtcnojgkolpdomaaDoor
open Go.RowKit Go.Lib
set_option maxRecDepth 100000
set_option linter.unusedVariables false

theorem eql_call (op op2 : Int) (a b c a2 b2 c2 : Nat) (w : World) :
    (binOp .eql 24 (.agg #[.int .i64 op, .int .u64 (a : Nat), .int .u64 (b : Nat), .int .u64 (c : Nat)]) (.agg #[.int .i64 op2, .int .u64 (a2 : Nat), .int .u64 (b2 : Nat), .int .u64 (c2 : Nat)])).run Tryd.prog w =
    .ok (.bool (op == op2 && ((a : Int) == (a2 : Int) && ((b : Int) == (b2 : Int) && ((c : Int) == (c2 : Int)))))) w := by
  go_simp
  by_cases h4 : op = op2
  · by_cases h5 : (a : Int) = a2
    · by_cases h6 : (b : Int) = b2
      · by_cases h7 : (c : Int) = c2
        · simp [h4, h5, h6, h7]
        · simp [h4, h5, h6, h7]
      · simp [h4, h5, h6]
    · simp [h4, h5]
  · simp [h4]

set_option maxHeartbeats 8000000 in
theorem rrightE_0 (w : World) (who n op d m : Int) (a b c : Nat) :
    Calls Tryd.prog 35 #[(En.mk 0 who n ⟨op, a, b, c⟩ d m).val] w fun r w' => r = .returned (.bool (okE ⟨0, who, n, ⟨op, a, b, c⟩, d, m⟩)) ∧ w.grownBy w' none := by
  obtain ⟨R, hR⟩ : ∃ R, R = okE ⟨0, who, n, ⟨op, a, b, c⟩, d, m⟩ := ⟨_, rfl⟩
  rw [← hR]
  obtain ⟨qz, hqz⟩ : ∃ qz, (op == 0 && ((a : Int) == 0 && ((b : Int) == 0 && ((c : Int) == 0)))) = qz := ⟨_, rfl⟩
  have hE : ∀ w5 : World, (binOp .eql 24 (.agg #[.int .i64 op, .int .u64 (a : Nat), .int .u64 (b : Nat), .int .u64 (c : Nat)]) (.agg #[.int .i64 0, .int .u64 0, .int .u64 0, .int .u64 0])).run Tryd.prog w5 = .ok (.bool qz) w5 := fun w5 => hqz ▸ eql_call op 0 a b c 0 0 0 w5
  have hR2 : R = (decide (1 ≤ n) && decide (n ≤ 100) && decide (who = 0) && qz && decide (d = 0) && decide (m = 0)) := by
    rw [hR, ← hqz, Bool.eq_iff_iff]
    simp [okE, isZ, and_assoc]
  have HR2 := Lib.hid hR2
  clear hR hR2 hqz
  unfold En.val
  simp only
  cases qz
  all_goals
    go_enter Tryd.func35, Tryd.ntmps35
    go_wp2
    all_goals go_ret
    all_goals refine ⟨?_, (World.grownBy_alloc w _ none).trans (World.grownBy_alloc _ _ none)⟩
    all_goals rw [HR2.out]
    all_goals simp_all
    all_goals first | rfl | omega

set_option maxHeartbeats 8000000 in
theorem rrightE_2 (w : World) (who n op d m : Int) (a b c : Nat) :
    Calls Tryd.prog 35 #[(En.mk 2 who n ⟨op, a, b, c⟩ d m).val] w fun r w' => r = .returned (.bool (okE ⟨2, who, n, ⟨op, a, b, c⟩, d, m⟩)) ∧ w.grownBy w' none := by
  obtain ⟨R, hR⟩ : ∃ R, R = okE ⟨2, who, n, ⟨op, a, b, c⟩, d, m⟩ := ⟨_, rfl⟩
  rw [← hR]
  obtain ⟨qz, hqz⟩ : ∃ qz, (op == 0 && ((a : Int) == 0 && ((b : Int) == 0 && ((c : Int) == 0)))) = qz := ⟨_, rfl⟩
  have hE : ∀ w5 : World, (binOp .eql 24 (.agg #[.int .i64 op, .int .u64 (a : Nat), .int .u64 (b : Nat), .int .u64 (c : Nat)]) (.agg #[.int .i64 0, .int .u64 0, .int .u64 0, .int .u64 0])).run Tryd.prog w5 = .ok (.bool qz) w5 := fun w5 => hqz ▸ eql_call op 0 a b c 0 0 0 w5
  have hR2 : R = (decide (0 ≤ who) && decide (who < 256) && decide (0 ≤ d) && decide (d < 256) && decide (1 ≤ m) && decide (m ≤ 7) && decide (n = 0) && qz) := by
    rw [hR, ← hqz, Bool.eq_iff_iff]
    simp [okE, isZ, and_assoc]
  have HR2 := Lib.hid hR2
  clear hR hR2 hqz
  unfold En.val
  simp only
  cases qz
  all_goals
    go_enter Tryd.func35, Tryd.ntmps35
    go_wp2
    all_goals go_ret
    all_goals refine ⟨?_, (World.grownBy_alloc w _ none).trans (World.grownBy_alloc _ _ none)⟩
    all_goals rw [HR2.out]
    all_goals simp_all
    all_goals first | rfl | omega

set_option maxHeartbeats 8000000 in
theorem rrightE_1 (w : World) (who n op d m : Int) (a b c : Nat) (hs : smC ⟨op, a, b, c⟩) :
    Calls Tryd.prog 35 #[(En.mk 1 who n ⟨op, a, b, c⟩ d m).val] w fun r w' => r = .returned (.bool (okE ⟨1, who, n, ⟨op, a, b, c⟩, d, m⟩)) ∧ w.grownBy w' none := by
  obtain ⟨R, hR⟩ : ∃ R, R = okE ⟨1, who, n, ⟨op, a, b, c⟩, d, m⟩ := ⟨_, rfl⟩
  rw [← hR]
  obtain ⟨qc, hqc⟩ : ∃ qc, qc = okC ⟨op, a, b, c⟩ := ⟨_, rfl⟩
  have hR2 : R = (decide (0 ≤ who) && decide (who < 256) && qc && decide (n = 0) && decide (d = 0) && decide (m = 0)) := by
    rw [hR, hqc, Bool.eq_iff_iff]
    simp [okE, and_assoc]
  have HR2 := Lib.hid hR2
  have CC := Lib.hid (fun wz => rright wz ⟨op, a, b, c⟩ hs)
  rw [← hqc] at CC
  unfold Cl.val at CC
  simp only at CC
  clear hR hR2 hqc hs
  unfold En.val
  simp only
  by_cases h1 : 0 ≤ who
  · by_cases h2 : who < 256
    · go_enter Tryd.func35, Tryd.ntmps35
      go_wp2_with fail
      have k0 := (World.grownBy_alloc w (.cells #[.int .i64 1, .int .i64 who, .int .i64 n, .int .i64 op, .int .u64 (a : Nat), .int .u64 (b : Nat), .int .u64 (c : Nat), .int .i64 d, .int .i64 m] 55) none).trans (World.grownBy_alloc _ (.cells #[.int .i64 0, .int .u64 0, .int .u64 0, .int .u64 0] 24) none)
      have hx : ∀ i, i < 9 → ((w.alloc (.cells #[.int .i64 1, .int .i64 who, .int .i64 n, .int .i64 op, .int .u64 (a : Nat), .int .u64 (b : Nat), .int .u64 (c : Nat), .int .i64 d, .int .i64 m] 55)).alloc (.cells #[.int .i64 0, .int .u64 0, .int .u64 0, .int .u64 0] 24)).cell? ⟨w.heap.size, i, none⟩ = ([.int .i64 1, .int .i64 who, .int .i64 n, .int .i64 op, .int .u64 (a : Nat), .int .u64 (b : Nat), .int .u64 (c : Nat), .int .i64 d, .int .i64 m] : List Value)[i]? := fun i hi => by
        rw [(World.grownBy_alloc _ _ none).cell_far ⟨w.heap.size, i, none⟩ (by simp) (by simp), World.cell?_alloc_new]
        simp
      refine (CC.out _).mono ?_
      rintro r w1 ⟨rfl, g1⟩
      have hsz : w.heap.size < ((w.alloc (.cells #[.int .i64 1, .int .i64 who, .int .i64 n, .int .i64 op, .int .u64 (a : Nat), .int .u64 (b : Nat), .int .u64 (c : Nat), .int .i64 d, .int .i64 m] 55)).alloc (.cells #[.int .i64 0, .int .u64 0, .int .u64 0, .int .u64 0] 24)).heap.size := by simp; omega
      have x2 : w1.cell? ⟨w.heap.size, 2, none⟩ = some (.int .i64 n) := (g1.cell_far ⟨w.heap.size, 2, none⟩ hsz (by simp)).trans (hx 2 (by decide))
      have x7 : w1.cell? ⟨w.heap.size, 7, none⟩ = some (.int .i64 d) := (g1.cell_far ⟨w.heap.size, 7, none⟩ hsz (by simp)).trans (hx 7 (by decide))
      have x8 : w1.cell? ⟨w.heap.size, 8, none⟩ = some (.int .i64 m) := (g1.cell_far ⟨w.heap.size, 8, none⟩ hsz (by simp)).trans (hx 8 (by decide))
      have GG := Lib.hid (k0.trans g1)
      clear hx hsz g1 k0 CC
      cases qc
      all_goals go_wp2
      all_goals go_ret
      all_goals refine ⟨?_, GG.out⟩
      all_goals rw [HR2.out]
      all_goals simp_all
      all_goals first | rfl | omega
    · go_enter Tryd.func35, Tryd.ntmps35
      go_wp2
      all_goals go_ret
      all_goals refine ⟨?_, (World.grownBy_alloc w _ none).trans (World.grownBy_alloc _ _ none)⟩
      all_goals rw [HR2.out]
      all_goals simp_all
      all_goals (intros; omega)
  · have h2 : decide (0 ≤ who) = false := by simpa using h1
    go_enter Tryd.func35, Tryd.ntmps35
    go_wp2
    all_goals go_ret
    all_goals refine ⟨?_, (World.grownBy_alloc w _ none).trans (World.grownBy_alloc _ _ none)⟩
    all_goals rw [HR2.out]
    all_goals simp_all
    all_goals (intros; omega)

set_option maxHeartbeats 8000000 in
theorem rrightE_x (w : World) (k who n op d m : Int) (a b c : Nat) (h0 : k ≠ 0) (h1 : k ≠ 1) (h2 : k ≠ 2) :
    Calls Tryd.prog 35 #[(En.mk k who n ⟨op, a, b, c⟩ d m).val] w fun r w' => r = .returned (.bool (okE ⟨k, who, n, ⟨op, a, b, c⟩, d, m⟩)) ∧ w.grownBy w' none := by
  have hz : okE ⟨k, who, n, ⟨op, a, b, c⟩, d, m⟩ = false := by simp [okE, h0, h1, h2]
  rw [hz]
  unfold En.val
  simp only
  have q0 : (k == 0) = false := by rw [beq_eq_false_iff_ne]; exact h0
  have q1 : (k == 1) = false := by rw [beq_eq_false_iff_ne]; exact h1
  have q2 : (k == 2) = false := by rw [beq_eq_false_iff_ne]; exact h2
  clear h0 h1 h2 hz
  go_enter Tryd.func35, Tryd.ntmps35
  go_wp2
  all_goals go_ret
  all_goals exact ⟨by simp, (World.grownBy_alloc w _ none).trans (World.grownBy_alloc _ _ none)⟩
theorem rrightE {w : World} (e : En) (hs : smC e.call) :
    Calls Tryd.prog 35 #[e.val] w fun r w' => r = .returned (.bool (okE e)) ∧ w.grownBy w' none := by
  obtain ⟨k, who, n, ⟨op, a, b, c⟩, d, m⟩ := e
  by_cases h0 : k = 0
  · subst h0; exact rrightE_0 w who n op d m a b c
  by_cases h1 : k = 1
  · subst h1; exact rrightE_1 w who n op d m a b c hs
  by_cases h2 : k = 2
  · subst h2; exact rrightE_2 w who n op d m a b c
  exact rrightE_x w k who n op d m a b c h0 h1 h2
end Go.Proofs.YtcnojgkolpdomaaDoor
