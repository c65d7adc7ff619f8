/-
  CallForms, the walk, over this seat's translation.
-/
import Derived.Test.YtcnojgkolpdomaaDoorAlive14
import Derived.Test.YtcnojgkolpdomaaDoorRefC3
import Derived.ChangeMaps5
namespace Go.Proofs.YtcnojgkolpdomaaDoor
open Go.RowKit Go.Lib
set_option maxRecDepth 100000
set_option linter.unusedVariables false

/-- What holds under more holds under less. -/
theorem wpAnyH_less {P : Program} {md : Region.Mode} {ops : Array Oper} {Q : Exit → Act → World → Prop} {S S2 : World → Prop} (hs : ∀ w, S2 w → S w) : ∀ (fuel : Nat) (listed : Array Bool) (a : Act) (w : World), wpAnyH P md ops Q S2 fuel listed a w → wpAnyH P md ops Q S fuel listed a w
  | 0, _, _, _, h => h
  | fuel + 1, _, _, _, h => ⟨h.1, fun i hi => wpOp_mono (fun a' w' h' => ⟨hs w' h'.1, wpAnyH_less hs fuel _ a' w' h'.2⟩) (h.2 i hi)⟩

/-- The last of the first j kinds that has the name. -/
def atN (s : ByteArray) : Nat → Int
  | 0 => -1
  | j + 1 => if ((⟨fNm j⟩ : ByteArray).toList == s.toList) = true then (j : Int) else atN s j
theorem names_apart : ∀ i, i < 13 → ∀ j, j < 13 → i ≠ j → (⟨fNm i⟩ : ByteArray).toList ≠ (⟨fNm j⟩ : ByteArray).toList := by
  have h : ((List.range 13).all fun i => (List.range 13).all fun j => decide (i = j) || !((⟨fNm i⟩ : ByteArray).toList == (⟨fNm j⟩ : ByteArray).toList)) = true := by decide +kernel
  intro i hi j hj hne e
  have h1 := List.all_eq_true.1 h i (List.mem_range.2 hi)
  have h2 := List.all_eq_true.1 h1 j (List.mem_range.2 hj)
  rw [e] at h2
  simp [hne] at h2
theorem atN_named (s : ByteArray) : ∀ j, j ≤ 13 → (namedN s j = none → atN s j = -1) ∧ (∀ k, namedN s j = some k → k < j ∧ ((⟨fNm k⟩ : ByteArray).toList == s.toList) = true ∧ atN s j = (k : Int))
  | 0, _ => ⟨fun _ => rfl, fun k h => by simp [namedN] at h⟩
  | j + 1, hj => by
    obtain ⟨h1, h2⟩ := atN_named s j (by omega)
    cases hn : namedN s j with
    | none =>
      by_cases hq : ((⟨fNm j⟩ : ByteArray).toList == s.toList) = true
      · refine ⟨fun h => ?_, fun k h => ?_⟩
        · simp only [namedN, hn, if_pos hq] at h; cases h
        · simp only [namedN, hn, if_pos hq] at h
          injection h with h
          subst h
          exact ⟨by omega, hq, by rw [atN, if_pos hq]⟩
      · refine ⟨fun h => ?_, fun k h => ?_⟩
        · rw [atN, if_neg hq]; exact h1 hn
        · simp only [namedN, hn, if_neg hq] at h; cases h
    | some i =>
      obtain ⟨hi, hq, ha⟩ := h2 i hn
      have hnq : ¬ ((⟨fNm j⟩ : ByteArray).toList == s.toList) = true := by
        intro h
        rw [beq_iff_eq] at h hq
        exact names_apart i (by omega) j (by omega) (by omega) (hq.trans h.symm)
      refine ⟨fun h => ?_, fun k h => ?_⟩
      · simp only [namedN, hn] at h; cases h
      · simp only [namedN, hn] at h
        injection h with h
        subst h
        exact ⟨by omega, hq, by rw [atN, if_neg hnq]; exact ha⟩
theorem atN_V (s : ByteArray) : (namedV s = .tuple #[.int .i64 0, .bool false] ∧ atN s 13 = -1) ∨ (∃ k : Nat, namedV s = .tuple #[.int .i64 (k : Int), .bool true] ∧ atN s 13 = (k : Int)) := by
  obtain ⟨h1, h2⟩ := atN_named s 13 (Nat.le_refl _)
  cases hn : namedN s 13 with
  | none => exact Or.inl ⟨namedV_eq hn, h1 hn⟩
  | some k => exact Or.inr ⟨k, namedV_eq hn, (h2 k hn).2.2⟩

set_option maxHeartbeats 8000000 in
theorem forms_law (x : Cl) (s : ByteArray) (w : World) (HT : FormsAt w) (hs : smC x) :
    Calls Tryd.prog 3 #[x.val, .string s] w fun e w' => e = .returned (.bool true) ∧ w.grownBy w' none := by
  obtain ⟨op, a, b, c⟩ := x
  have k0 := World.grownBy_alloc w (.cells #[.int .i64 op, .int .u64 (a : Nat), .int .u64 (b : Nat), .int .u64 (c : Nat)] 24) none
  have G0 := Lib.hid k0
  have HT0 := Lib.hid HT
  have HS := Lib.hid hs
  clear HT hs k0
  obtain ⟨ok, hok⟩ : ∃ ok, ok = okC ⟨op, a, b, c⟩ := ⟨_, rfl⟩
  have CR0 := Lib.hid (fun (wz : World) (h : w.grownBy wz none) => cright ⟨op, a, b, c⟩ HS.out (HT0.out.kept h))
  have CR1 := Lib.hid (fun (wz : World) => rright wz ⟨op, a, b, c⟩ HS.out)
  unfold Cl.val at CR0 CR1
  simp only at CR0 CR1
  rw [← hok] at CR0 CR1
  clear hok
  unfold Cl.val
  simp only
  go_enter Tryd.func3, Tryd.ntmps3
  have x0 : (w.alloc (.cells #[.int .i64 op, .int .u64 (a : Nat), .int .u64 (b : Nat), .int .u64 (c : Nat)] 24)).cell? ⟨w.heap.size, 0, none⟩ = some (.int .i64 op) := World.cell?_alloc_new ..
  have x1 : (w.alloc (.cells #[.int .i64 op, .int .u64 (a : Nat), .int .u64 (b : Nat), .int .u64 (c : Nat)] 24)).cell? ⟨w.heap.size, 1, none⟩ = some (.int .u64 (a : Nat)) := World.cell?_alloc_new ..
  have x2 : (w.alloc (.cells #[.int .i64 op, .int .u64 (a : Nat), .int .u64 (b : Nat), .int .u64 (c : Nat)] 24)).cell? ⟨w.heap.size, 2, none⟩ = some (.int .u64 (b : Nat)) := World.cell?_alloc_new ..
  have x3 : (w.alloc (.cells #[.int .i64 op, .int .u64 (a : Nat), .int .u64 (b : Nat), .int .u64 (c : Nat)] 24)).cell? ⟨w.heap.size, 3, none⟩ = some (.int .u64 (c : Nat)) := World.cell?_alloc_new ..
  have hs_x : w.heap.size < (w.alloc (.cells #[.int .i64 op, .int .u64 (a : Nat), .int .u64 (b : Nat), .int .u64 (c : Nat)] 24)).heap.size := by simp
  have AL := Lib.hid (alive14 (HT0.out.kept G0.out))
  go_wp2_with fail
  refine (AL.out).mono ?_
  rintro e w1 ⟨rfl, g1⟩
  replace x0 := (g1.cell_far ⟨w.heap.size, 0, none⟩ hs_x (by simp)).trans x0
  replace x1 := (g1.cell_far ⟨w.heap.size, 1, none⟩ hs_x (by simp)).trans x1
  replace x2 := (g1.cell_far ⟨w.heap.size, 2, none⟩ hs_x (by simp)).trans x2
  replace x3 := (g1.cell_far ⟨w.heap.size, 3, none⟩ hs_x (by simp)).trans x3
  replace hs_x := Nat.lt_of_lt_of_le hs_x g1.size
  have G1 := Lib.hid (G0.out.trans g1)
  by_cases hop : op < 0 ∨ 13 ≤ op
  · skip
    have C1 := cof_no (w := w1) op hop
    unfold fZero at C1
    have C1 := Lib.hid C1
    go_wp2_with fail
    refine (C1.out).mono ?_
    rintro e w2 ⟨rfl, g2⟩
    replace x0 := (g2.cell_far ⟨w.heap.size, 0, none⟩ hs_x (by simp)).trans x0
    replace x1 := (g2.cell_far ⟨w.heap.size, 1, none⟩ hs_x (by simp)).trans x1
    replace x2 := (g2.cell_far ⟨w.heap.size, 2, none⟩ hs_x (by simp)).trans x2
    replace x3 := (g2.cell_far ⟨w.heap.size, 3, none⟩ hs_x (by simp)).trans x3
    replace hs_x := Nat.lt_of_lt_of_le hs_x g2.size
    have G2 := Lib.hid (G1.out.trans g2)
    have k2 := World.grownBy_alloc w2 (.cells #[.string ⟨#[]⟩, .int .i64 0, .int .i64 0, .int .i64 0] 27) none
    have hne2_x : w.heap.size ≠ w2.heap.size := by omega
    replace x0 := (k2.cell_far ⟨w.heap.size, 0, none⟩ hs_x (by simp)).trans x0
    replace x1 := (k2.cell_far ⟨w.heap.size, 1, none⟩ hs_x (by simp)).trans x1
    replace x2 := (k2.cell_far ⟨w.heap.size, 2, none⟩ hs_x (by simp)).trans x2
    replace x3 := (k2.cell_far ⟨w.heap.size, 3, none⟩ hs_x (by simp)).trans x3
    replace hs_x := Nat.lt_of_lt_of_le hs_x k2.size
    have G2a := Lib.hid (G2.out.trans k2)
    have f0 : (w2.alloc (.cells #[.string ⟨#[]⟩, .int .i64 0, .int .i64 0, .int .i64 0] 27)).cell? ⟨w2.heap.size, 0, none⟩ = some (.string ⟨#[]⟩) := World.cell?_alloc_new ..
    have f1 : (w2.alloc (.cells #[.string ⟨#[]⟩, .int .i64 0, .int .i64 0, .int .i64 0] 27)).cell? ⟨w2.heap.size, 1, none⟩ = some (.int .i64 0) := World.cell?_alloc_new ..
    have f2 : (w2.alloc (.cells #[.string ⟨#[]⟩, .int .i64 0, .int .i64 0, .int .i64 0] 27)).cell? ⟨w2.heap.size, 2, none⟩ = some (.int .i64 0) := World.cell?_alloc_new ..
    have f3 : (w2.alloc (.cells #[.string ⟨#[]⟩, .int .i64 0, .int .i64 0, .int .i64 0] 27)).cell? ⟨w2.heap.size, 3, none⟩ = some (.int .i64 0) := World.cell?_alloc_new ..
    have hs_f : w2.heap.size < (w2.alloc (.cells #[.string ⟨#[]⟩, .int .i64 0, .int .i64 0, .int .i64 0] 27)).heap.size := by simp
    rcases hop with h0 | h0
    · skip
      have q0 : ¬ op ≥ 0 := by omega
      clear h0
      go_wp2_with fail
      generalize hWA : (w2.alloc (.cells #[.string ⟨#[]⟩, .int .i64 0, .int .i64 0, .int .i64 0] 27)) = wA at *
      clear hWA
      refine wp_region_held_drew (S := fun w' => True) (by kernel_rfl) trivial (fun hHeld => ?_)
      refine wpAnyH_take (i := 0) (oi := ⟨_, _, _, _, _, _⟩) (v := ?_) rfl (by kernel_rfl) (by kernel_rfl) (by kernel_rfl) (fun _ _ _ h => h) (Or.inl ⟨by rfl, ?_⟩) (by assumption) ?_
      rotate_left
      · intro wz hSw
        try dsimp only at hSw
        go_simp
        try with_reducible rfl
      simp only [Act.put, List.setIfInBounds_toArray, List.set_cons_zero, List.set_cons_succ]
      refine wpAnyH_take (i := 1) (oi := ⟨_, _, _, _, _, _⟩) (v := ?_) rfl (by kernel_rfl) (by kernel_rfl) (by kernel_rfl) (fun _ _ _ h => h) (Or.inl ⟨by rfl, ?_⟩) (by assumption) ?_
      rotate_left
      · intro wz hSw
        try dsimp only at hSw
        go_simp
        try with_reducible rfl
      simp only [Act.put, List.setIfInBounds_toArray, List.set_cons_zero, List.set_cons_succ]
      refine wpAnyH_take (i := 2) (oi := ⟨_, _, _, _, _, _⟩) (v := undef) rfl (by kernel_rfl) (by kernel_rfl) (by kernel_rfl) (fun _ _ _ h => h) (Or.inr ⟨by rfl, rfl⟩) (by assumption) ?_
      simp only [Act.put, List.setIfInBounds_toArray, List.set_cons_zero, List.set_cons_succ]
      refine wpAnyH_take (i := 3) (oi := ⟨_, _, _, _, _, _⟩) (v := undef) rfl (by kernel_rfl) (by kernel_rfl) (by kernel_rfl) (fun _ _ _ h => h) (Or.inr ⟨by rfl, rfl⟩) (by assumption) ?_
      simp only [Act.put, List.setIfInBounds_toArray, List.set_cons_zero, List.set_cons_succ]
      refine wpAnyH_take (i := 4) (oi := ⟨_, _, _, _, _, _⟩) (v := undef) rfl (by kernel_rfl) (by kernel_rfl) (by kernel_rfl) (fun _ _ _ h => h) (Or.inr ⟨by rfl, rfl⟩) (by assumption) ?_
      simp only [Act.put, List.setIfInBounds_toArray, List.set_cons_zero, List.set_cons_succ]
      refine wpAnyH_take (i := 5) (oi := ⟨_, _, _, _, _, _⟩) (v := undef) rfl (by kernel_rfl) (by kernel_rfl) (by kernel_rfl) (fun _ _ _ h => h) (Or.inr ⟨by rfl, rfl⟩) (by assumption) ?_
      simp only [Act.put, List.setIfInBounds_toArray, List.set_cons_zero, List.set_cons_succ]
      refine wpAnyH_take (i := 6) (oi := ⟨_, _, _, _, _, _⟩) (v := undef) rfl (by kernel_rfl) (by kernel_rfl) (by kernel_rfl) (fun _ _ _ h => h) (Or.inr ⟨by rfl, rfl⟩) (by assumption) ?_
      simp only [Act.put, List.setIfInBounds_toArray, List.set_cons_zero, List.set_cons_succ]
      refine wpAnyH_take (i := 7) (oi := ⟨_, _, _, _, _, _⟩) (v := undef) rfl (by kernel_rfl) (by kernel_rfl) (by kernel_rfl) (fun _ _ _ h => h) (Or.inr ⟨by rfl, rfl⟩) (by assumption) ?_
      simp only [Act.put, List.setIfInBounds_toArray, List.set_cons_zero, List.set_cons_succ]
      refine wpAnyH_take (i := 8) (oi := ⟨_, _, _, _, _, _⟩) (v := undef) rfl (by kernel_rfl) (by kernel_rfl) (by kernel_rfl) (fun _ _ _ h => h) (Or.inr ⟨by rfl, rfl⟩) (by assumption) ?_
      simp only [Act.put, List.setIfInBounds_toArray, List.set_cons_zero, List.set_cons_succ]
      refine wpAnyH_take (i := 9) (oi := ⟨_, _, _, _, _, _⟩) (v := undef) rfl (by kernel_rfl) (by kernel_rfl) (by kernel_rfl) (fun _ _ _ h => h) (Or.inr ⟨by rfl, rfl⟩) (by assumption) ?_
      simp only [Act.put, List.setIfInBounds_toArray, List.set_cons_zero, List.set_cons_succ]
      refine wpAnyH_take (i := 10) (oi := ⟨_, _, _, _, _, _⟩) (v := undef) rfl (by kernel_rfl) (by kernel_rfl) (by kernel_rfl) (fun _ _ _ h => h) (Or.inr ⟨by rfl, rfl⟩) (by assumption) ?_
      simp only [Act.put, List.setIfInBounds_toArray, List.set_cons_zero, List.set_cons_succ]
      refine wpAnyH_take (i := 11) (oi := ⟨_, _, _, _, _, _⟩) (v := undef) rfl (by kernel_rfl) (by kernel_rfl) (by kernel_rfl) (fun _ _ _ h => h) (Or.inr ⟨by rfl, rfl⟩) (by assumption) ?_
      simp only [Act.put, List.setIfInBounds_toArray, List.set_cons_zero, List.set_cons_succ]
      refine wpAnyH_take (i := 12) (oi := ⟨_, _, _, _, _, _⟩) (v := undef) rfl (by kernel_rfl) (by kernel_rfl) (by kernel_rfl) (fun _ _ _ h => h) (Or.inr ⟨by rfl, rfl⟩) (by assumption) ?_
      simp only [Act.put, List.setIfInBounds_toArray, List.set_cons_zero, List.set_cons_succ]
      refine wpAnyH_take (i := 13) (oi := ⟨_, _, _, _, _, _⟩) (v := undef) rfl (by kernel_rfl) (by kernel_rfl) (by kernel_rfl) (fun _ _ _ h => h) (Or.inr ⟨by rfl, rfl⟩) (by assumption) ?_
      simp only [Act.put, List.setIfInBounds_toArray, List.set_cons_zero, List.set_cons_succ]
      refine wpAnyH_take (i := 14) (oi := ⟨_, _, _, _, _, _⟩) (v := undef) rfl (by kernel_rfl) (by kernel_rfl) (by kernel_rfl) (fun _ _ _ h => h) (Or.inr ⟨by rfl, rfl⟩) (by assumption) ?_
      simp only [Act.put, List.setIfInBounds_toArray, List.set_cons_zero, List.set_cons_succ]
      refine wpAnyH_take (i := 15) (oi := ⟨_, _, _, _, _, _⟩) (v := undef) rfl (by kernel_rfl) (by kernel_rfl) (by kernel_rfl) (fun _ _ _ h => h) (Or.inr ⟨by rfl, rfl⟩) (by assumption) ?_
      simp only [Act.put, List.setIfInBounds_toArray, List.set_cons_zero, List.set_cons_succ]
      refine wpAnyH_take (i := 16) (oi := ⟨_, _, _, _, _, _⟩) (v := undef) rfl (by kernel_rfl) (by kernel_rfl) (by kernel_rfl) (fun _ _ _ h => h) (Or.inr ⟨by rfl, rfl⟩) (by assumption) ?_
      simp only [Act.put, List.setIfInBounds_toArray, List.set_cons_zero, List.set_cons_succ]
      refine wpAnyH_take (i := 17) (oi := ⟨_, _, _, _, _, _⟩) (v := undef) rfl (by kernel_rfl) (by kernel_rfl) (by kernel_rfl) (fun _ _ _ h => h) (Or.inr ⟨by rfl, rfl⟩) (by assumption) ?_
      simp only [Act.put, List.setIfInBounds_toArray, List.set_cons_zero, List.set_cons_succ]
      refine wpAnyH_take (i := 18) (oi := ⟨_, _, _, _, _, _⟩) (v := undef) rfl (by kernel_rfl) (by kernel_rfl) (by kernel_rfl) (fun _ _ _ h => h) (Or.inr ⟨by rfl, rfl⟩) (by assumption) ?_
      simp only [Act.put, List.setIfInBounds_toArray, List.set_cons_zero, List.set_cons_succ]
      refine wpAnyH_take (i := 19) (oi := ⟨_, _, _, _, _, _⟩) (v := undef) rfl (by kernel_rfl) (by kernel_rfl) (by kernel_rfl) (fun _ _ _ h => h) (Or.inr ⟨by rfl, rfl⟩) (by assumption) ?_
      simp only [Act.put, List.setIfInBounds_toArray, List.set_cons_zero, List.set_cons_succ]
      refine wpAnyH_take (i := 20) (oi := ⟨_, _, _, _, _, _⟩) (v := undef) rfl (by kernel_rfl) (by kernel_rfl) (by kernel_rfl) (fun _ _ _ h => h) (Or.inr ⟨by rfl, rfl⟩) (by assumption) ?_
      simp only [Act.put, List.setIfInBounds_toArray, List.set_cons_zero, List.set_cons_succ]
      refine wpAnyH_take (i := 21) (oi := ⟨_, _, _, _, _, _⟩) (v := undef) rfl (by kernel_rfl) (by kernel_rfl) (by kernel_rfl) (fun _ _ _ h => h) (Or.inr ⟨by rfl, rfl⟩) (by assumption) ?_
      simp only [Act.put, List.setIfInBounds_toArray, List.set_cons_zero, List.set_cons_succ]
      refine wpAnyH_take (i := 22) (oi := ⟨_, _, _, _, _, _⟩) (v := undef) rfl (by kernel_rfl) (by kernel_rfl) (by kernel_rfl) (fun _ _ _ h => h) (Or.inr ⟨by rfl, rfl⟩) (by assumption) ?_
      simp only [Act.put, List.setIfInBounds_toArray, List.set_cons_zero, List.set_cons_succ]
      refine wpAnyH_take (i := 23) (oi := ⟨_, _, _, _, _, _⟩) (v := undef) rfl (by kernel_rfl) (by kernel_rfl) (by kernel_rfl) (fun _ _ _ h => h) (Or.inr ⟨by rfl, rfl⟩) (by assumption) ?_
      simp only [Act.put, List.setIfInBounds_toArray, List.set_cons_zero, List.set_cons_succ]
      refine wpAnyH_take (i := 24) (oi := ⟨_, _, _, _, _, _⟩) (v := undef) rfl (by kernel_rfl) (by kernel_rfl) (by kernel_rfl) (fun _ _ _ h => h) (Or.inr ⟨by rfl, rfl⟩) (by assumption) ?_
      simp only [Act.put, List.setIfInBounds_toArray, List.set_cons_zero, List.set_cons_succ]
      refine wpAnyH_take (i := 25) (oi := ⟨_, _, _, _, _, _⟩) (v := ?_) rfl (by kernel_rfl) (by kernel_rfl) (by kernel_rfl) (fun _ _ _ h => h) (Or.inl ⟨by rfl, ?_⟩) (by assumption) ?_
      rotate_left
      · intro wz hSw
        try dsimp only at hSw
        go_simp
        try with_reducible rfl
      simp only [Act.put, List.setIfInBounds_toArray, List.set_cons_zero, List.set_cons_succ]
      refine wpAnyH_done (by kernel_rfl) ?_ _
      clear hHeld
      have kd := (⟨rfl, rfl, rfl, Nat.le_refl _, fun _ _ _ => rfl⟩ : wA.grownBy wA.drew none)
      replace x0 := (kd.cell_far ⟨w.heap.size, 0, none⟩ hs_x (by simp)).trans x0
      replace x1 := (kd.cell_far ⟨w.heap.size, 1, none⟩ hs_x (by simp)).trans x1
      replace x2 := (kd.cell_far ⟨w.heap.size, 2, none⟩ hs_x (by simp)).trans x2
      replace x3 := (kd.cell_far ⟨w.heap.size, 3, none⟩ hs_x (by simp)).trans x3
      replace f0 := (kd.cell_far ⟨w2.heap.size, 0, none⟩ hs_f (by simp)).trans f0
      replace f1 := (kd.cell_far ⟨w2.heap.size, 1, none⟩ hs_f (by simp)).trans f1
      replace f2 := (kd.cell_far ⟨w2.heap.size, 2, none⟩ hs_f (by simp)).trans f2
      replace f3 := (kd.cell_far ⟨w2.heap.size, 3, none⟩ hs_f (by simp)).trans f3
      replace hs_x := Nat.lt_of_lt_of_le hs_x kd.size
      replace hs_f := Nat.lt_of_lt_of_le hs_f kd.size
      have Gd := Lib.hid (G2a.out.trans kd)
      clear kd
      generalize wA.drew = wB at *
      have CN := Lib.hid rnames
      go_wp2_with fail
      refine (CN.out _).mono ?_
      rintro e w3 ⟨rfl, g3, hz3, hc3⟩
      have HC := Lib.hid hc3
      clear hc3
      replace x0 := (g3.cell_far ⟨w.heap.size, 0, none⟩ hs_x (by simp)).trans x0
      replace x1 := (g3.cell_far ⟨w.heap.size, 1, none⟩ hs_x (by simp)).trans x1
      replace x2 := (g3.cell_far ⟨w.heap.size, 2, none⟩ hs_x (by simp)).trans x2
      replace x3 := (g3.cell_far ⟨w.heap.size, 3, none⟩ hs_x (by simp)).trans x3
      replace f0 := (g3.cell_far ⟨w2.heap.size, 0, none⟩ hs_f (by simp)).trans f0
      replace f1 := (g3.cell_far ⟨w2.heap.size, 1, none⟩ hs_f (by simp)).trans f1
      replace f2 := (g3.cell_far ⟨w2.heap.size, 2, none⟩ hs_f (by simp)).trans f2
      replace f3 := (g3.cell_far ⟨w2.heap.size, 3, none⟩ hs_f (by simp)).trans f3
      replace hs_x := Nat.lt_of_lt_of_le hs_x g3.size
      replace hs_f := Nat.lt_of_lt_of_le hs_f g3.size
      have G3 := Lib.hid (Gd.out.trans g3)
      clear g3
      go_wp2
      go_loopw [7, 67] (fun av iv wr => ∃ j : Nat, j ≤ 13 ∧ iv = .int .i64 (j : Int) ∧ av = .int .i64 (atN s j) ∧ wr = w3) (fun _ iv _ => 13 - (RowKit.intOf iv).toNat)
      case atStart => exact ⟨0, by decide, rfl, rfl, rfl⟩
      case round =>
        obtain ⟨j, hj, rfl, rfl, rfl⟩ := hrel
        by_cases hlt : j < 13
        · have hcj := HC.out j hlt
          have hat : atN s (j + 1) = if ((⟨fNm j⟩ : ByteArray).toList == s.toList) = true then (j : Int) else atN s j := rfl
          have HA := Lib.hid hat
          clear hat
          have qj : (j : Int) < 13 := by omega
          have qj0 : ¬ (j : Int) < 0 := by omega
          generalize fNm j = nm at *
          generalize atN s j = aj at *
          by_cases hq : ((⟨nm⟩ : ByteArray).toList == s.toList) = true
          · go_wp2
            go_roundw
            case rel => exact ⟨j + 1, by omega, by go_num, by rw [HA.out, if_pos hq], trivial⟩
            case measure => simp [RowKit.intOf]; omega
          · have hq2 : ((⟨nm⟩ : ByteArray).toList == s.toList) = false := by simpa using hq
            have HQ := Lib.hid hq
            clear hq
            go_wp2
            go_roundw
            case rel => exact ⟨j + 1, by omega, by go_num, by rw [HA.out, if_neg HQ.out], trivial⟩
            case measure => simp [RowKit.intOf]; omega
        · obtain rfl : j = 13 := by omega
          have CV := cnamed s (HT0.out.kept G3.out)
          clear HC
          obtain ⟨hv, hat⟩ | ⟨k2, hv, hat⟩ := atN_V s
          · rw [hv] at CV
            rw [hat]
            clear hat hv
            have CV2 := Lib.hid CV
            clear CV
            go_wp2_with fail
            refine CV2.out.mono ?_
            rintro e w4 ⟨rfl, g4⟩
            clear CV2
            replace x0 := (g4.cell_far ⟨w.heap.size, 0, none⟩ hs_x (by simp)).trans x0
            replace x1 := (g4.cell_far ⟨w.heap.size, 1, none⟩ hs_x (by simp)).trans x1
            replace x2 := (g4.cell_far ⟨w.heap.size, 2, none⟩ hs_x (by simp)).trans x2
            replace x3 := (g4.cell_far ⟨w.heap.size, 3, none⟩ hs_x (by simp)).trans x3
            replace f0 := (g4.cell_far ⟨w2.heap.size, 0, none⟩ hs_f (by simp)).trans f0
            replace f1 := (g4.cell_far ⟨w2.heap.size, 1, none⟩ hs_f (by simp)).trans f1
            replace f2 := (g4.cell_far ⟨w2.heap.size, 2, none⟩ hs_f (by simp)).trans f2
            replace f3 := (g4.cell_far ⟨w2.heap.size, 3, none⟩ hs_f (by simp)).trans f3
            replace hs_x := Nat.lt_of_lt_of_le hs_x g4.size
            replace hs_f := Nat.lt_of_lt_of_le hs_f g4.size
            have G4 := Lib.hid (G3.out.trans g4)
            clear g4
            go_wp2_with fail
            have G4d := Lib.hid (G4.out.trans (⟨rfl, rfl, rfl, Nat.le_refl _, fun _ _ _ => rfl⟩ : w4.grownBy w4.drew none))
            have hsd : w.heap.size < w4.drew.heap.size := hs_x
            refine wp_region_held_drew (S := fun w' => w'.cell? ⟨w.heap.size, 0, none⟩ = some (.int .i64 op) ∧ w'.cell? ⟨w.heap.size, 1, none⟩ = some (.int .u64 (a : Nat)) ∧ w'.cell? ⟨w.heap.size, 2, none⟩ = some (.int .u64 (b : Nat)) ∧ w'.cell? ⟨w.heap.size, 3, none⟩ = some (.int .u64 (c : Nat))) (by kernel_rfl) ⟨x0, x1, x2, x3⟩ (fun hHeld => ?_)
            refine wpAnyH_take (i := 0) (oi := ⟨_, _, _, _, _, _⟩) (v := ?_) rfl (by kernel_rfl) (by kernel_rfl) (by kernel_rfl) (fun _ _ _ h => h) (Or.inl ⟨by rfl, ?_⟩) (by assumption) ?_
            rotate_left
            · intro wz hSw
              try dsimp only at hSw
              go_simp
              try with_reducible rfl
            simp only [Act.put, List.setIfInBounds_toArray, List.set_cons_zero, List.set_cons_succ]
            refine wpAnyH_take (i := 1) (oi := ⟨_, _, _, _, _, _⟩) (v := ?_) rfl (by kernel_rfl) (by kernel_rfl) (by kernel_rfl) (fun _ _ _ h => h) (Or.inl ⟨by rfl, ?_⟩) (by assumption) ?_
            rotate_left
            · intro wz hSw
              try dsimp only at hSw
              go_simp
              try with_reducible rfl
            simp only [Act.put, List.setIfInBounds_toArray, List.set_cons_zero, List.set_cons_succ]
            refine wpAnyH_take (i := 2) (oi := ⟨_, _, _, _, _, _⟩) (v := ?_) rfl (by kernel_rfl) (by kernel_rfl) (by kernel_rfl) (fun _ _ _ h => h) (Or.inl ⟨by rfl, ?_⟩) (by assumption) ?_
            rotate_left
            · intro wz hSw
              try dsimp only at hSw
              go_simp
              try with_reducible rfl
            simp only [Act.put, List.setIfInBounds_toArray, List.set_cons_zero, List.set_cons_succ]
            refine wpAnyH_take (i := 3) (oi := ⟨_, _, _, _, _, _⟩) (v := ?_) rfl (by kernel_rfl) (by kernel_rfl) (by kernel_rfl) (fun _ _ _ h => h) (Or.inl ⟨by rfl, ?_⟩) (by assumption) ?_
            rotate_left
            · intro wz hSw
              try dsimp only at hSw
              go_simp
              try with_reducible rfl
            simp only [Act.put, List.setIfInBounds_toArray, List.set_cons_zero, List.set_cons_succ]
            refine wpAnyH_take (i := 4) (oi := ⟨_, _, _, _, _, _⟩) (v := ?_) rfl (by kernel_rfl) (by kernel_rfl) (by kernel_rfl) (fun _ _ _ h => h) (Or.inl ⟨by rfl, ?_⟩) (by assumption) ?_
            rotate_left
            · intro wz hSw
              try dsimp only at hSw
              go_simp
              try with_reducible rfl
            simp only [Act.put, List.setIfInBounds_toArray, List.set_cons_zero, List.set_cons_succ]
            refine wpAnyH_take (i := 5) (oi := ⟨_, _, _, _, _, _⟩) (v := ?_) rfl (by kernel_rfl) (by kernel_rfl) (by kernel_rfl) (fun _ _ _ h => h) (Or.inl ⟨by rfl, ?_⟩) (by assumption) ?_
            rotate_left
            · intro wz hSw
              try dsimp only at hSw
              go_simp
              try with_reducible rfl
            simp only [Act.put, List.setIfInBounds_toArray, List.set_cons_zero, List.set_cons_succ]
            refine wpAnyH_take (i := 6) (oi := ⟨_, _, _, _, _, _⟩) (v := ?_) rfl (by kernel_rfl) (by kernel_rfl) (by kernel_rfl) (fun _ _ _ h => h) (Or.inl ⟨by rfl, ?_⟩) (by assumption) ?_
            rotate_left
            · intro wz hSw
              try dsimp only at hSw
              go_simp
              try with_reducible rfl
            simp only [Act.put, List.setIfInBounds_toArray, List.set_cons_zero, List.set_cons_succ]
            refine wpAnyH_take (i := 7) (oi := ⟨_, _, _, _, _, _⟩) (v := ?_) rfl (by kernel_rfl) (by kernel_rfl) (by kernel_rfl) (fun _ _ _ h => h) (Or.inl ⟨by rfl, ?_⟩) (by assumption) ?_
            rotate_left
            · intro wz hSw
              try dsimp only at hSw
              go_simp
              try with_reducible rfl
            simp only [Act.put, List.setIfInBounds_toArray, List.set_cons_zero, List.set_cons_succ]
            refine wpAnyH_take (i := 8) (oi := ⟨_, _, _, _, _, _⟩) (v := ?_) rfl (by kernel_rfl) (by kernel_rfl) (by kernel_rfl) (fun _ _ _ h => h) (Or.inl ⟨by rfl, ?_⟩) (by assumption) ?_
            rotate_left
            · intro wz hSw
              try dsimp only at hSw
              go_simp
              try with_reducible rfl
            simp only [Act.put, List.setIfInBounds_toArray, List.set_cons_zero, List.set_cons_succ]
            refine wpAnyH_take (i := 9) (oi := ⟨_, _, _, _, _, _⟩) (v := ?_) rfl (by kernel_rfl) (by kernel_rfl) (by kernel_rfl) (fun _ _ _ h => h) (Or.inl ⟨by rfl, ?_⟩) (by assumption) ?_
            rotate_left
            · intro wz hSw
              try dsimp only at hSw
              go_simp
              try with_reducible rfl
            simp only [Act.put, List.setIfInBounds_toArray, List.set_cons_zero, List.set_cons_succ]
            refine wpAnyH_take (i := 10) (oi := ⟨_, _, _, _, _, _⟩) (v := ?_) rfl (by kernel_rfl) (by kernel_rfl) (by kernel_rfl) (fun _ _ _ h => h) (Or.inl ⟨by rfl, ?_⟩) (by assumption) ?_
            rotate_left
            · intro wz hSw
              try dsimp only at hSw
              go_simp
              try with_reducible rfl
            simp only [Act.put, List.setIfInBounds_toArray, List.set_cons_zero, List.set_cons_succ]
            refine wpAnyH_take (i := 11) (oi := ⟨_, _, _, _, _, _⟩) (v := ?_) rfl (by kernel_rfl) (by kernel_rfl) (by kernel_rfl) (fun _ _ _ h => h) (Or.inl ⟨by rfl, ?_⟩) (by assumption) ?_
            rotate_left
            · intro wz hSw
              try dsimp only at hSw
              go_simp
              try with_reducible rfl
            simp only [Act.put, List.setIfInBounds_toArray, List.set_cons_zero, List.set_cons_succ]
            refine wpAnyH_take (i := 13) (oi := ⟨_, _, _, _, _, _⟩) (v := ?_) rfl (by kernel_rfl) (by kernel_rfl) (by kernel_rfl) (fun _ _ _ h => h) (Or.inl ⟨by rfl, ?_⟩) (by assumption) ?_
            rotate_left
            · intro wz hSw
              try dsimp only at hSw
              go_simp
              try with_reducible rfl
            simp only [Act.put, List.setIfInBounds_toArray, List.set_cons_zero, List.set_cons_succ]
            refine wpAnyH_ready (rs := [12]) (by kernel_rfl) (by simp) ?_
            refine AllReadyH.cons (o := ⟨_, _, _, _, _, _⟩) rfl (fun K hK => ?_) AllReadyH.nil
            go_simp
            refine (CR0.out _ G4d.out).mono ?_
            rintro e wq1 ⟨rfl, q1⟩
            have y0 := (q1.cell_far ⟨w.heap.size, 0, none⟩ hsd (by simp)).trans x0
            have y1 := (q1.cell_far ⟨w.heap.size, 1, none⟩ hsd (by simp)).trans x1
            have y2 := (q1.cell_far ⟨w.heap.size, 2, none⟩ hsd (by simp)).trans x2
            have y3 := (q1.cell_far ⟨w.heap.size, 3, none⟩ hsd (by simp)).trans x3
            have Gq1 := Lib.hid (G4d.out.trans q1)
            have hsd1 := Nat.lt_of_lt_of_le hsd q1.size
            clear q1
            refine hK.out _ _ ⟨y0, y1, y2, y3⟩ (fun hHeld => ?_)
            clear hK K
            try simp only [Act.put, List.setIfInBounds_toArray, List.set_cons_zero, List.set_cons_succ]
            refine wpAnyH_ready (rs := [14]) (by kernel_rfl) (by simp) ?_
            refine AllReadyH.cons (o := ⟨_, _, _, _, _, _⟩) rfl (fun K hK => ?_) AllReadyH.nil
            go_simp
            refine (CR1.out _).mono ?_
            rintro e wq2 ⟨rfl, q2⟩
            have v0 := (q2.cell_far ⟨w.heap.size, 0, none⟩ hsd1 (by simp)).trans y0
            have v1 := (q2.cell_far ⟨w.heap.size, 1, none⟩ hsd1 (by simp)).trans y1
            have v2 := (q2.cell_far ⟨w.heap.size, 2, none⟩ hsd1 (by simp)).trans y2
            have v3 := (q2.cell_far ⟨w.heap.size, 3, none⟩ hsd1 (by simp)).trans y3
            have Gq2 := Lib.hid (Gq1.out.trans q2)
            clear q2
            refine hK.out _ _ ⟨v0, v1, v2, v3⟩ (fun hHeld => ?_)
            clear hK K
            try simp only [Act.put, List.setIfInBounds_toArray, List.set_cons_zero, List.set_cons_succ]
            refine wpAnyH_take (i := 15) (oi := ⟨_, _, _, _, _, _⟩) (v := ?_) rfl (by kernel_rfl) (by kernel_rfl) (by kernel_rfl) (fun _ _ _ h => h) (Or.inl ⟨by rfl, ?_⟩) (by assumption) ?_
            rotate_left
            · intro wz hSw
              try dsimp only at hSw
              go_simp
              try with_reducible rfl
            simp only [Act.put, List.setIfInBounds_toArray, List.set_cons_zero, List.set_cons_succ]
            refine wpAnyH_take (i := 16) (oi := ⟨_, _, _, _, _, _⟩) (v := ?_) rfl (by kernel_rfl) (by kernel_rfl) (by kernel_rfl) (fun _ _ _ h => h) (Or.inl ⟨by rfl, ?_⟩) (by assumption) ?_
            rotate_left
            · intro wz hSw
              try dsimp only at hSw
              go_simp
              try with_reducible rfl
            simp only [Act.put, List.setIfInBounds_toArray, List.set_cons_zero, List.set_cons_succ]
            refine wpAnyH_take (i := 17) (oi := ⟨_, _, _, _, _, _⟩) (v := ?_) rfl (by kernel_rfl) (by kernel_rfl) (by kernel_rfl) (fun _ _ _ h => h) (Or.inl ⟨by rfl, ?_⟩) (by assumption) ?_
            rotate_left
            · intro wz hSw
              try dsimp only at hSw
              go_simp
              try with_reducible rfl
            simp only [Act.put, List.setIfInBounds_toArray, List.set_cons_zero, List.set_cons_succ]
            refine wpAnyH_done (by kernel_rfl) ?_ _
            clear hHeld
            go_wp2
            go_ret
            exact ⟨by first | (simp; done) | (simp; omega) | (simp; decide), Gq2.out⟩
          · rw [hv] at CV
            rw [hat]
            clear hat hv
            have qm : (0 : Int) ≤ (k2 : Int) := by omega
            have qmx : (if (k2 : Int) < 0 then 0 else (k2 : Int)) = (k2 : Int) := by rw [if_neg]; omega
            have qmm : max (k2 : Int) 0 = (k2 : Int) := by omega
            have qge : (k2 : Int) ≥ 0 := by omega
            have CV2 := Lib.hid CV
            clear CV
            go_wp2_with fail
            refine CV2.out.mono ?_
            rintro e w4 ⟨rfl, g4⟩
            clear CV2
            replace x0 := (g4.cell_far ⟨w.heap.size, 0, none⟩ hs_x (by simp)).trans x0
            replace x1 := (g4.cell_far ⟨w.heap.size, 1, none⟩ hs_x (by simp)).trans x1
            replace x2 := (g4.cell_far ⟨w.heap.size, 2, none⟩ hs_x (by simp)).trans x2
            replace x3 := (g4.cell_far ⟨w.heap.size, 3, none⟩ hs_x (by simp)).trans x3
            replace f0 := (g4.cell_far ⟨w2.heap.size, 0, none⟩ hs_f (by simp)).trans f0
            replace f1 := (g4.cell_far ⟨w2.heap.size, 1, none⟩ hs_f (by simp)).trans f1
            replace f2 := (g4.cell_far ⟨w2.heap.size, 2, none⟩ hs_f (by simp)).trans f2
            replace f3 := (g4.cell_far ⟨w2.heap.size, 3, none⟩ hs_f (by simp)).trans f3
            replace hs_x := Nat.lt_of_lt_of_le hs_x g4.size
            replace hs_f := Nat.lt_of_lt_of_le hs_f g4.size
            have G4 := Lib.hid (G3.out.trans g4)
            clear g4
            go_wp2_with fail
            have G4d := Lib.hid (G4.out.trans (⟨rfl, rfl, rfl, Nat.le_refl _, fun _ _ _ => rfl⟩ : w4.grownBy w4.drew none))
            have hsd : w.heap.size < w4.drew.heap.size := hs_x
            refine wp_region_held_drew (S := fun w' => w'.cell? ⟨w.heap.size, 0, none⟩ = some (.int .i64 op) ∧ w'.cell? ⟨w.heap.size, 1, none⟩ = some (.int .u64 (a : Nat)) ∧ w'.cell? ⟨w.heap.size, 2, none⟩ = some (.int .u64 (b : Nat)) ∧ w'.cell? ⟨w.heap.size, 3, none⟩ = some (.int .u64 (c : Nat))) (by kernel_rfl) ⟨x0, x1, x2, x3⟩ (fun hHeld => ?_)
            refine wpAnyH_take (i := 0) (oi := ⟨_, _, _, _, _, _⟩) (v := ?_) rfl (by kernel_rfl) (by kernel_rfl) (by kernel_rfl) (fun _ _ _ h => h) (Or.inl ⟨by rfl, ?_⟩) (by assumption) ?_
            rotate_left
            · intro wz hSw
              try dsimp only at hSw
              go_simp
              try with_reducible rfl
            simp only [Act.put, List.setIfInBounds_toArray, List.set_cons_zero, List.set_cons_succ]
            refine wpAnyH_take (i := 1) (oi := ⟨_, _, _, _, _, _⟩) (v := ?_) rfl (by kernel_rfl) (by kernel_rfl) (by kernel_rfl) (fun _ _ _ h => h) (Or.inl ⟨by rfl, ?_⟩) (by assumption) ?_
            rotate_left
            · intro wz hSw
              try dsimp only at hSw
              go_simp
              try with_reducible rfl
            simp only [Act.put, List.setIfInBounds_toArray, List.set_cons_zero, List.set_cons_succ]
            refine wpAnyH_take (i := 2) (oi := ⟨_, _, _, _, _, _⟩) (v := ?_) rfl (by kernel_rfl) (by kernel_rfl) (by kernel_rfl) (fun _ _ _ h => h) (Or.inl ⟨by rfl, ?_⟩) (by assumption) ?_
            rotate_left
            · intro wz hSw
              try dsimp only at hSw
              go_simp
              try with_reducible rfl
            simp only [Act.put, List.setIfInBounds_toArray, List.set_cons_zero, List.set_cons_succ]
            refine wpAnyH_take (i := 3) (oi := ⟨_, _, _, _, _, _⟩) (v := ?_) rfl (by kernel_rfl) (by kernel_rfl) (by kernel_rfl) (fun _ _ _ h => h) (Or.inl ⟨by rfl, ?_⟩) (by assumption) ?_
            rotate_left
            · intro wz hSw
              try dsimp only at hSw
              go_simp
              try with_reducible rfl
            simp only [Act.put, List.setIfInBounds_toArray, List.set_cons_zero, List.set_cons_succ]
            refine wpAnyH_take (i := 4) (oi := ⟨_, _, _, _, _, _⟩) (v := ?_) rfl (by kernel_rfl) (by kernel_rfl) (by kernel_rfl) (fun _ _ _ h => h) (Or.inl ⟨by rfl, ?_⟩) (by assumption) ?_
            rotate_left
            · intro wz hSw
              try dsimp only at hSw
              go_simp
              try with_reducible rfl
            simp only [Act.put, List.setIfInBounds_toArray, List.set_cons_zero, List.set_cons_succ]
            refine wpAnyH_take (i := 5) (oi := ⟨_, _, _, _, _, _⟩) (v := ?_) rfl (by kernel_rfl) (by kernel_rfl) (by kernel_rfl) (fun _ _ _ h => h) (Or.inl ⟨by rfl, ?_⟩) (by assumption) ?_
            rotate_left
            · intro wz hSw
              try dsimp only at hSw
              go_simp
              try with_reducible rfl
            simp only [Act.put, List.setIfInBounds_toArray, List.set_cons_zero, List.set_cons_succ]
            refine wpAnyH_take (i := 6) (oi := ⟨_, _, _, _, _, _⟩) (v := ?_) rfl (by kernel_rfl) (by kernel_rfl) (by kernel_rfl) (fun _ _ _ h => h) (Or.inl ⟨by rfl, ?_⟩) (by assumption) ?_
            rotate_left
            · intro wz hSw
              try dsimp only at hSw
              go_simp
              try with_reducible rfl
            simp only [Act.put, List.setIfInBounds_toArray, List.set_cons_zero, List.set_cons_succ]
            refine wpAnyH_take (i := 7) (oi := ⟨_, _, _, _, _, _⟩) (v := ?_) rfl (by kernel_rfl) (by kernel_rfl) (by kernel_rfl) (fun _ _ _ h => h) (Or.inl ⟨by rfl, ?_⟩) (by assumption) ?_
            rotate_left
            · intro wz hSw
              try dsimp only at hSw
              go_simp
              try with_reducible rfl
            simp only [Act.put, List.setIfInBounds_toArray, List.set_cons_zero, List.set_cons_succ]
            refine wpAnyH_take (i := 8) (oi := ⟨_, _, _, _, _, _⟩) (v := ?_) rfl (by kernel_rfl) (by kernel_rfl) (by kernel_rfl) (fun _ _ _ h => h) (Or.inl ⟨by rfl, ?_⟩) (by assumption) ?_
            rotate_left
            · intro wz hSw
              try dsimp only at hSw
              go_simp
              try with_reducible rfl
            simp only [Act.put, List.setIfInBounds_toArray, List.set_cons_zero, List.set_cons_succ]
            refine wpAnyH_take (i := 9) (oi := ⟨_, _, _, _, _, _⟩) (v := ?_) rfl (by kernel_rfl) (by kernel_rfl) (by kernel_rfl) (fun _ _ _ h => h) (Or.inl ⟨by rfl, ?_⟩) (by assumption) ?_
            rotate_left
            · intro wz hSw
              try dsimp only at hSw
              go_simp
              try with_reducible rfl
            simp only [Act.put, List.setIfInBounds_toArray, List.set_cons_zero, List.set_cons_succ]
            refine wpAnyH_take (i := 10) (oi := ⟨_, _, _, _, _, _⟩) (v := ?_) rfl (by kernel_rfl) (by kernel_rfl) (by kernel_rfl) (fun _ _ _ h => h) (Or.inl ⟨by rfl, ?_⟩) (by assumption) ?_
            rotate_left
            · intro wz hSw
              try dsimp only at hSw
              go_simp
              try with_reducible rfl
            simp only [Act.put, List.setIfInBounds_toArray, List.set_cons_zero, List.set_cons_succ]
            refine wpAnyH_take (i := 11) (oi := ⟨_, _, _, _, _, _⟩) (v := ?_) rfl (by kernel_rfl) (by kernel_rfl) (by kernel_rfl) (fun _ _ _ h => h) (Or.inl ⟨by rfl, ?_⟩) (by assumption) ?_
            rotate_left
            · intro wz hSw
              try dsimp only at hSw
              go_simp
              try with_reducible rfl
            simp only [Act.put, List.setIfInBounds_toArray, List.set_cons_zero, List.set_cons_succ]
            refine wpAnyH_take (i := 13) (oi := ⟨_, _, _, _, _, _⟩) (v := ?_) rfl (by kernel_rfl) (by kernel_rfl) (by kernel_rfl) (fun _ _ _ h => h) (Or.inl ⟨by rfl, ?_⟩) (by assumption) ?_
            rotate_left
            · intro wz hSw
              try dsimp only at hSw
              go_simp
              try with_reducible rfl
            simp only [Act.put, List.setIfInBounds_toArray, List.set_cons_zero, List.set_cons_succ]
            refine wpAnyH_ready (rs := [12]) (by kernel_rfl) (by simp) ?_
            refine AllReadyH.cons (o := ⟨_, _, _, _, _, _⟩) rfl (fun K hK => ?_) AllReadyH.nil
            go_simp
            refine (CR0.out _ G4d.out).mono ?_
            rintro e wq1 ⟨rfl, q1⟩
            have y0 := (q1.cell_far ⟨w.heap.size, 0, none⟩ hsd (by simp)).trans x0
            have y1 := (q1.cell_far ⟨w.heap.size, 1, none⟩ hsd (by simp)).trans x1
            have y2 := (q1.cell_far ⟨w.heap.size, 2, none⟩ hsd (by simp)).trans x2
            have y3 := (q1.cell_far ⟨w.heap.size, 3, none⟩ hsd (by simp)).trans x3
            have Gq1 := Lib.hid (G4d.out.trans q1)
            have hsd1 := Nat.lt_of_lt_of_le hsd q1.size
            clear q1
            refine hK.out _ _ ⟨y0, y1, y2, y3⟩ (fun hHeld => ?_)
            clear hK K
            try simp only [Act.put, List.setIfInBounds_toArray, List.set_cons_zero, List.set_cons_succ]
            refine wpAnyH_ready (rs := [14]) (by kernel_rfl) (by simp) ?_
            refine AllReadyH.cons (o := ⟨_, _, _, _, _, _⟩) rfl (fun K hK => ?_) AllReadyH.nil
            go_simp
            refine (CR1.out _).mono ?_
            rintro e wq2 ⟨rfl, q2⟩
            have v0 := (q2.cell_far ⟨w.heap.size, 0, none⟩ hsd1 (by simp)).trans y0
            have v1 := (q2.cell_far ⟨w.heap.size, 1, none⟩ hsd1 (by simp)).trans y1
            have v2 := (q2.cell_far ⟨w.heap.size, 2, none⟩ hsd1 (by simp)).trans y2
            have v3 := (q2.cell_far ⟨w.heap.size, 3, none⟩ hsd1 (by simp)).trans y3
            have Gq2 := Lib.hid (Gq1.out.trans q2)
            clear q2
            refine hK.out _ _ ⟨v0, v1, v2, v3⟩ (fun hHeld => ?_)
            clear hK K
            try simp only [Act.put, List.setIfInBounds_toArray, List.set_cons_zero, List.set_cons_succ]
            refine wpAnyH_take (i := 15) (oi := ⟨_, _, _, _, _, _⟩) (v := ?_) rfl (by kernel_rfl) (by kernel_rfl) (by kernel_rfl) (fun _ _ _ h => h) (Or.inl ⟨by rfl, ?_⟩) (by assumption) ?_
            rotate_left
            · intro wz hSw
              try dsimp only at hSw
              go_simp
              try with_reducible rfl
            simp only [Act.put, List.setIfInBounds_toArray, List.set_cons_zero, List.set_cons_succ]
            refine wpAnyH_take (i := 16) (oi := ⟨_, _, _, _, _, _⟩) (v := ?_) rfl (by kernel_rfl) (by kernel_rfl) (by kernel_rfl) (fun _ _ _ h => h) (Or.inl ⟨by rfl, ?_⟩) (by assumption) ?_
            rotate_left
            · intro wz hSw
              try dsimp only at hSw
              go_simp
              try with_reducible rfl
            simp only [Act.put, List.setIfInBounds_toArray, List.set_cons_zero, List.set_cons_succ]
            refine wpAnyH_take (i := 17) (oi := ⟨_, _, _, _, _, _⟩) (v := ?_) rfl (by kernel_rfl) (by kernel_rfl) (by kernel_rfl) (fun _ _ _ h => h) (Or.inl ⟨by rfl, ?_⟩) (by assumption) ?_
            rotate_left
            · intro wz hSw
              try dsimp only at hSw
              go_simp
              try with_reducible rfl
            simp only [Act.put, List.setIfInBounds_toArray, List.set_cons_zero, List.set_cons_succ]
            refine wpAnyH_done (by kernel_rfl) ?_ _
            clear hHeld
            go_wp2
            go_ret
            exact ⟨by first | (simp; done) | (simp; omega) | (simp; decide), Gq2.out⟩
    · skip
      have q0 : op ≥ 0 := by omega
      have q1 : ¬ op < 13 := by omega
      clear h0
      go_wp2_with fail
      generalize hWA : (w2.alloc (.cells #[.string ⟨#[]⟩, .int .i64 0, .int .i64 0, .int .i64 0] 27)) = wA at *
      clear hWA
      refine wp_region_held_drew (S := fun w' => True) (by kernel_rfl) trivial (fun hHeld => ?_)
      refine wpAnyH_take (i := 0) (oi := ⟨_, _, _, _, _, _⟩) (v := ?_) rfl (by kernel_rfl) (by kernel_rfl) (by kernel_rfl) (fun _ _ _ h => h) (Or.inl ⟨by rfl, ?_⟩) (by assumption) ?_
      rotate_left
      · intro wz hSw
        try dsimp only at hSw
        go_simp
        try with_reducible rfl
      simp only [Act.put, List.setIfInBounds_toArray, List.set_cons_zero, List.set_cons_succ]
      refine wpAnyH_take (i := 1) (oi := ⟨_, _, _, _, _, _⟩) (v := ?_) rfl (by kernel_rfl) (by kernel_rfl) (by kernel_rfl) (fun _ _ _ h => h) (Or.inl ⟨by rfl, ?_⟩) (by assumption) ?_
      rotate_left
      · intro wz hSw
        try dsimp only at hSw
        go_simp
        try with_reducible rfl
      simp only [Act.put, List.setIfInBounds_toArray, List.set_cons_zero, List.set_cons_succ]
      refine wpAnyH_take (i := 2) (oi := ⟨_, _, _, _, _, _⟩) (v := undef) rfl (by kernel_rfl) (by kernel_rfl) (by kernel_rfl) (fun _ _ _ h => h) (Or.inr ⟨by rfl, rfl⟩) (by assumption) ?_
      simp only [Act.put, List.setIfInBounds_toArray, List.set_cons_zero, List.set_cons_succ]
      refine wpAnyH_take (i := 3) (oi := ⟨_, _, _, _, _, _⟩) (v := undef) rfl (by kernel_rfl) (by kernel_rfl) (by kernel_rfl) (fun _ _ _ h => h) (Or.inr ⟨by rfl, rfl⟩) (by assumption) ?_
      simp only [Act.put, List.setIfInBounds_toArray, List.set_cons_zero, List.set_cons_succ]
      refine wpAnyH_take (i := 4) (oi := ⟨_, _, _, _, _, _⟩) (v := undef) rfl (by kernel_rfl) (by kernel_rfl) (by kernel_rfl) (fun _ _ _ h => h) (Or.inr ⟨by rfl, rfl⟩) (by assumption) ?_
      simp only [Act.put, List.setIfInBounds_toArray, List.set_cons_zero, List.set_cons_succ]
      refine wpAnyH_take (i := 5) (oi := ⟨_, _, _, _, _, _⟩) (v := undef) rfl (by kernel_rfl) (by kernel_rfl) (by kernel_rfl) (fun _ _ _ h => h) (Or.inr ⟨by rfl, rfl⟩) (by assumption) ?_
      simp only [Act.put, List.setIfInBounds_toArray, List.set_cons_zero, List.set_cons_succ]
      refine wpAnyH_take (i := 6) (oi := ⟨_, _, _, _, _, _⟩) (v := undef) rfl (by kernel_rfl) (by kernel_rfl) (by kernel_rfl) (fun _ _ _ h => h) (Or.inr ⟨by rfl, rfl⟩) (by assumption) ?_
      simp only [Act.put, List.setIfInBounds_toArray, List.set_cons_zero, List.set_cons_succ]
      refine wpAnyH_take (i := 7) (oi := ⟨_, _, _, _, _, _⟩) (v := undef) rfl (by kernel_rfl) (by kernel_rfl) (by kernel_rfl) (fun _ _ _ h => h) (Or.inr ⟨by rfl, rfl⟩) (by assumption) ?_
      simp only [Act.put, List.setIfInBounds_toArray, List.set_cons_zero, List.set_cons_succ]
      refine wpAnyH_take (i := 8) (oi := ⟨_, _, _, _, _, _⟩) (v := undef) rfl (by kernel_rfl) (by kernel_rfl) (by kernel_rfl) (fun _ _ _ h => h) (Or.inr ⟨by rfl, rfl⟩) (by assumption) ?_
      simp only [Act.put, List.setIfInBounds_toArray, List.set_cons_zero, List.set_cons_succ]
      refine wpAnyH_take (i := 9) (oi := ⟨_, _, _, _, _, _⟩) (v := undef) rfl (by kernel_rfl) (by kernel_rfl) (by kernel_rfl) (fun _ _ _ h => h) (Or.inr ⟨by rfl, rfl⟩) (by assumption) ?_
      simp only [Act.put, List.setIfInBounds_toArray, List.set_cons_zero, List.set_cons_succ]
      refine wpAnyH_take (i := 10) (oi := ⟨_, _, _, _, _, _⟩) (v := undef) rfl (by kernel_rfl) (by kernel_rfl) (by kernel_rfl) (fun _ _ _ h => h) (Or.inr ⟨by rfl, rfl⟩) (by assumption) ?_
      simp only [Act.put, List.setIfInBounds_toArray, List.set_cons_zero, List.set_cons_succ]
      refine wpAnyH_take (i := 11) (oi := ⟨_, _, _, _, _, _⟩) (v := undef) rfl (by kernel_rfl) (by kernel_rfl) (by kernel_rfl) (fun _ _ _ h => h) (Or.inr ⟨by rfl, rfl⟩) (by assumption) ?_
      simp only [Act.put, List.setIfInBounds_toArray, List.set_cons_zero, List.set_cons_succ]
      refine wpAnyH_take (i := 12) (oi := ⟨_, _, _, _, _, _⟩) (v := undef) rfl (by kernel_rfl) (by kernel_rfl) (by kernel_rfl) (fun _ _ _ h => h) (Or.inr ⟨by rfl, rfl⟩) (by assumption) ?_
      simp only [Act.put, List.setIfInBounds_toArray, List.set_cons_zero, List.set_cons_succ]
      refine wpAnyH_take (i := 13) (oi := ⟨_, _, _, _, _, _⟩) (v := undef) rfl (by kernel_rfl) (by kernel_rfl) (by kernel_rfl) (fun _ _ _ h => h) (Or.inr ⟨by rfl, rfl⟩) (by assumption) ?_
      simp only [Act.put, List.setIfInBounds_toArray, List.set_cons_zero, List.set_cons_succ]
      refine wpAnyH_take (i := 14) (oi := ⟨_, _, _, _, _, _⟩) (v := undef) rfl (by kernel_rfl) (by kernel_rfl) (by kernel_rfl) (fun _ _ _ h => h) (Or.inr ⟨by rfl, rfl⟩) (by assumption) ?_
      simp only [Act.put, List.setIfInBounds_toArray, List.set_cons_zero, List.set_cons_succ]
      refine wpAnyH_take (i := 15) (oi := ⟨_, _, _, _, _, _⟩) (v := undef) rfl (by kernel_rfl) (by kernel_rfl) (by kernel_rfl) (fun _ _ _ h => h) (Or.inr ⟨by rfl, rfl⟩) (by assumption) ?_
      simp only [Act.put, List.setIfInBounds_toArray, List.set_cons_zero, List.set_cons_succ]
      refine wpAnyH_take (i := 16) (oi := ⟨_, _, _, _, _, _⟩) (v := undef) rfl (by kernel_rfl) (by kernel_rfl) (by kernel_rfl) (fun _ _ _ h => h) (Or.inr ⟨by rfl, rfl⟩) (by assumption) ?_
      simp only [Act.put, List.setIfInBounds_toArray, List.set_cons_zero, List.set_cons_succ]
      refine wpAnyH_take (i := 17) (oi := ⟨_, _, _, _, _, _⟩) (v := undef) rfl (by kernel_rfl) (by kernel_rfl) (by kernel_rfl) (fun _ _ _ h => h) (Or.inr ⟨by rfl, rfl⟩) (by assumption) ?_
      simp only [Act.put, List.setIfInBounds_toArray, List.set_cons_zero, List.set_cons_succ]
      refine wpAnyH_take (i := 18) (oi := ⟨_, _, _, _, _, _⟩) (v := undef) rfl (by kernel_rfl) (by kernel_rfl) (by kernel_rfl) (fun _ _ _ h => h) (Or.inr ⟨by rfl, rfl⟩) (by assumption) ?_
      simp only [Act.put, List.setIfInBounds_toArray, List.set_cons_zero, List.set_cons_succ]
      refine wpAnyH_take (i := 19) (oi := ⟨_, _, _, _, _, _⟩) (v := undef) rfl (by kernel_rfl) (by kernel_rfl) (by kernel_rfl) (fun _ _ _ h => h) (Or.inr ⟨by rfl, rfl⟩) (by assumption) ?_
      simp only [Act.put, List.setIfInBounds_toArray, List.set_cons_zero, List.set_cons_succ]
      refine wpAnyH_take (i := 20) (oi := ⟨_, _, _, _, _, _⟩) (v := undef) rfl (by kernel_rfl) (by kernel_rfl) (by kernel_rfl) (fun _ _ _ h => h) (Or.inr ⟨by rfl, rfl⟩) (by assumption) ?_
      simp only [Act.put, List.setIfInBounds_toArray, List.set_cons_zero, List.set_cons_succ]
      refine wpAnyH_take (i := 21) (oi := ⟨_, _, _, _, _, _⟩) (v := undef) rfl (by kernel_rfl) (by kernel_rfl) (by kernel_rfl) (fun _ _ _ h => h) (Or.inr ⟨by rfl, rfl⟩) (by assumption) ?_
      simp only [Act.put, List.setIfInBounds_toArray, List.set_cons_zero, List.set_cons_succ]
      refine wpAnyH_take (i := 22) (oi := ⟨_, _, _, _, _, _⟩) (v := undef) rfl (by kernel_rfl) (by kernel_rfl) (by kernel_rfl) (fun _ _ _ h => h) (Or.inr ⟨by rfl, rfl⟩) (by assumption) ?_
      simp only [Act.put, List.setIfInBounds_toArray, List.set_cons_zero, List.set_cons_succ]
      refine wpAnyH_take (i := 23) (oi := ⟨_, _, _, _, _, _⟩) (v := undef) rfl (by kernel_rfl) (by kernel_rfl) (by kernel_rfl) (fun _ _ _ h => h) (Or.inr ⟨by rfl, rfl⟩) (by assumption) ?_
      simp only [Act.put, List.setIfInBounds_toArray, List.set_cons_zero, List.set_cons_succ]
      refine wpAnyH_take (i := 24) (oi := ⟨_, _, _, _, _, _⟩) (v := undef) rfl (by kernel_rfl) (by kernel_rfl) (by kernel_rfl) (fun _ _ _ h => h) (Or.inr ⟨by rfl, rfl⟩) (by assumption) ?_
      simp only [Act.put, List.setIfInBounds_toArray, List.set_cons_zero, List.set_cons_succ]
      refine wpAnyH_take (i := 25) (oi := ⟨_, _, _, _, _, _⟩) (v := ?_) rfl (by kernel_rfl) (by kernel_rfl) (by kernel_rfl) (fun _ _ _ h => h) (Or.inl ⟨by rfl, ?_⟩) (by assumption) ?_
      rotate_left
      · intro wz hSw
        try dsimp only at hSw
        go_simp
        try with_reducible rfl
      simp only [Act.put, List.setIfInBounds_toArray, List.set_cons_zero, List.set_cons_succ]
      refine wpAnyH_done (by kernel_rfl) ?_ _
      clear hHeld
      have kd := (⟨rfl, rfl, rfl, Nat.le_refl _, fun _ _ _ => rfl⟩ : wA.grownBy wA.drew none)
      replace x0 := (kd.cell_far ⟨w.heap.size, 0, none⟩ hs_x (by simp)).trans x0
      replace x1 := (kd.cell_far ⟨w.heap.size, 1, none⟩ hs_x (by simp)).trans x1
      replace x2 := (kd.cell_far ⟨w.heap.size, 2, none⟩ hs_x (by simp)).trans x2
      replace x3 := (kd.cell_far ⟨w.heap.size, 3, none⟩ hs_x (by simp)).trans x3
      replace f0 := (kd.cell_far ⟨w2.heap.size, 0, none⟩ hs_f (by simp)).trans f0
      replace f1 := (kd.cell_far ⟨w2.heap.size, 1, none⟩ hs_f (by simp)).trans f1
      replace f2 := (kd.cell_far ⟨w2.heap.size, 2, none⟩ hs_f (by simp)).trans f2
      replace f3 := (kd.cell_far ⟨w2.heap.size, 3, none⟩ hs_f (by simp)).trans f3
      replace hs_x := Nat.lt_of_lt_of_le hs_x kd.size
      replace hs_f := Nat.lt_of_lt_of_le hs_f kd.size
      have Gd := Lib.hid (G2a.out.trans kd)
      clear kd
      generalize wA.drew = wB at *
      have CN := Lib.hid rnames
      go_wp2_with fail
      refine (CN.out _).mono ?_
      rintro e w3 ⟨rfl, g3, hz3, hc3⟩
      have HC := Lib.hid hc3
      clear hc3
      replace x0 := (g3.cell_far ⟨w.heap.size, 0, none⟩ hs_x (by simp)).trans x0
      replace x1 := (g3.cell_far ⟨w.heap.size, 1, none⟩ hs_x (by simp)).trans x1
      replace x2 := (g3.cell_far ⟨w.heap.size, 2, none⟩ hs_x (by simp)).trans x2
      replace x3 := (g3.cell_far ⟨w.heap.size, 3, none⟩ hs_x (by simp)).trans x3
      replace f0 := (g3.cell_far ⟨w2.heap.size, 0, none⟩ hs_f (by simp)).trans f0
      replace f1 := (g3.cell_far ⟨w2.heap.size, 1, none⟩ hs_f (by simp)).trans f1
      replace f2 := (g3.cell_far ⟨w2.heap.size, 2, none⟩ hs_f (by simp)).trans f2
      replace f3 := (g3.cell_far ⟨w2.heap.size, 3, none⟩ hs_f (by simp)).trans f3
      replace hs_x := Nat.lt_of_lt_of_le hs_x g3.size
      replace hs_f := Nat.lt_of_lt_of_le hs_f g3.size
      have G3 := Lib.hid (Gd.out.trans g3)
      clear g3
      go_wp2
      go_loopw [7, 67] (fun av iv wr => ∃ j : Nat, j ≤ 13 ∧ iv = .int .i64 (j : Int) ∧ av = .int .i64 (atN s j) ∧ wr = w3) (fun _ iv _ => 13 - (RowKit.intOf iv).toNat)
      case atStart => exact ⟨0, by decide, rfl, rfl, rfl⟩
      case round =>
        obtain ⟨j, hj, rfl, rfl, rfl⟩ := hrel
        by_cases hlt : j < 13
        · have hcj := HC.out j hlt
          have hat : atN s (j + 1) = if ((⟨fNm j⟩ : ByteArray).toList == s.toList) = true then (j : Int) else atN s j := rfl
          have HA := Lib.hid hat
          clear hat
          have qj : (j : Int) < 13 := by omega
          have qj0 : ¬ (j : Int) < 0 := by omega
          generalize fNm j = nm at *
          generalize atN s j = aj at *
          by_cases hq : ((⟨nm⟩ : ByteArray).toList == s.toList) = true
          · go_wp2
            go_roundw
            case rel => exact ⟨j + 1, by omega, by go_num, by rw [HA.out, if_pos hq], trivial⟩
            case measure => simp [RowKit.intOf]; omega
          · have hq2 : ((⟨nm⟩ : ByteArray).toList == s.toList) = false := by simpa using hq
            have HQ := Lib.hid hq
            clear hq
            go_wp2
            go_roundw
            case rel => exact ⟨j + 1, by omega, by go_num, by rw [HA.out, if_neg HQ.out], trivial⟩
            case measure => simp [RowKit.intOf]; omega
        · obtain rfl : j = 13 := by omega
          have CV := cnamed s (HT0.out.kept G3.out)
          clear HC
          obtain ⟨hv, hat⟩ | ⟨k2, hv, hat⟩ := atN_V s
          · rw [hv] at CV
            rw [hat]
            clear hat hv
            have CV2 := Lib.hid CV
            clear CV
            go_wp2_with fail
            refine CV2.out.mono ?_
            rintro e w4 ⟨rfl, g4⟩
            clear CV2
            replace x0 := (g4.cell_far ⟨w.heap.size, 0, none⟩ hs_x (by simp)).trans x0
            replace x1 := (g4.cell_far ⟨w.heap.size, 1, none⟩ hs_x (by simp)).trans x1
            replace x2 := (g4.cell_far ⟨w.heap.size, 2, none⟩ hs_x (by simp)).trans x2
            replace x3 := (g4.cell_far ⟨w.heap.size, 3, none⟩ hs_x (by simp)).trans x3
            replace f0 := (g4.cell_far ⟨w2.heap.size, 0, none⟩ hs_f (by simp)).trans f0
            replace f1 := (g4.cell_far ⟨w2.heap.size, 1, none⟩ hs_f (by simp)).trans f1
            replace f2 := (g4.cell_far ⟨w2.heap.size, 2, none⟩ hs_f (by simp)).trans f2
            replace f3 := (g4.cell_far ⟨w2.heap.size, 3, none⟩ hs_f (by simp)).trans f3
            replace hs_x := Nat.lt_of_lt_of_le hs_x g4.size
            replace hs_f := Nat.lt_of_lt_of_le hs_f g4.size
            have G4 := Lib.hid (G3.out.trans g4)
            clear g4
            go_wp2_with fail
            have G4d := Lib.hid (G4.out.trans (⟨rfl, rfl, rfl, Nat.le_refl _, fun _ _ _ => rfl⟩ : w4.grownBy w4.drew none))
            have hsd : w.heap.size < w4.drew.heap.size := hs_x
            refine wp_region_held_drew (S := fun w' => w'.cell? ⟨w.heap.size, 0, none⟩ = some (.int .i64 op) ∧ w'.cell? ⟨w.heap.size, 1, none⟩ = some (.int .u64 (a : Nat)) ∧ w'.cell? ⟨w.heap.size, 2, none⟩ = some (.int .u64 (b : Nat)) ∧ w'.cell? ⟨w.heap.size, 3, none⟩ = some (.int .u64 (c : Nat))) (by kernel_rfl) ⟨x0, x1, x2, x3⟩ (fun hHeld => ?_)
            refine wpAnyH_take (i := 0) (oi := ⟨_, _, _, _, _, _⟩) (v := ?_) rfl (by kernel_rfl) (by kernel_rfl) (by kernel_rfl) (fun _ _ _ h => h) (Or.inl ⟨by rfl, ?_⟩) (by assumption) ?_
            rotate_left
            · intro wz hSw
              try dsimp only at hSw
              go_simp
              try with_reducible rfl
            simp only [Act.put, List.setIfInBounds_toArray, List.set_cons_zero, List.set_cons_succ]
            refine wpAnyH_take (i := 1) (oi := ⟨_, _, _, _, _, _⟩) (v := ?_) rfl (by kernel_rfl) (by kernel_rfl) (by kernel_rfl) (fun _ _ _ h => h) (Or.inl ⟨by rfl, ?_⟩) (by assumption) ?_
            rotate_left
            · intro wz hSw
              try dsimp only at hSw
              go_simp
              try with_reducible rfl
            simp only [Act.put, List.setIfInBounds_toArray, List.set_cons_zero, List.set_cons_succ]
            refine wpAnyH_take (i := 2) (oi := ⟨_, _, _, _, _, _⟩) (v := ?_) rfl (by kernel_rfl) (by kernel_rfl) (by kernel_rfl) (fun _ _ _ h => h) (Or.inl ⟨by rfl, ?_⟩) (by assumption) ?_
            rotate_left
            · intro wz hSw
              try dsimp only at hSw
              go_simp
              try with_reducible rfl
            simp only [Act.put, List.setIfInBounds_toArray, List.set_cons_zero, List.set_cons_succ]
            refine wpAnyH_take (i := 3) (oi := ⟨_, _, _, _, _, _⟩) (v := ?_) rfl (by kernel_rfl) (by kernel_rfl) (by kernel_rfl) (fun _ _ _ h => h) (Or.inl ⟨by rfl, ?_⟩) (by assumption) ?_
            rotate_left
            · intro wz hSw
              try dsimp only at hSw
              go_simp
              try with_reducible rfl
            simp only [Act.put, List.setIfInBounds_toArray, List.set_cons_zero, List.set_cons_succ]
            refine wpAnyH_take (i := 4) (oi := ⟨_, _, _, _, _, _⟩) (v := ?_) rfl (by kernel_rfl) (by kernel_rfl) (by kernel_rfl) (fun _ _ _ h => h) (Or.inl ⟨by rfl, ?_⟩) (by assumption) ?_
            rotate_left
            · intro wz hSw
              try dsimp only at hSw
              go_simp
              try with_reducible rfl
            simp only [Act.put, List.setIfInBounds_toArray, List.set_cons_zero, List.set_cons_succ]
            refine wpAnyH_take (i := 5) (oi := ⟨_, _, _, _, _, _⟩) (v := ?_) rfl (by kernel_rfl) (by kernel_rfl) (by kernel_rfl) (fun _ _ _ h => h) (Or.inl ⟨by rfl, ?_⟩) (by assumption) ?_
            rotate_left
            · intro wz hSw
              try dsimp only at hSw
              go_simp
              try with_reducible rfl
            simp only [Act.put, List.setIfInBounds_toArray, List.set_cons_zero, List.set_cons_succ]
            refine wpAnyH_take (i := 6) (oi := ⟨_, _, _, _, _, _⟩) (v := ?_) rfl (by kernel_rfl) (by kernel_rfl) (by kernel_rfl) (fun _ _ _ h => h) (Or.inl ⟨by rfl, ?_⟩) (by assumption) ?_
            rotate_left
            · intro wz hSw
              try dsimp only at hSw
              go_simp
              try with_reducible rfl
            simp only [Act.put, List.setIfInBounds_toArray, List.set_cons_zero, List.set_cons_succ]
            refine wpAnyH_take (i := 7) (oi := ⟨_, _, _, _, _, _⟩) (v := ?_) rfl (by kernel_rfl) (by kernel_rfl) (by kernel_rfl) (fun _ _ _ h => h) (Or.inl ⟨by rfl, ?_⟩) (by assumption) ?_
            rotate_left
            · intro wz hSw
              try dsimp only at hSw
              go_simp
              try with_reducible rfl
            simp only [Act.put, List.setIfInBounds_toArray, List.set_cons_zero, List.set_cons_succ]
            refine wpAnyH_take (i := 8) (oi := ⟨_, _, _, _, _, _⟩) (v := ?_) rfl (by kernel_rfl) (by kernel_rfl) (by kernel_rfl) (fun _ _ _ h => h) (Or.inl ⟨by rfl, ?_⟩) (by assumption) ?_
            rotate_left
            · intro wz hSw
              try dsimp only at hSw
              go_simp
              try with_reducible rfl
            simp only [Act.put, List.setIfInBounds_toArray, List.set_cons_zero, List.set_cons_succ]
            refine wpAnyH_take (i := 9) (oi := ⟨_, _, _, _, _, _⟩) (v := ?_) rfl (by kernel_rfl) (by kernel_rfl) (by kernel_rfl) (fun _ _ _ h => h) (Or.inl ⟨by rfl, ?_⟩) (by assumption) ?_
            rotate_left
            · intro wz hSw
              try dsimp only at hSw
              go_simp
              try with_reducible rfl
            simp only [Act.put, List.setIfInBounds_toArray, List.set_cons_zero, List.set_cons_succ]
            refine wpAnyH_take (i := 10) (oi := ⟨_, _, _, _, _, _⟩) (v := ?_) rfl (by kernel_rfl) (by kernel_rfl) (by kernel_rfl) (fun _ _ _ h => h) (Or.inl ⟨by rfl, ?_⟩) (by assumption) ?_
            rotate_left
            · intro wz hSw
              try dsimp only at hSw
              go_simp
              try with_reducible rfl
            simp only [Act.put, List.setIfInBounds_toArray, List.set_cons_zero, List.set_cons_succ]
            refine wpAnyH_take (i := 11) (oi := ⟨_, _, _, _, _, _⟩) (v := ?_) rfl (by kernel_rfl) (by kernel_rfl) (by kernel_rfl) (fun _ _ _ h => h) (Or.inl ⟨by rfl, ?_⟩) (by assumption) ?_
            rotate_left
            · intro wz hSw
              try dsimp only at hSw
              go_simp
              try with_reducible rfl
            simp only [Act.put, List.setIfInBounds_toArray, List.set_cons_zero, List.set_cons_succ]
            refine wpAnyH_take (i := 13) (oi := ⟨_, _, _, _, _, _⟩) (v := ?_) rfl (by kernel_rfl) (by kernel_rfl) (by kernel_rfl) (fun _ _ _ h => h) (Or.inl ⟨by rfl, ?_⟩) (by assumption) ?_
            rotate_left
            · intro wz hSw
              try dsimp only at hSw
              go_simp
              try with_reducible rfl
            simp only [Act.put, List.setIfInBounds_toArray, List.set_cons_zero, List.set_cons_succ]
            refine wpAnyH_ready (rs := [12]) (by kernel_rfl) (by simp) ?_
            refine AllReadyH.cons (o := ⟨_, _, _, _, _, _⟩) rfl (fun K hK => ?_) AllReadyH.nil
            go_simp
            refine (CR0.out _ G4d.out).mono ?_
            rintro e wq1 ⟨rfl, q1⟩
            have y0 := (q1.cell_far ⟨w.heap.size, 0, none⟩ hsd (by simp)).trans x0
            have y1 := (q1.cell_far ⟨w.heap.size, 1, none⟩ hsd (by simp)).trans x1
            have y2 := (q1.cell_far ⟨w.heap.size, 2, none⟩ hsd (by simp)).trans x2
            have y3 := (q1.cell_far ⟨w.heap.size, 3, none⟩ hsd (by simp)).trans x3
            have Gq1 := Lib.hid (G4d.out.trans q1)
            have hsd1 := Nat.lt_of_lt_of_le hsd q1.size
            clear q1
            refine hK.out _ _ ⟨y0, y1, y2, y3⟩ (fun hHeld => ?_)
            clear hK K
            try simp only [Act.put, List.setIfInBounds_toArray, List.set_cons_zero, List.set_cons_succ]
            refine wpAnyH_ready (rs := [14]) (by kernel_rfl) (by simp) ?_
            refine AllReadyH.cons (o := ⟨_, _, _, _, _, _⟩) rfl (fun K hK => ?_) AllReadyH.nil
            go_simp
            refine (CR1.out _).mono ?_
            rintro e wq2 ⟨rfl, q2⟩
            have v0 := (q2.cell_far ⟨w.heap.size, 0, none⟩ hsd1 (by simp)).trans y0
            have v1 := (q2.cell_far ⟨w.heap.size, 1, none⟩ hsd1 (by simp)).trans y1
            have v2 := (q2.cell_far ⟨w.heap.size, 2, none⟩ hsd1 (by simp)).trans y2
            have v3 := (q2.cell_far ⟨w.heap.size, 3, none⟩ hsd1 (by simp)).trans y3
            have Gq2 := Lib.hid (Gq1.out.trans q2)
            clear q2
            refine hK.out _ _ ⟨v0, v1, v2, v3⟩ (fun hHeld => ?_)
            clear hK K
            try simp only [Act.put, List.setIfInBounds_toArray, List.set_cons_zero, List.set_cons_succ]
            refine wpAnyH_take (i := 15) (oi := ⟨_, _, _, _, _, _⟩) (v := ?_) rfl (by kernel_rfl) (by kernel_rfl) (by kernel_rfl) (fun _ _ _ h => h) (Or.inl ⟨by rfl, ?_⟩) (by assumption) ?_
            rotate_left
            · intro wz hSw
              try dsimp only at hSw
              go_simp
              try with_reducible rfl
            simp only [Act.put, List.setIfInBounds_toArray, List.set_cons_zero, List.set_cons_succ]
            refine wpAnyH_take (i := 16) (oi := ⟨_, _, _, _, _, _⟩) (v := ?_) rfl (by kernel_rfl) (by kernel_rfl) (by kernel_rfl) (fun _ _ _ h => h) (Or.inl ⟨by rfl, ?_⟩) (by assumption) ?_
            rotate_left
            · intro wz hSw
              try dsimp only at hSw
              go_simp
              try with_reducible rfl
            simp only [Act.put, List.setIfInBounds_toArray, List.set_cons_zero, List.set_cons_succ]
            refine wpAnyH_take (i := 17) (oi := ⟨_, _, _, _, _, _⟩) (v := ?_) rfl (by kernel_rfl) (by kernel_rfl) (by kernel_rfl) (fun _ _ _ h => h) (Or.inl ⟨by rfl, ?_⟩) (by assumption) ?_
            rotate_left
            · intro wz hSw
              try dsimp only at hSw
              go_simp
              try with_reducible rfl
            simp only [Act.put, List.setIfInBounds_toArray, List.set_cons_zero, List.set_cons_succ]
            refine wpAnyH_done (by kernel_rfl) ?_ _
            clear hHeld
            go_wp2
            go_ret
            exact ⟨by first | (simp; done) | (simp; omega) | (simp; decide), Gq2.out⟩
          · rw [hv] at CV
            rw [hat]
            clear hat hv
            have qm : (0 : Int) ≤ (k2 : Int) := by omega
            have qmx : (if (k2 : Int) < 0 then 0 else (k2 : Int)) = (k2 : Int) := by rw [if_neg]; omega
            have qmm : max (k2 : Int) 0 = (k2 : Int) := by omega
            have qge : (k2 : Int) ≥ 0 := by omega
            have CV2 := Lib.hid CV
            clear CV
            go_wp2_with fail
            refine CV2.out.mono ?_
            rintro e w4 ⟨rfl, g4⟩
            clear CV2
            replace x0 := (g4.cell_far ⟨w.heap.size, 0, none⟩ hs_x (by simp)).trans x0
            replace x1 := (g4.cell_far ⟨w.heap.size, 1, none⟩ hs_x (by simp)).trans x1
            replace x2 := (g4.cell_far ⟨w.heap.size, 2, none⟩ hs_x (by simp)).trans x2
            replace x3 := (g4.cell_far ⟨w.heap.size, 3, none⟩ hs_x (by simp)).trans x3
            replace f0 := (g4.cell_far ⟨w2.heap.size, 0, none⟩ hs_f (by simp)).trans f0
            replace f1 := (g4.cell_far ⟨w2.heap.size, 1, none⟩ hs_f (by simp)).trans f1
            replace f2 := (g4.cell_far ⟨w2.heap.size, 2, none⟩ hs_f (by simp)).trans f2
            replace f3 := (g4.cell_far ⟨w2.heap.size, 3, none⟩ hs_f (by simp)).trans f3
            replace hs_x := Nat.lt_of_lt_of_le hs_x g4.size
            replace hs_f := Nat.lt_of_lt_of_le hs_f g4.size
            have G4 := Lib.hid (G3.out.trans g4)
            clear g4
            go_wp2_with fail
            have G4d := Lib.hid (G4.out.trans (⟨rfl, rfl, rfl, Nat.le_refl _, fun _ _ _ => rfl⟩ : w4.grownBy w4.drew none))
            have hsd : w.heap.size < w4.drew.heap.size := hs_x
            refine wp_region_held_drew (S := fun w' => w'.cell? ⟨w.heap.size, 0, none⟩ = some (.int .i64 op) ∧ w'.cell? ⟨w.heap.size, 1, none⟩ = some (.int .u64 (a : Nat)) ∧ w'.cell? ⟨w.heap.size, 2, none⟩ = some (.int .u64 (b : Nat)) ∧ w'.cell? ⟨w.heap.size, 3, none⟩ = some (.int .u64 (c : Nat))) (by kernel_rfl) ⟨x0, x1, x2, x3⟩ (fun hHeld => ?_)
            refine wpAnyH_take (i := 0) (oi := ⟨_, _, _, _, _, _⟩) (v := ?_) rfl (by kernel_rfl) (by kernel_rfl) (by kernel_rfl) (fun _ _ _ h => h) (Or.inl ⟨by rfl, ?_⟩) (by assumption) ?_
            rotate_left
            · intro wz hSw
              try dsimp only at hSw
              go_simp
              try with_reducible rfl
            simp only [Act.put, List.setIfInBounds_toArray, List.set_cons_zero, List.set_cons_succ]
            refine wpAnyH_take (i := 1) (oi := ⟨_, _, _, _, _, _⟩) (v := ?_) rfl (by kernel_rfl) (by kernel_rfl) (by kernel_rfl) (fun _ _ _ h => h) (Or.inl ⟨by rfl, ?_⟩) (by assumption) ?_
            rotate_left
            · intro wz hSw
              try dsimp only at hSw
              go_simp
              try with_reducible rfl
            simp only [Act.put, List.setIfInBounds_toArray, List.set_cons_zero, List.set_cons_succ]
            refine wpAnyH_take (i := 2) (oi := ⟨_, _, _, _, _, _⟩) (v := ?_) rfl (by kernel_rfl) (by kernel_rfl) (by kernel_rfl) (fun _ _ _ h => h) (Or.inl ⟨by rfl, ?_⟩) (by assumption) ?_
            rotate_left
            · intro wz hSw
              try dsimp only at hSw
              go_simp
              try with_reducible rfl
            simp only [Act.put, List.setIfInBounds_toArray, List.set_cons_zero, List.set_cons_succ]
            refine wpAnyH_take (i := 3) (oi := ⟨_, _, _, _, _, _⟩) (v := ?_) rfl (by kernel_rfl) (by kernel_rfl) (by kernel_rfl) (fun _ _ _ h => h) (Or.inl ⟨by rfl, ?_⟩) (by assumption) ?_
            rotate_left
            · intro wz hSw
              try dsimp only at hSw
              go_simp
              try with_reducible rfl
            simp only [Act.put, List.setIfInBounds_toArray, List.set_cons_zero, List.set_cons_succ]
            refine wpAnyH_take (i := 4) (oi := ⟨_, _, _, _, _, _⟩) (v := ?_) rfl (by kernel_rfl) (by kernel_rfl) (by kernel_rfl) (fun _ _ _ h => h) (Or.inl ⟨by rfl, ?_⟩) (by assumption) ?_
            rotate_left
            · intro wz hSw
              try dsimp only at hSw
              go_simp
              try with_reducible rfl
            simp only [Act.put, List.setIfInBounds_toArray, List.set_cons_zero, List.set_cons_succ]
            refine wpAnyH_take (i := 5) (oi := ⟨_, _, _, _, _, _⟩) (v := ?_) rfl (by kernel_rfl) (by kernel_rfl) (by kernel_rfl) (fun _ _ _ h => h) (Or.inl ⟨by rfl, ?_⟩) (by assumption) ?_
            rotate_left
            · intro wz hSw
              try dsimp only at hSw
              go_simp
              try with_reducible rfl
            simp only [Act.put, List.setIfInBounds_toArray, List.set_cons_zero, List.set_cons_succ]
            refine wpAnyH_take (i := 6) (oi := ⟨_, _, _, _, _, _⟩) (v := ?_) rfl (by kernel_rfl) (by kernel_rfl) (by kernel_rfl) (fun _ _ _ h => h) (Or.inl ⟨by rfl, ?_⟩) (by assumption) ?_
            rotate_left
            · intro wz hSw
              try dsimp only at hSw
              go_simp
              try with_reducible rfl
            simp only [Act.put, List.setIfInBounds_toArray, List.set_cons_zero, List.set_cons_succ]
            refine wpAnyH_take (i := 7) (oi := ⟨_, _, _, _, _, _⟩) (v := ?_) rfl (by kernel_rfl) (by kernel_rfl) (by kernel_rfl) (fun _ _ _ h => h) (Or.inl ⟨by rfl, ?_⟩) (by assumption) ?_
            rotate_left
            · intro wz hSw
              try dsimp only at hSw
              go_simp
              try with_reducible rfl
            simp only [Act.put, List.setIfInBounds_toArray, List.set_cons_zero, List.set_cons_succ]
            refine wpAnyH_take (i := 8) (oi := ⟨_, _, _, _, _, _⟩) (v := ?_) rfl (by kernel_rfl) (by kernel_rfl) (by kernel_rfl) (fun _ _ _ h => h) (Or.inl ⟨by rfl, ?_⟩) (by assumption) ?_
            rotate_left
            · intro wz hSw
              try dsimp only at hSw
              go_simp
              try with_reducible rfl
            simp only [Act.put, List.setIfInBounds_toArray, List.set_cons_zero, List.set_cons_succ]
            refine wpAnyH_take (i := 9) (oi := ⟨_, _, _, _, _, _⟩) (v := ?_) rfl (by kernel_rfl) (by kernel_rfl) (by kernel_rfl) (fun _ _ _ h => h) (Or.inl ⟨by rfl, ?_⟩) (by assumption) ?_
            rotate_left
            · intro wz hSw
              try dsimp only at hSw
              go_simp
              try with_reducible rfl
            simp only [Act.put, List.setIfInBounds_toArray, List.set_cons_zero, List.set_cons_succ]
            refine wpAnyH_take (i := 10) (oi := ⟨_, _, _, _, _, _⟩) (v := ?_) rfl (by kernel_rfl) (by kernel_rfl) (by kernel_rfl) (fun _ _ _ h => h) (Or.inl ⟨by rfl, ?_⟩) (by assumption) ?_
            rotate_left
            · intro wz hSw
              try dsimp only at hSw
              go_simp
              try with_reducible rfl
            simp only [Act.put, List.setIfInBounds_toArray, List.set_cons_zero, List.set_cons_succ]
            refine wpAnyH_take (i := 11) (oi := ⟨_, _, _, _, _, _⟩) (v := ?_) rfl (by kernel_rfl) (by kernel_rfl) (by kernel_rfl) (fun _ _ _ h => h) (Or.inl ⟨by rfl, ?_⟩) (by assumption) ?_
            rotate_left
            · intro wz hSw
              try dsimp only at hSw
              go_simp
              try with_reducible rfl
            simp only [Act.put, List.setIfInBounds_toArray, List.set_cons_zero, List.set_cons_succ]
            refine wpAnyH_take (i := 13) (oi := ⟨_, _, _, _, _, _⟩) (v := ?_) rfl (by kernel_rfl) (by kernel_rfl) (by kernel_rfl) (fun _ _ _ h => h) (Or.inl ⟨by rfl, ?_⟩) (by assumption) ?_
            rotate_left
            · intro wz hSw
              try dsimp only at hSw
              go_simp
              try with_reducible rfl
            simp only [Act.put, List.setIfInBounds_toArray, List.set_cons_zero, List.set_cons_succ]
            refine wpAnyH_ready (rs := [12]) (by kernel_rfl) (by simp) ?_
            refine AllReadyH.cons (o := ⟨_, _, _, _, _, _⟩) rfl (fun K hK => ?_) AllReadyH.nil
            go_simp
            refine (CR0.out _ G4d.out).mono ?_
            rintro e wq1 ⟨rfl, q1⟩
            have y0 := (q1.cell_far ⟨w.heap.size, 0, none⟩ hsd (by simp)).trans x0
            have y1 := (q1.cell_far ⟨w.heap.size, 1, none⟩ hsd (by simp)).trans x1
            have y2 := (q1.cell_far ⟨w.heap.size, 2, none⟩ hsd (by simp)).trans x2
            have y3 := (q1.cell_far ⟨w.heap.size, 3, none⟩ hsd (by simp)).trans x3
            have Gq1 := Lib.hid (G4d.out.trans q1)
            have hsd1 := Nat.lt_of_lt_of_le hsd q1.size
            clear q1
            refine hK.out _ _ ⟨y0, y1, y2, y3⟩ (fun hHeld => ?_)
            clear hK K
            try simp only [Act.put, List.setIfInBounds_toArray, List.set_cons_zero, List.set_cons_succ]
            refine wpAnyH_ready (rs := [14]) (by kernel_rfl) (by simp) ?_
            refine AllReadyH.cons (o := ⟨_, _, _, _, _, _⟩) rfl (fun K hK => ?_) AllReadyH.nil
            go_simp
            refine (CR1.out _).mono ?_
            rintro e wq2 ⟨rfl, q2⟩
            have v0 := (q2.cell_far ⟨w.heap.size, 0, none⟩ hsd1 (by simp)).trans y0
            have v1 := (q2.cell_far ⟨w.heap.size, 1, none⟩ hsd1 (by simp)).trans y1
            have v2 := (q2.cell_far ⟨w.heap.size, 2, none⟩ hsd1 (by simp)).trans y2
            have v3 := (q2.cell_far ⟨w.heap.size, 3, none⟩ hsd1 (by simp)).trans y3
            have Gq2 := Lib.hid (Gq1.out.trans q2)
            clear q2
            refine hK.out _ _ ⟨v0, v1, v2, v3⟩ (fun hHeld => ?_)
            clear hK K
            try simp only [Act.put, List.setIfInBounds_toArray, List.set_cons_zero, List.set_cons_succ]
            refine wpAnyH_take (i := 15) (oi := ⟨_, _, _, _, _, _⟩) (v := ?_) rfl (by kernel_rfl) (by kernel_rfl) (by kernel_rfl) (fun _ _ _ h => h) (Or.inl ⟨by rfl, ?_⟩) (by assumption) ?_
            rotate_left
            · intro wz hSw
              try dsimp only at hSw
              go_simp
              try with_reducible rfl
            simp only [Act.put, List.setIfInBounds_toArray, List.set_cons_zero, List.set_cons_succ]
            refine wpAnyH_take (i := 16) (oi := ⟨_, _, _, _, _, _⟩) (v := ?_) rfl (by kernel_rfl) (by kernel_rfl) (by kernel_rfl) (fun _ _ _ h => h) (Or.inl ⟨by rfl, ?_⟩) (by assumption) ?_
            rotate_left
            · intro wz hSw
              try dsimp only at hSw
              go_simp
              try with_reducible rfl
            simp only [Act.put, List.setIfInBounds_toArray, List.set_cons_zero, List.set_cons_succ]
            refine wpAnyH_take (i := 17) (oi := ⟨_, _, _, _, _, _⟩) (v := ?_) rfl (by kernel_rfl) (by kernel_rfl) (by kernel_rfl) (fun _ _ _ h => h) (Or.inl ⟨by rfl, ?_⟩) (by assumption) ?_
            rotate_left
            · intro wz hSw
              try dsimp only at hSw
              go_simp
              try with_reducible rfl
            simp only [Act.put, List.setIfInBounds_toArray, List.set_cons_zero, List.set_cons_succ]
            refine wpAnyH_done (by kernel_rfl) ?_ _
            clear hHeld
            go_wp2
            go_ret
            exact ⟨by first | (simp; done) | (simp; omega) | (simp; decide), Gq2.out⟩
  · skip
    obtain ⟨k, rfl⟩ : ∃ k : Nat, op = (k : Int) := ⟨op.toNat, by omega⟩
    have hk : k < 13 := by omega
    have q0 : (k : Int) ≥ 0 := by omega
    have q1 : (k : Int) < 13 := by omega
    clear hop
    have C1 := cof_in (w := w1) k hk (HT0.out.kept G1.out)
    unfold fVal at C1
    have N1 := Lib.hid (fun wz => (rnames wz).mono (fun e w' h => (⟨h.1, h.2.1, h.2.2.1, h.2.2.2 k hk⟩ : e = _ ∧ wz.grownBy w' none ∧ wz.heap.size < w'.heap.size ∧ w'.cell? ⟨wz.heap.size, k, none⟩ = some (.string ⟨fNm k⟩))))
    have N2 := Lib.hid (fun wz => (rargs wz).mono (fun e w' h => (⟨h.1, h.2.1, h.2.2.1, h.2.2.2 k hk⟩ : e = _ ∧ wz.grownBy w' none ∧ wz.heap.size < w'.heap.size ∧ w'.cell? ⟨wz.heap.size, k, none⟩ = some (.int .i64 (nArgs k : Nat)))))
    have N3 := Lib.hid (fun wz => (rkinds wz).mono (fun e w' h => (⟨h.1, h.2.1, h.2.2.1, h.2.2.2 k hk⟩ : e = _ ∧ wz.grownBy w' none ∧ wz.heap.size < w'.heap.size ∧ w'.cell? ⟨wz.heap.size, k, none⟩ = some (.int .i64 (fKd k : Nat)))))
    have N4 := Lib.hid (fun wz => (rrights wz).mono (fun e w' h => (⟨h.1, h.2.1, h.2.2.1, h.2.2.2 k hk⟩ : e = _ ∧ wz.grownBy w' none ∧ wz.heap.size < w'.heap.size ∧ w'.cell? ⟨wz.heap.size, k, none⟩ = some (.int .i64 (fRt k : Nat)))))
    generalize fNm k = nm at C1 N1
    generalize nArgs k = na at C1 N2
    generalize fKd k = kd at C1 N3
    generalize fRt k = rt at C1 N4
    have C1 := Lib.hid C1
    go_wp2_with fail
    refine (C1.out).mono ?_
    rintro e w2 ⟨rfl, g2⟩
    replace x0 := (g2.cell_far ⟨w.heap.size, 0, none⟩ hs_x (by simp)).trans x0
    replace x1 := (g2.cell_far ⟨w.heap.size, 1, none⟩ hs_x (by simp)).trans x1
    replace x2 := (g2.cell_far ⟨w.heap.size, 2, none⟩ hs_x (by simp)).trans x2
    replace x3 := (g2.cell_far ⟨w.heap.size, 3, none⟩ hs_x (by simp)).trans x3
    replace hs_x := Nat.lt_of_lt_of_le hs_x g2.size
    have G2 := Lib.hid (G1.out.trans g2)
    have k2 := World.grownBy_alloc w2 (.cells #[.string ⟨nm⟩, .int .i64 (na : Nat), .int .i64 (kd : Nat), .int .i64 (rt : Nat)] 27) none
    have hne2_x : w.heap.size ≠ w2.heap.size := by omega
    replace x0 := (k2.cell_far ⟨w.heap.size, 0, none⟩ hs_x (by simp)).trans x0
    replace x1 := (k2.cell_far ⟨w.heap.size, 1, none⟩ hs_x (by simp)).trans x1
    replace x2 := (k2.cell_far ⟨w.heap.size, 2, none⟩ hs_x (by simp)).trans x2
    replace x3 := (k2.cell_far ⟨w.heap.size, 3, none⟩ hs_x (by simp)).trans x3
    replace hs_x := Nat.lt_of_lt_of_le hs_x k2.size
    have G2a := Lib.hid (G2.out.trans k2)
    have f0 : (w2.alloc (.cells #[.string ⟨nm⟩, .int .i64 (na : Nat), .int .i64 (kd : Nat), .int .i64 (rt : Nat)] 27)).cell? ⟨w2.heap.size, 0, none⟩ = some (.string ⟨nm⟩) := World.cell?_alloc_new ..
    have f1 : (w2.alloc (.cells #[.string ⟨nm⟩, .int .i64 (na : Nat), .int .i64 (kd : Nat), .int .i64 (rt : Nat)] 27)).cell? ⟨w2.heap.size, 1, none⟩ = some (.int .i64 (na : Nat)) := World.cell?_alloc_new ..
    have f2 : (w2.alloc (.cells #[.string ⟨nm⟩, .int .i64 (na : Nat), .int .i64 (kd : Nat), .int .i64 (rt : Nat)] 27)).cell? ⟨w2.heap.size, 2, none⟩ = some (.int .i64 (kd : Nat)) := World.cell?_alloc_new ..
    have f3 : (w2.alloc (.cells #[.string ⟨nm⟩, .int .i64 (na : Nat), .int .i64 (kd : Nat), .int .i64 (rt : Nat)] 27)).cell? ⟨w2.heap.size, 3, none⟩ = some (.int .i64 (rt : Nat)) := World.cell?_alloc_new ..
    have hs_f : w2.heap.size < (w2.alloc (.cells #[.string ⟨nm⟩, .int .i64 (na : Nat), .int .i64 (kd : Nat), .int .i64 (rt : Nat)] 27)).heap.size := by simp
    go_wp2_with fail
    generalize hWA : (w2.alloc (.cells #[.string ⟨nm⟩, .int .i64 (na : Nat), .int .i64 (kd : Nat), .int .i64 (rt : Nat)] 27)) = wA at *
    clear hWA
    have kd := (⟨rfl, rfl, rfl, Nat.le_refl _, fun _ _ _ => rfl⟩ : wA.grownBy wA.drew none)
    generalize w2.heap.size = FB at *
    replace x0 := (kd.cell_far ⟨w.heap.size, 0, none⟩ hs_x (by simp)).trans x0
    replace x1 := (kd.cell_far ⟨w.heap.size, 1, none⟩ hs_x (by simp)).trans x1
    replace x2 := (kd.cell_far ⟨w.heap.size, 2, none⟩ hs_x (by simp)).trans x2
    replace x3 := (kd.cell_far ⟨w.heap.size, 3, none⟩ hs_x (by simp)).trans x3
    replace f0 := (kd.cell_far ⟨FB, 0, none⟩ hs_f (by simp)).trans f0
    replace f1 := (kd.cell_far ⟨FB, 1, none⟩ hs_f (by simp)).trans f1
    replace f2 := (kd.cell_far ⟨FB, 2, none⟩ hs_f (by simp)).trans f2
    replace f3 := (kd.cell_far ⟨FB, 3, none⟩ hs_f (by simp)).trans f3
    replace hs_x := Nat.lt_of_lt_of_le hs_x kd.size
    replace hs_f := Nat.lt_of_lt_of_le hs_f kd.size
    have Gd := Lib.hid (G2a.out.trans kd)
    clear kd
    refine wp_region_held_drew (S := fun w' => w'.cell? ⟨w.heap.size, 0, none⟩ = some (.int .i64 (k : Int)) ∧ w'.cell? ⟨FB, 0, none⟩ = some (.string ⟨nm⟩) ∧ w'.cell? ⟨FB, 1, none⟩ = some (.int .i64 (na : Nat)) ∧ w'.cell? ⟨FB, 2, none⟩ = some (.int .i64 (kd : Nat)) ∧ w'.cell? ⟨FB, 3, none⟩ = some (.int .i64 (rt : Nat))) (by kernel_rfl) ⟨x0, f0, f1, f2, f3⟩ (fun hHeld => ?_)
    refine wpAnyH_take (i := 0) (oi := ⟨_, _, _, _, _, _⟩) (v := ?_) rfl (by kernel_rfl) (by kernel_rfl) (by kernel_rfl) (fun _ _ _ h => h) (Or.inl ⟨by rfl, ?_⟩) (by assumption) ?_
    rotate_left
    · intro wz hSw
      try dsimp only at hSw
      go_simp
      try with_reducible rfl
    simp only [Act.put, List.setIfInBounds_toArray, List.set_cons_zero, List.set_cons_succ]
    refine wpAnyH_take (i := 1) (oi := ⟨_, _, _, _, _, _⟩) (v := ?_) rfl (by kernel_rfl) (by kernel_rfl) (by kernel_rfl) (fun _ _ _ h => h) (Or.inl ⟨by rfl, ?_⟩) (by assumption) ?_
    rotate_left
    · intro wz hSw
      try dsimp only at hSw
      go_simp
      try with_reducible rfl
    simp only [Act.put, List.setIfInBounds_toArray, List.set_cons_zero, List.set_cons_succ]
    refine wpAnyH_take (i := 2) (oi := ⟨_, _, _, _, _, _⟩) (v := ?_) rfl (by kernel_rfl) (by kernel_rfl) (by kernel_rfl) (fun _ _ _ h => h) (Or.inl ⟨by rfl, ?_⟩) (by assumption) ?_
    rotate_left
    · intro wz hSw
      try dsimp only at hSw
      go_simp
      try with_reducible rfl
    simp only [Act.put, List.setIfInBounds_toArray, List.set_cons_zero, List.set_cons_succ]
    refine wpAnyH_take (i := 4) (oi := ⟨_, _, _, _, _, _⟩) (v := ?_) rfl (by kernel_rfl) (by kernel_rfl) (by kernel_rfl) (fun _ _ _ h => h) (Or.inl ⟨by rfl, ?_⟩) (by assumption) ?_
    rotate_left
    · intro wz hSw
      try dsimp only at hSw
      go_simp
      try with_reducible rfl
    simp only [Act.put, List.setIfInBounds_toArray, List.set_cons_zero, List.set_cons_succ]
    refine wpAnyH_take (i := 5) (oi := ⟨_, _, _, _, _, _⟩) (v := ?_) rfl (by kernel_rfl) (by kernel_rfl) (by kernel_rfl) (fun _ _ _ h => h) (Or.inl ⟨by rfl, ?_⟩) (by assumption) ?_
    rotate_left
    · intro wz hSw
      try dsimp only at hSw
      go_simp
      try with_reducible rfl
    simp only [Act.put, List.setIfInBounds_toArray, List.set_cons_zero, List.set_cons_succ]
    refine wpAnyH_take (i := 9) (oi := ⟨_, _, _, _, _, _⟩) (v := ?_) rfl (by kernel_rfl) (by kernel_rfl) (by kernel_rfl) (fun _ _ _ h => h) (Or.inl ⟨by rfl, ?_⟩) (by assumption) ?_
    rotate_left
    · intro wz hSw
      try dsimp only at hSw
      go_simp
      try with_reducible rfl
    simp only [Act.put, List.setIfInBounds_toArray, List.set_cons_zero, List.set_cons_succ]
    refine wpAnyH_take (i := 10) (oi := ⟨_, _, _, _, _, _⟩) (v := ?_) rfl (by kernel_rfl) (by kernel_rfl) (by kernel_rfl) (fun _ _ _ h => h) (Or.inl ⟨by rfl, ?_⟩) (by assumption) ?_
    rotate_left
    · intro wz hSw
      try dsimp only at hSw
      go_simp
      try with_reducible rfl
    simp only [Act.put, List.setIfInBounds_toArray, List.set_cons_zero, List.set_cons_succ]
    refine wpAnyH_take (i := 14) (oi := ⟨_, _, _, _, _, _⟩) (v := ?_) rfl (by kernel_rfl) (by kernel_rfl) (by kernel_rfl) (fun _ _ _ h => h) (Or.inl ⟨by rfl, ?_⟩) (by assumption) ?_
    rotate_left
    · intro wz hSw
      try dsimp only at hSw
      go_simp
      try with_reducible rfl
    simp only [Act.put, List.setIfInBounds_toArray, List.set_cons_zero, List.set_cons_succ]
    refine wpAnyH_take (i := 15) (oi := ⟨_, _, _, _, _, _⟩) (v := ?_) rfl (by kernel_rfl) (by kernel_rfl) (by kernel_rfl) (fun _ _ _ h => h) (Or.inl ⟨by rfl, ?_⟩) (by assumption) ?_
    rotate_left
    · intro wz hSw
      try dsimp only at hSw
      go_simp
      try with_reducible rfl
    simp only [Act.put, List.setIfInBounds_toArray, List.set_cons_zero, List.set_cons_succ]
    refine wpAnyH_take (i := 19) (oi := ⟨_, _, _, _, _, _⟩) (v := ?_) rfl (by kernel_rfl) (by kernel_rfl) (by kernel_rfl) (fun _ _ _ h => h) (Or.inl ⟨by rfl, ?_⟩) (by assumption) ?_
    rotate_left
    · intro wz hSw
      try dsimp only at hSw
      go_simp
      try with_reducible rfl
    simp only [Act.put, List.setIfInBounds_toArray, List.set_cons_zero, List.set_cons_succ]
    refine wpAnyH_take (i := 20) (oi := ⟨_, _, _, _, _, _⟩) (v := ?_) rfl (by kernel_rfl) (by kernel_rfl) (by kernel_rfl) (fun _ _ _ h => h) (Or.inl ⟨by rfl, ?_⟩) (by assumption) ?_
    rotate_left
    · intro wz hSw
      try dsimp only at hSw
      go_simp
      try with_reducible rfl
    simp only [Act.put, List.setIfInBounds_toArray, List.set_cons_zero, List.set_cons_succ]
    refine wpAnyH_ready (rs := [3]) (by kernel_rfl) (by simp) ?_
    refine AllReadyH.cons (o := ⟨_, _, _, _, _, _⟩) rfl (fun K hK => ?_) AllReadyH.nil
    go_simp
    refine (N1.out _).mono ?_
    rintro e wq0 ⟨rfl, T0, hz0, n0⟩
    have n0 : wq0.cell? ⟨wA.heap.size, k, none⟩ = some (.string ⟨nm⟩) := n0
    replace x0 := (T0.cell_far ⟨w.heap.size, 0, none⟩ hs_x (by simp)).trans x0
    replace x1 := (T0.cell_far ⟨w.heap.size, 1, none⟩ hs_x (by simp)).trans x1
    replace x2 := (T0.cell_far ⟨w.heap.size, 2, none⟩ hs_x (by simp)).trans x2
    replace x3 := (T0.cell_far ⟨w.heap.size, 3, none⟩ hs_x (by simp)).trans x3
    replace f0 := (T0.cell_far ⟨FB, 0, none⟩ hs_f (by simp)).trans f0
    replace f1 := (T0.cell_far ⟨FB, 1, none⟩ hs_f (by simp)).trans f1
    replace f2 := (T0.cell_far ⟨FB, 2, none⟩ hs_f (by simp)).trans f2
    replace f3 := (T0.cell_far ⟨FB, 3, none⟩ hs_f (by simp)).trans f3
    replace hs_x := Nat.lt_of_lt_of_le hs_x T0.size
    replace hs_f := Nat.lt_of_lt_of_le hs_f T0.size
    have Gt0 := Lib.hid (Gd.out.trans T0)
    clear T0
    have hn0 : wA.heap.size < wq0.heap.size := hz0
    clear hz0
    refine hK.out _ _ ⟨x0, f0, f1, f2, f3⟩ (fun hHeld => ?_)
    clear hK K
    try simp only [Act.put, List.setIfInBounds_toArray, List.set_cons_zero, List.set_cons_succ]
    refine wpAnyH_less (S2 := fun w' => w'.cell? ⟨w.heap.size, 0, none⟩ = some (.int .i64 (k : Int)) ∧ w'.cell? ⟨FB, 0, none⟩ = some (.string ⟨nm⟩) ∧ w'.cell? ⟨FB, 1, none⟩ = some (.int .i64 (na : Nat)) ∧ w'.cell? ⟨FB, 2, none⟩ = some (.int .i64 (kd : Nat)) ∧ w'.cell? ⟨FB, 3, none⟩ = some (.int .i64 (rt : Nat)) ∧ w'.cell? ⟨wA.heap.size, k, none⟩ = some (.string ⟨nm⟩)) (fun _ ⟨h0, h1, h2, h3, h4, h5⟩ => ⟨h0, h1, h2, h3, h4⟩) _ _ _ _ ?_
    have hHeld0 : (fun w' : World => w'.cell? ⟨w.heap.size, 0, none⟩ = some (.int .i64 (k : Int)) ∧ w'.cell? ⟨FB, 0, none⟩ = some (.string ⟨nm⟩) ∧ w'.cell? ⟨FB, 1, none⟩ = some (.int .i64 (na : Nat)) ∧ w'.cell? ⟨FB, 2, none⟩ = some (.int .i64 (kd : Nat)) ∧ w'.cell? ⟨FB, 3, none⟩ = some (.int .i64 (rt : Nat)) ∧ w'.cell? ⟨wA.heap.size, k, none⟩ = some (.string ⟨nm⟩)) wq0 := ⟨x0, f0, f1, f2, f3, n0⟩
    refine wpAnyH_take (i := 6) (oi := ⟨_, _, _, _, _, _⟩) (v := ?_) rfl (by kernel_rfl) (by kernel_rfl) (by kernel_rfl) (fun _ _ _ h => h) (Or.inl ⟨by rfl, ?_⟩) (by assumption) ?_
    rotate_left
    · intro wz hSw
      try dsimp only at hSw
      go_simp
      try with_reducible rfl
    simp only [Act.put, List.setIfInBounds_toArray, List.set_cons_zero, List.set_cons_succ]
    refine wpAnyH_take (i := 7) (oi := ⟨_, _, _, _, _, _⟩) (v := ?_) rfl (by kernel_rfl) (by kernel_rfl) (by kernel_rfl) (fun _ _ _ h => h) (Or.inl ⟨by rfl, ?_⟩) (by assumption) ?_
    rotate_left
    · intro wz hSw
      try dsimp only at hSw
      go_simp
      try with_reducible rfl
    simp only [Act.put, List.setIfInBounds_toArray, List.set_cons_zero, List.set_cons_succ]
    refine wpAnyH_ready (rs := [8]) (by kernel_rfl) (by simp) ?_
    refine AllReadyH.cons (o := ⟨_, _, _, _, _, _⟩) rfl (fun K hK => ?_) AllReadyH.nil
    go_simp
    refine (N2.out _).mono ?_
    rintro e wq1 ⟨rfl, T1, hz1, n1⟩
    have n1 : wq1.cell? ⟨wq0.heap.size, k, none⟩ = some (.int .i64 (na : Nat)) := n1
    replace n0 := (T1.cell_far ⟨wA.heap.size, k, none⟩ hn0 (by simp)).trans n0
    replace hn0 := Nat.lt_of_lt_of_le hn0 T1.size
    replace x0 := (T1.cell_far ⟨w.heap.size, 0, none⟩ hs_x (by simp)).trans x0
    replace x1 := (T1.cell_far ⟨w.heap.size, 1, none⟩ hs_x (by simp)).trans x1
    replace x2 := (T1.cell_far ⟨w.heap.size, 2, none⟩ hs_x (by simp)).trans x2
    replace x3 := (T1.cell_far ⟨w.heap.size, 3, none⟩ hs_x (by simp)).trans x3
    replace f0 := (T1.cell_far ⟨FB, 0, none⟩ hs_f (by simp)).trans f0
    replace f1 := (T1.cell_far ⟨FB, 1, none⟩ hs_f (by simp)).trans f1
    replace f2 := (T1.cell_far ⟨FB, 2, none⟩ hs_f (by simp)).trans f2
    replace f3 := (T1.cell_far ⟨FB, 3, none⟩ hs_f (by simp)).trans f3
    replace hs_x := Nat.lt_of_lt_of_le hs_x T1.size
    replace hs_f := Nat.lt_of_lt_of_le hs_f T1.size
    have Gt1 := Lib.hid (Gt0.out.trans T1)
    clear T1
    have hn1 : wq0.heap.size < wq1.heap.size := hz1
    clear hz1
    refine hK.out _ _ ⟨x0, f0, f1, f2, f3, n0⟩ (fun hHeld => ?_)
    clear hK K
    try simp only [Act.put, List.setIfInBounds_toArray, List.set_cons_zero, List.set_cons_succ]
    refine wpAnyH_less (S2 := fun w' => w'.cell? ⟨w.heap.size, 0, none⟩ = some (.int .i64 (k : Int)) ∧ w'.cell? ⟨FB, 0, none⟩ = some (.string ⟨nm⟩) ∧ w'.cell? ⟨FB, 1, none⟩ = some (.int .i64 (na : Nat)) ∧ w'.cell? ⟨FB, 2, none⟩ = some (.int .i64 (kd : Nat)) ∧ w'.cell? ⟨FB, 3, none⟩ = some (.int .i64 (rt : Nat)) ∧ w'.cell? ⟨wA.heap.size, k, none⟩ = some (.string ⟨nm⟩) ∧ w'.cell? ⟨wq0.heap.size, k, none⟩ = some (.int .i64 (na : Nat))) (fun _ ⟨h0, h1, h2, h3, h4, h5, h6⟩ => ⟨h0, h1, h2, h3, h4, h5⟩) _ _ _ _ ?_
    have hHeld1 : (fun w' : World => w'.cell? ⟨w.heap.size, 0, none⟩ = some (.int .i64 (k : Int)) ∧ w'.cell? ⟨FB, 0, none⟩ = some (.string ⟨nm⟩) ∧ w'.cell? ⟨FB, 1, none⟩ = some (.int .i64 (na : Nat)) ∧ w'.cell? ⟨FB, 2, none⟩ = some (.int .i64 (kd : Nat)) ∧ w'.cell? ⟨FB, 3, none⟩ = some (.int .i64 (rt : Nat)) ∧ w'.cell? ⟨wA.heap.size, k, none⟩ = some (.string ⟨nm⟩) ∧ w'.cell? ⟨wq0.heap.size, k, none⟩ = some (.int .i64 (na : Nat))) wq1 := ⟨x0, f0, f1, f2, f3, n0, n1⟩
    refine wpAnyH_take (i := 11) (oi := ⟨_, _, _, _, _, _⟩) (v := ?_) rfl (by kernel_rfl) (by kernel_rfl) (by kernel_rfl) (fun _ _ _ h => h) (Or.inl ⟨by rfl, ?_⟩) (by assumption) ?_
    rotate_left
    · intro wz hSw
      try dsimp only at hSw
      go_simp
      try with_reducible rfl
    simp only [Act.put, List.setIfInBounds_toArray, List.set_cons_zero, List.set_cons_succ]
    refine wpAnyH_take (i := 12) (oi := ⟨_, _, _, _, _, _⟩) (v := ?_) rfl (by kernel_rfl) (by kernel_rfl) (by kernel_rfl) (fun _ _ _ h => h) (Or.inl ⟨by rfl, ?_⟩) (by assumption) ?_
    rotate_left
    · intro wz hSw
      try dsimp only at hSw
      go_simp
      try with_reducible rfl
    simp only [Act.put, List.setIfInBounds_toArray, List.set_cons_zero, List.set_cons_succ]
    refine wpAnyH_ready (rs := [13]) (by kernel_rfl) (by simp) ?_
    refine AllReadyH.cons (o := ⟨_, _, _, _, _, _⟩) rfl (fun K hK => ?_) AllReadyH.nil
    go_simp
    refine (N3.out _).mono ?_
    rintro e wq2 ⟨rfl, T2, hz2, n2⟩
    have n2 : wq2.cell? ⟨wq1.heap.size, k, none⟩ = some (.int .i64 (kd : Nat)) := n2
    replace n0 := (T2.cell_far ⟨wA.heap.size, k, none⟩ hn0 (by simp)).trans n0
    replace hn0 := Nat.lt_of_lt_of_le hn0 T2.size
    replace n1 := (T2.cell_far ⟨wq0.heap.size, k, none⟩ hn1 (by simp)).trans n1
    replace hn1 := Nat.lt_of_lt_of_le hn1 T2.size
    replace x0 := (T2.cell_far ⟨w.heap.size, 0, none⟩ hs_x (by simp)).trans x0
    replace x1 := (T2.cell_far ⟨w.heap.size, 1, none⟩ hs_x (by simp)).trans x1
    replace x2 := (T2.cell_far ⟨w.heap.size, 2, none⟩ hs_x (by simp)).trans x2
    replace x3 := (T2.cell_far ⟨w.heap.size, 3, none⟩ hs_x (by simp)).trans x3
    replace f0 := (T2.cell_far ⟨FB, 0, none⟩ hs_f (by simp)).trans f0
    replace f1 := (T2.cell_far ⟨FB, 1, none⟩ hs_f (by simp)).trans f1
    replace f2 := (T2.cell_far ⟨FB, 2, none⟩ hs_f (by simp)).trans f2
    replace f3 := (T2.cell_far ⟨FB, 3, none⟩ hs_f (by simp)).trans f3
    replace hs_x := Nat.lt_of_lt_of_le hs_x T2.size
    replace hs_f := Nat.lt_of_lt_of_le hs_f T2.size
    have Gt2 := Lib.hid (Gt1.out.trans T2)
    clear T2
    have hn2 : wq1.heap.size < wq2.heap.size := hz2
    clear hz2
    refine hK.out _ _ ⟨x0, f0, f1, f2, f3, n0, n1⟩ (fun hHeld => ?_)
    clear hK K
    try simp only [Act.put, List.setIfInBounds_toArray, List.set_cons_zero, List.set_cons_succ]
    refine wpAnyH_less (S2 := fun w' => w'.cell? ⟨w.heap.size, 0, none⟩ = some (.int .i64 (k : Int)) ∧ w'.cell? ⟨FB, 0, none⟩ = some (.string ⟨nm⟩) ∧ w'.cell? ⟨FB, 1, none⟩ = some (.int .i64 (na : Nat)) ∧ w'.cell? ⟨FB, 2, none⟩ = some (.int .i64 (kd : Nat)) ∧ w'.cell? ⟨FB, 3, none⟩ = some (.int .i64 (rt : Nat)) ∧ w'.cell? ⟨wA.heap.size, k, none⟩ = some (.string ⟨nm⟩) ∧ w'.cell? ⟨wq0.heap.size, k, none⟩ = some (.int .i64 (na : Nat)) ∧ w'.cell? ⟨wq1.heap.size, k, none⟩ = some (.int .i64 (kd : Nat))) (fun _ ⟨h0, h1, h2, h3, h4, h5, h6, h7⟩ => ⟨h0, h1, h2, h3, h4, h5, h6⟩) _ _ _ _ ?_
    have hHeld2 : (fun w' : World => w'.cell? ⟨w.heap.size, 0, none⟩ = some (.int .i64 (k : Int)) ∧ w'.cell? ⟨FB, 0, none⟩ = some (.string ⟨nm⟩) ∧ w'.cell? ⟨FB, 1, none⟩ = some (.int .i64 (na : Nat)) ∧ w'.cell? ⟨FB, 2, none⟩ = some (.int .i64 (kd : Nat)) ∧ w'.cell? ⟨FB, 3, none⟩ = some (.int .i64 (rt : Nat)) ∧ w'.cell? ⟨wA.heap.size, k, none⟩ = some (.string ⟨nm⟩) ∧ w'.cell? ⟨wq0.heap.size, k, none⟩ = some (.int .i64 (na : Nat)) ∧ w'.cell? ⟨wq1.heap.size, k, none⟩ = some (.int .i64 (kd : Nat))) wq2 := ⟨x0, f0, f1, f2, f3, n0, n1, n2⟩
    refine wpAnyH_take (i := 16) (oi := ⟨_, _, _, _, _, _⟩) (v := ?_) rfl (by kernel_rfl) (by kernel_rfl) (by kernel_rfl) (fun _ _ _ h => h) (Or.inl ⟨by rfl, ?_⟩) (by assumption) ?_
    rotate_left
    · intro wz hSw
      try dsimp only at hSw
      go_simp
      try with_reducible rfl
    simp only [Act.put, List.setIfInBounds_toArray, List.set_cons_zero, List.set_cons_succ]
    refine wpAnyH_take (i := 17) (oi := ⟨_, _, _, _, _, _⟩) (v := ?_) rfl (by kernel_rfl) (by kernel_rfl) (by kernel_rfl) (fun _ _ _ h => h) (Or.inl ⟨by rfl, ?_⟩) (by assumption) ?_
    rotate_left
    · intro wz hSw
      try dsimp only at hSw
      go_simp
      try with_reducible rfl
    simp only [Act.put, List.setIfInBounds_toArray, List.set_cons_zero, List.set_cons_succ]
    refine wpAnyH_ready (rs := [18]) (by kernel_rfl) (by simp) ?_
    refine AllReadyH.cons (o := ⟨_, _, _, _, _, _⟩) rfl (fun K hK => ?_) AllReadyH.nil
    go_simp
    refine (N4.out _).mono ?_
    rintro e wq3 ⟨rfl, T3, hz3, n3⟩
    have n3 : wq3.cell? ⟨wq2.heap.size, k, none⟩ = some (.int .i64 (rt : Nat)) := n3
    replace n0 := (T3.cell_far ⟨wA.heap.size, k, none⟩ hn0 (by simp)).trans n0
    replace hn0 := Nat.lt_of_lt_of_le hn0 T3.size
    replace n1 := (T3.cell_far ⟨wq0.heap.size, k, none⟩ hn1 (by simp)).trans n1
    replace hn1 := Nat.lt_of_lt_of_le hn1 T3.size
    replace n2 := (T3.cell_far ⟨wq1.heap.size, k, none⟩ hn2 (by simp)).trans n2
    replace hn2 := Nat.lt_of_lt_of_le hn2 T3.size
    replace x0 := (T3.cell_far ⟨w.heap.size, 0, none⟩ hs_x (by simp)).trans x0
    replace x1 := (T3.cell_far ⟨w.heap.size, 1, none⟩ hs_x (by simp)).trans x1
    replace x2 := (T3.cell_far ⟨w.heap.size, 2, none⟩ hs_x (by simp)).trans x2
    replace x3 := (T3.cell_far ⟨w.heap.size, 3, none⟩ hs_x (by simp)).trans x3
    replace f0 := (T3.cell_far ⟨FB, 0, none⟩ hs_f (by simp)).trans f0
    replace f1 := (T3.cell_far ⟨FB, 1, none⟩ hs_f (by simp)).trans f1
    replace f2 := (T3.cell_far ⟨FB, 2, none⟩ hs_f (by simp)).trans f2
    replace f3 := (T3.cell_far ⟨FB, 3, none⟩ hs_f (by simp)).trans f3
    replace hs_x := Nat.lt_of_lt_of_le hs_x T3.size
    replace hs_f := Nat.lt_of_lt_of_le hs_f T3.size
    have Gt3 := Lib.hid (Gt2.out.trans T3)
    clear T3
    have hn3 : wq2.heap.size < wq3.heap.size := hz3
    clear hz3
    refine hK.out _ _ ⟨x0, f0, f1, f2, f3, n0, n1, n2⟩ (fun hHeld => ?_)
    clear hK K
    try simp only [Act.put, List.setIfInBounds_toArray, List.set_cons_zero, List.set_cons_succ]
    refine wpAnyH_less (S2 := fun w' => w'.cell? ⟨w.heap.size, 0, none⟩ = some (.int .i64 (k : Int)) ∧ w'.cell? ⟨FB, 0, none⟩ = some (.string ⟨nm⟩) ∧ w'.cell? ⟨FB, 1, none⟩ = some (.int .i64 (na : Nat)) ∧ w'.cell? ⟨FB, 2, none⟩ = some (.int .i64 (kd : Nat)) ∧ w'.cell? ⟨FB, 3, none⟩ = some (.int .i64 (rt : Nat)) ∧ w'.cell? ⟨wA.heap.size, k, none⟩ = some (.string ⟨nm⟩) ∧ w'.cell? ⟨wq0.heap.size, k, none⟩ = some (.int .i64 (na : Nat)) ∧ w'.cell? ⟨wq1.heap.size, k, none⟩ = some (.int .i64 (kd : Nat)) ∧ w'.cell? ⟨wq2.heap.size, k, none⟩ = some (.int .i64 (rt : Nat))) (fun _ ⟨h0, h1, h2, h3, h4, h5, h6, h7, h8⟩ => ⟨h0, h1, h2, h3, h4, h5, h6, h7⟩) _ _ _ _ ?_
    have hHeld3 : (fun w' : World => w'.cell? ⟨w.heap.size, 0, none⟩ = some (.int .i64 (k : Int)) ∧ w'.cell? ⟨FB, 0, none⟩ = some (.string ⟨nm⟩) ∧ w'.cell? ⟨FB, 1, none⟩ = some (.int .i64 (na : Nat)) ∧ w'.cell? ⟨FB, 2, none⟩ = some (.int .i64 (kd : Nat)) ∧ w'.cell? ⟨FB, 3, none⟩ = some (.int .i64 (rt : Nat)) ∧ w'.cell? ⟨wA.heap.size, k, none⟩ = some (.string ⟨nm⟩) ∧ w'.cell? ⟨wq0.heap.size, k, none⟩ = some (.int .i64 (na : Nat)) ∧ w'.cell? ⟨wq1.heap.size, k, none⟩ = some (.int .i64 (kd : Nat)) ∧ w'.cell? ⟨wq2.heap.size, k, none⟩ = some (.int .i64 (rt : Nat))) wq3 := ⟨x0, f0, f1, f2, f3, n0, n1, n2, n3⟩
    refine wpAnyH_take (i := 21) (oi := ⟨_, _, _, _, _, _⟩) (v := ?_) rfl (by kernel_rfl) (by kernel_rfl) (by kernel_rfl) (fun _ _ _ h => h) (Or.inl ⟨by rfl, ?_⟩) (by assumption) ?_
    rotate_left
    · intro wz hSw
      try dsimp only at hSw
      go_simp
      try with_reducible rfl
    simp only [Act.put, List.setIfInBounds_toArray, List.set_cons_zero, List.set_cons_succ]
    refine wpAnyH_take (i := 22) (oi := ⟨_, _, _, _, _, _⟩) (v := ?_) rfl (by kernel_rfl) (by kernel_rfl) (by kernel_rfl) (fun _ _ _ h => h) (Or.inl ⟨by rfl, ?_⟩) (by assumption) ?_
    rotate_left
    · intro wz hSw
      try dsimp only at hSw
      go_simp
      try with_reducible rfl
    simp only [Act.put, List.setIfInBounds_toArray, List.set_cons_zero, List.set_cons_succ]
    refine wpAnyH_take (i := 23) (oi := ⟨_, _, _, _, _, _⟩) (v := ?_) rfl (by kernel_rfl) (by kernel_rfl) (by kernel_rfl) (fun _ _ _ h => h) (Or.inl ⟨by rfl, ?_⟩) (by assumption) ?_
    rotate_left
    · intro wz hSw
      try dsimp only at hSw
      go_simp
      try with_reducible rfl
    simp only [Act.put, List.setIfInBounds_toArray, List.set_cons_zero, List.set_cons_succ]
    refine wpAnyH_take (i := 24) (oi := ⟨_, _, _, _, _, _⟩) (v := ?_) rfl (by kernel_rfl) (by kernel_rfl) (by kernel_rfl) (fun _ _ _ h => h) (Or.inl ⟨by rfl, ?_⟩) (by assumption) ?_
    rotate_left
    · intro wz hSw
      try dsimp only at hSw
      go_simp
      try with_reducible rfl
    simp only [Act.put, List.setIfInBounds_toArray, List.set_cons_zero, List.set_cons_succ]
    refine wpAnyH_take (i := 25) (oi := ⟨_, _, _, _, _, _⟩) (v := ?_) rfl (by kernel_rfl) (by kernel_rfl) (by kernel_rfl) (fun _ _ _ h => h) (Or.inl ⟨by rfl, ?_⟩) (by assumption) ?_
    rotate_left
    · intro wz hSw
      try dsimp only at hSw
      go_simp
      try with_reducible rfl
    simp only [Act.put, List.setIfInBounds_toArray, List.set_cons_zero, List.set_cons_succ]
    refine wpAnyH_done (by kernel_rfl) ?_ _
    clear hHeld hHeld0 hHeld1 hHeld2 hHeld3 n0 n1 n2 n3 hn0 hn1 hn2 hn3 N1 N2 N3 N4
    have CN := Lib.hid rnames
    go_wp2_with fail
    refine (CN.out _).mono ?_
    rintro e w3 ⟨rfl, g3, hz3, hc3⟩
    have HC := Lib.hid hc3
    clear hc3
    replace x0 := (g3.cell_far ⟨w.heap.size, 0, none⟩ hs_x (by simp)).trans x0
    replace x1 := (g3.cell_far ⟨w.heap.size, 1, none⟩ hs_x (by simp)).trans x1
    replace x2 := (g3.cell_far ⟨w.heap.size, 2, none⟩ hs_x (by simp)).trans x2
    replace x3 := (g3.cell_far ⟨w.heap.size, 3, none⟩ hs_x (by simp)).trans x3
    replace f0 := (g3.cell_far ⟨FB, 0, none⟩ hs_f (by simp)).trans f0
    replace f1 := (g3.cell_far ⟨FB, 1, none⟩ hs_f (by simp)).trans f1
    replace f2 := (g3.cell_far ⟨FB, 2, none⟩ hs_f (by simp)).trans f2
    replace f3 := (g3.cell_far ⟨FB, 3, none⟩ hs_f (by simp)).trans f3
    replace hs_x := Nat.lt_of_lt_of_le hs_x g3.size
    replace hs_f := Nat.lt_of_lt_of_le hs_f g3.size
    have G3 := Lib.hid (Gt3.out.trans g3)
    clear g3
    go_wp2
    go_loopw [7, 67] (fun av iv wr => ∃ j : Nat, j ≤ 13 ∧ iv = .int .i64 (j : Int) ∧ av = .int .i64 (atN s j) ∧ wr = w3) (fun _ iv _ => 13 - (RowKit.intOf iv).toNat)
    case atStart => exact ⟨0, by decide, rfl, rfl, rfl⟩
    case round =>
      obtain ⟨j, hj, rfl, rfl, rfl⟩ := hrel
      by_cases hlt : j < 13
      · have hcj := HC.out j hlt
        have hat : atN s (j + 1) = if ((⟨fNm j⟩ : ByteArray).toList == s.toList) = true then (j : Int) else atN s j := rfl
        have HA := Lib.hid hat
        clear hat
        have qj : (j : Int) < 13 := by omega
        have qj0 : ¬ (j : Int) < 0 := by omega
        generalize fNm j = nm at *
        generalize atN s j = aj at *
        by_cases hq : ((⟨nm⟩ : ByteArray).toList == s.toList) = true
        · go_wp2
          go_roundw
          case rel => exact ⟨j + 1, by omega, by go_num, by rw [HA.out, if_pos hq], trivial⟩
          case measure => simp [RowKit.intOf]; omega
        · have hq2 : ((⟨nm⟩ : ByteArray).toList == s.toList) = false := by simpa using hq
          have HQ := Lib.hid hq
          clear hq
          go_wp2
          go_roundw
          case rel => exact ⟨j + 1, by omega, by go_num, by rw [HA.out, if_neg HQ.out], trivial⟩
          case measure => simp [RowKit.intOf]; omega
      · obtain rfl : j = 13 := by omega
        have CV := cnamed s (HT0.out.kept G3.out)
        clear HC
        obtain ⟨hv, hat⟩ | ⟨k2, hv, hat⟩ := atN_V s
        · rw [hv] at CV
          rw [hat]
          clear hat hv
          have CV2 := Lib.hid CV
          clear CV
          go_wp2_with fail
          refine CV2.out.mono ?_
          rintro e w4 ⟨rfl, g4⟩
          clear CV2
          replace x0 := (g4.cell_far ⟨w.heap.size, 0, none⟩ hs_x (by simp)).trans x0
          replace x1 := (g4.cell_far ⟨w.heap.size, 1, none⟩ hs_x (by simp)).trans x1
          replace x2 := (g4.cell_far ⟨w.heap.size, 2, none⟩ hs_x (by simp)).trans x2
          replace x3 := (g4.cell_far ⟨w.heap.size, 3, none⟩ hs_x (by simp)).trans x3
          replace f0 := (g4.cell_far ⟨FB, 0, none⟩ hs_f (by simp)).trans f0
          replace f1 := (g4.cell_far ⟨FB, 1, none⟩ hs_f (by simp)).trans f1
          replace f2 := (g4.cell_far ⟨FB, 2, none⟩ hs_f (by simp)).trans f2
          replace f3 := (g4.cell_far ⟨FB, 3, none⟩ hs_f (by simp)).trans f3
          replace hs_x := Nat.lt_of_lt_of_le hs_x g4.size
          replace hs_f := Nat.lt_of_lt_of_le hs_f g4.size
          have G4 := Lib.hid (G3.out.trans g4)
          clear g4
          go_wp2_with fail
          have G4d := Lib.hid (G4.out.trans (⟨rfl, rfl, rfl, Nat.le_refl _, fun _ _ _ => rfl⟩ : w4.grownBy w4.drew none))
          have hsd : w.heap.size < w4.drew.heap.size := hs_x
          refine wp_region_held_drew (S := fun w' => w'.cell? ⟨w.heap.size, 0, none⟩ = some (.int .i64 (k : Int)) ∧ w'.cell? ⟨w.heap.size, 1, none⟩ = some (.int .u64 (a : Nat)) ∧ w'.cell? ⟨w.heap.size, 2, none⟩ = some (.int .u64 (b : Nat)) ∧ w'.cell? ⟨w.heap.size, 3, none⟩ = some (.int .u64 (c : Nat))) (by kernel_rfl) ⟨x0, x1, x2, x3⟩ (fun hHeld => ?_)
          refine wpAnyH_take (i := 0) (oi := ⟨_, _, _, _, _, _⟩) (v := ?_) rfl (by kernel_rfl) (by kernel_rfl) (by kernel_rfl) (fun _ _ _ h => h) (Or.inl ⟨by rfl, ?_⟩) (by assumption) ?_
          rotate_left
          · intro wz hSw
            try dsimp only at hSw
            go_simp
            try with_reducible rfl
          simp only [Act.put, List.setIfInBounds_toArray, List.set_cons_zero, List.set_cons_succ]
          refine wpAnyH_take (i := 1) (oi := ⟨_, _, _, _, _, _⟩) (v := ?_) rfl (by kernel_rfl) (by kernel_rfl) (by kernel_rfl) (fun _ _ _ h => h) (Or.inl ⟨by rfl, ?_⟩) (by assumption) ?_
          rotate_left
          · intro wz hSw
            try dsimp only at hSw
            go_simp
            try with_reducible rfl
          simp only [Act.put, List.setIfInBounds_toArray, List.set_cons_zero, List.set_cons_succ]
          refine wpAnyH_take (i := 2) (oi := ⟨_, _, _, _, _, _⟩) (v := ?_) rfl (by kernel_rfl) (by kernel_rfl) (by kernel_rfl) (fun _ _ _ h => h) (Or.inl ⟨by rfl, ?_⟩) (by assumption) ?_
          rotate_left
          · intro wz hSw
            try dsimp only at hSw
            go_simp
            try with_reducible rfl
          simp only [Act.put, List.setIfInBounds_toArray, List.set_cons_zero, List.set_cons_succ]
          refine wpAnyH_take (i := 3) (oi := ⟨_, _, _, _, _, _⟩) (v := ?_) rfl (by kernel_rfl) (by kernel_rfl) (by kernel_rfl) (fun _ _ _ h => h) (Or.inl ⟨by rfl, ?_⟩) (by assumption) ?_
          rotate_left
          · intro wz hSw
            try dsimp only at hSw
            go_simp
            try with_reducible rfl
          simp only [Act.put, List.setIfInBounds_toArray, List.set_cons_zero, List.set_cons_succ]
          refine wpAnyH_take (i := 4) (oi := ⟨_, _, _, _, _, _⟩) (v := ?_) rfl (by kernel_rfl) (by kernel_rfl) (by kernel_rfl) (fun _ _ _ h => h) (Or.inl ⟨by rfl, ?_⟩) (by assumption) ?_
          rotate_left
          · intro wz hSw
            try dsimp only at hSw
            go_simp
            try with_reducible rfl
          simp only [Act.put, List.setIfInBounds_toArray, List.set_cons_zero, List.set_cons_succ]
          refine wpAnyH_take (i := 5) (oi := ⟨_, _, _, _, _, _⟩) (v := ?_) rfl (by kernel_rfl) (by kernel_rfl) (by kernel_rfl) (fun _ _ _ h => h) (Or.inl ⟨by rfl, ?_⟩) (by assumption) ?_
          rotate_left
          · intro wz hSw
            try dsimp only at hSw
            go_simp
            try with_reducible rfl
          simp only [Act.put, List.setIfInBounds_toArray, List.set_cons_zero, List.set_cons_succ]
          refine wpAnyH_take (i := 6) (oi := ⟨_, _, _, _, _, _⟩) (v := ?_) rfl (by kernel_rfl) (by kernel_rfl) (by kernel_rfl) (fun _ _ _ h => h) (Or.inl ⟨by rfl, ?_⟩) (by assumption) ?_
          rotate_left
          · intro wz hSw
            try dsimp only at hSw
            go_simp
            try with_reducible rfl
          simp only [Act.put, List.setIfInBounds_toArray, List.set_cons_zero, List.set_cons_succ]
          refine wpAnyH_take (i := 7) (oi := ⟨_, _, _, _, _, _⟩) (v := ?_) rfl (by kernel_rfl) (by kernel_rfl) (by kernel_rfl) (fun _ _ _ h => h) (Or.inl ⟨by rfl, ?_⟩) (by assumption) ?_
          rotate_left
          · intro wz hSw
            try dsimp only at hSw
            go_simp
            try with_reducible rfl
          simp only [Act.put, List.setIfInBounds_toArray, List.set_cons_zero, List.set_cons_succ]
          refine wpAnyH_take (i := 8) (oi := ⟨_, _, _, _, _, _⟩) (v := ?_) rfl (by kernel_rfl) (by kernel_rfl) (by kernel_rfl) (fun _ _ _ h => h) (Or.inl ⟨by rfl, ?_⟩) (by assumption) ?_
          rotate_left
          · intro wz hSw
            try dsimp only at hSw
            go_simp
            try with_reducible rfl
          simp only [Act.put, List.setIfInBounds_toArray, List.set_cons_zero, List.set_cons_succ]
          refine wpAnyH_take (i := 9) (oi := ⟨_, _, _, _, _, _⟩) (v := ?_) rfl (by kernel_rfl) (by kernel_rfl) (by kernel_rfl) (fun _ _ _ h => h) (Or.inl ⟨by rfl, ?_⟩) (by assumption) ?_
          rotate_left
          · intro wz hSw
            try dsimp only at hSw
            go_simp
            try with_reducible rfl
          simp only [Act.put, List.setIfInBounds_toArray, List.set_cons_zero, List.set_cons_succ]
          refine wpAnyH_take (i := 10) (oi := ⟨_, _, _, _, _, _⟩) (v := ?_) rfl (by kernel_rfl) (by kernel_rfl) (by kernel_rfl) (fun _ _ _ h => h) (Or.inl ⟨by rfl, ?_⟩) (by assumption) ?_
          rotate_left
          · intro wz hSw
            try dsimp only at hSw
            go_simp
            try with_reducible rfl
          simp only [Act.put, List.setIfInBounds_toArray, List.set_cons_zero, List.set_cons_succ]
          refine wpAnyH_take (i := 11) (oi := ⟨_, _, _, _, _, _⟩) (v := ?_) rfl (by kernel_rfl) (by kernel_rfl) (by kernel_rfl) (fun _ _ _ h => h) (Or.inl ⟨by rfl, ?_⟩) (by assumption) ?_
          rotate_left
          · intro wz hSw
            try dsimp only at hSw
            go_simp
            try with_reducible rfl
          simp only [Act.put, List.setIfInBounds_toArray, List.set_cons_zero, List.set_cons_succ]
          refine wpAnyH_take (i := 13) (oi := ⟨_, _, _, _, _, _⟩) (v := ?_) rfl (by kernel_rfl) (by kernel_rfl) (by kernel_rfl) (fun _ _ _ h => h) (Or.inl ⟨by rfl, ?_⟩) (by assumption) ?_
          rotate_left
          · intro wz hSw
            try dsimp only at hSw
            go_simp
            try with_reducible rfl
          simp only [Act.put, List.setIfInBounds_toArray, List.set_cons_zero, List.set_cons_succ]
          refine wpAnyH_ready (rs := [12]) (by kernel_rfl) (by simp) ?_
          refine AllReadyH.cons (o := ⟨_, _, _, _, _, _⟩) rfl (fun K hK => ?_) AllReadyH.nil
          go_simp
          refine (CR0.out _ G4d.out).mono ?_
          rintro e wq1 ⟨rfl, q1⟩
          have y0 := (q1.cell_far ⟨w.heap.size, 0, none⟩ hsd (by simp)).trans x0
          have y1 := (q1.cell_far ⟨w.heap.size, 1, none⟩ hsd (by simp)).trans x1
          have y2 := (q1.cell_far ⟨w.heap.size, 2, none⟩ hsd (by simp)).trans x2
          have y3 := (q1.cell_far ⟨w.heap.size, 3, none⟩ hsd (by simp)).trans x3
          have Gq1 := Lib.hid (G4d.out.trans q1)
          have hsd1 := Nat.lt_of_lt_of_le hsd q1.size
          clear q1
          refine hK.out _ _ ⟨y0, y1, y2, y3⟩ (fun hHeld => ?_)
          clear hK K
          try simp only [Act.put, List.setIfInBounds_toArray, List.set_cons_zero, List.set_cons_succ]
          refine wpAnyH_ready (rs := [14]) (by kernel_rfl) (by simp) ?_
          refine AllReadyH.cons (o := ⟨_, _, _, _, _, _⟩) rfl (fun K hK => ?_) AllReadyH.nil
          go_simp
          refine (CR1.out _).mono ?_
          rintro e wq2 ⟨rfl, q2⟩
          have v0 := (q2.cell_far ⟨w.heap.size, 0, none⟩ hsd1 (by simp)).trans y0
          have v1 := (q2.cell_far ⟨w.heap.size, 1, none⟩ hsd1 (by simp)).trans y1
          have v2 := (q2.cell_far ⟨w.heap.size, 2, none⟩ hsd1 (by simp)).trans y2
          have v3 := (q2.cell_far ⟨w.heap.size, 3, none⟩ hsd1 (by simp)).trans y3
          have Gq2 := Lib.hid (Gq1.out.trans q2)
          clear q2
          refine hK.out _ _ ⟨v0, v1, v2, v3⟩ (fun hHeld => ?_)
          clear hK K
          try simp only [Act.put, List.setIfInBounds_toArray, List.set_cons_zero, List.set_cons_succ]
          refine wpAnyH_take (i := 15) (oi := ⟨_, _, _, _, _, _⟩) (v := ?_) rfl (by kernel_rfl) (by kernel_rfl) (by kernel_rfl) (fun _ _ _ h => h) (Or.inl ⟨by rfl, ?_⟩) (by assumption) ?_
          rotate_left
          · intro wz hSw
            try dsimp only at hSw
            go_simp
            try with_reducible rfl
          simp only [Act.put, List.setIfInBounds_toArray, List.set_cons_zero, List.set_cons_succ]
          refine wpAnyH_take (i := 16) (oi := ⟨_, _, _, _, _, _⟩) (v := ?_) rfl (by kernel_rfl) (by kernel_rfl) (by kernel_rfl) (fun _ _ _ h => h) (Or.inl ⟨by rfl, ?_⟩) (by assumption) ?_
          rotate_left
          · intro wz hSw
            try dsimp only at hSw
            go_simp
            try with_reducible rfl
          simp only [Act.put, List.setIfInBounds_toArray, List.set_cons_zero, List.set_cons_succ]
          refine wpAnyH_take (i := 17) (oi := ⟨_, _, _, _, _, _⟩) (v := ?_) rfl (by kernel_rfl) (by kernel_rfl) (by kernel_rfl) (fun _ _ _ h => h) (Or.inl ⟨by rfl, ?_⟩) (by assumption) ?_
          rotate_left
          · intro wz hSw
            try dsimp only at hSw
            go_simp
            try with_reducible rfl
          simp only [Act.put, List.setIfInBounds_toArray, List.set_cons_zero, List.set_cons_succ]
          refine wpAnyH_done (by kernel_rfl) ?_ _
          clear hHeld
          go_wp2
          go_ret
          exact ⟨by first | (simp; done) | (simp; omega) | (simp; decide), Gq2.out⟩
        · rw [hv] at CV
          rw [hat]
          clear hat hv
          have qm : (0 : Int) ≤ (k2 : Int) := by omega
          have qmx : (if (k2 : Int) < 0 then 0 else (k2 : Int)) = (k2 : Int) := by rw [if_neg]; omega
          have qmm : max (k2 : Int) 0 = (k2 : Int) := by omega
          have qge : (k2 : Int) ≥ 0 := by omega
          have CV2 := Lib.hid CV
          clear CV
          go_wp2_with fail
          refine CV2.out.mono ?_
          rintro e w4 ⟨rfl, g4⟩
          clear CV2
          replace x0 := (g4.cell_far ⟨w.heap.size, 0, none⟩ hs_x (by simp)).trans x0
          replace x1 := (g4.cell_far ⟨w.heap.size, 1, none⟩ hs_x (by simp)).trans x1
          replace x2 := (g4.cell_far ⟨w.heap.size, 2, none⟩ hs_x (by simp)).trans x2
          replace x3 := (g4.cell_far ⟨w.heap.size, 3, none⟩ hs_x (by simp)).trans x3
          replace f0 := (g4.cell_far ⟨FB, 0, none⟩ hs_f (by simp)).trans f0
          replace f1 := (g4.cell_far ⟨FB, 1, none⟩ hs_f (by simp)).trans f1
          replace f2 := (g4.cell_far ⟨FB, 2, none⟩ hs_f (by simp)).trans f2
          replace f3 := (g4.cell_far ⟨FB, 3, none⟩ hs_f (by simp)).trans f3
          replace hs_x := Nat.lt_of_lt_of_le hs_x g4.size
          replace hs_f := Nat.lt_of_lt_of_le hs_f g4.size
          have G4 := Lib.hid (G3.out.trans g4)
          clear g4
          go_wp2_with fail
          have G4d := Lib.hid (G4.out.trans (⟨rfl, rfl, rfl, Nat.le_refl _, fun _ _ _ => rfl⟩ : w4.grownBy w4.drew none))
          have hsd : w.heap.size < w4.drew.heap.size := hs_x
          refine wp_region_held_drew (S := fun w' => w'.cell? ⟨w.heap.size, 0, none⟩ = some (.int .i64 (k : Int)) ∧ w'.cell? ⟨w.heap.size, 1, none⟩ = some (.int .u64 (a : Nat)) ∧ w'.cell? ⟨w.heap.size, 2, none⟩ = some (.int .u64 (b : Nat)) ∧ w'.cell? ⟨w.heap.size, 3, none⟩ = some (.int .u64 (c : Nat))) (by kernel_rfl) ⟨x0, x1, x2, x3⟩ (fun hHeld => ?_)
          refine wpAnyH_take (i := 0) (oi := ⟨_, _, _, _, _, _⟩) (v := ?_) rfl (by kernel_rfl) (by kernel_rfl) (by kernel_rfl) (fun _ _ _ h => h) (Or.inl ⟨by rfl, ?_⟩) (by assumption) ?_
          rotate_left
          · intro wz hSw
            try dsimp only at hSw
            go_simp
            try with_reducible rfl
          simp only [Act.put, List.setIfInBounds_toArray, List.set_cons_zero, List.set_cons_succ]
          refine wpAnyH_take (i := 1) (oi := ⟨_, _, _, _, _, _⟩) (v := ?_) rfl (by kernel_rfl) (by kernel_rfl) (by kernel_rfl) (fun _ _ _ h => h) (Or.inl ⟨by rfl, ?_⟩) (by assumption) ?_
          rotate_left
          · intro wz hSw
            try dsimp only at hSw
            go_simp
            try with_reducible rfl
          simp only [Act.put, List.setIfInBounds_toArray, List.set_cons_zero, List.set_cons_succ]
          refine wpAnyH_take (i := 2) (oi := ⟨_, _, _, _, _, _⟩) (v := ?_) rfl (by kernel_rfl) (by kernel_rfl) (by kernel_rfl) (fun _ _ _ h => h) (Or.inl ⟨by rfl, ?_⟩) (by assumption) ?_
          rotate_left
          · intro wz hSw
            try dsimp only at hSw
            go_simp
            try with_reducible rfl
          simp only [Act.put, List.setIfInBounds_toArray, List.set_cons_zero, List.set_cons_succ]
          refine wpAnyH_take (i := 3) (oi := ⟨_, _, _, _, _, _⟩) (v := ?_) rfl (by kernel_rfl) (by kernel_rfl) (by kernel_rfl) (fun _ _ _ h => h) (Or.inl ⟨by rfl, ?_⟩) (by assumption) ?_
          rotate_left
          · intro wz hSw
            try dsimp only at hSw
            go_simp
            try with_reducible rfl
          simp only [Act.put, List.setIfInBounds_toArray, List.set_cons_zero, List.set_cons_succ]
          refine wpAnyH_take (i := 4) (oi := ⟨_, _, _, _, _, _⟩) (v := ?_) rfl (by kernel_rfl) (by kernel_rfl) (by kernel_rfl) (fun _ _ _ h => h) (Or.inl ⟨by rfl, ?_⟩) (by assumption) ?_
          rotate_left
          · intro wz hSw
            try dsimp only at hSw
            go_simp
            try with_reducible rfl
          simp only [Act.put, List.setIfInBounds_toArray, List.set_cons_zero, List.set_cons_succ]
          refine wpAnyH_take (i := 5) (oi := ⟨_, _, _, _, _, _⟩) (v := ?_) rfl (by kernel_rfl) (by kernel_rfl) (by kernel_rfl) (fun _ _ _ h => h) (Or.inl ⟨by rfl, ?_⟩) (by assumption) ?_
          rotate_left
          · intro wz hSw
            try dsimp only at hSw
            go_simp
            try with_reducible rfl
          simp only [Act.put, List.setIfInBounds_toArray, List.set_cons_zero, List.set_cons_succ]
          refine wpAnyH_take (i := 6) (oi := ⟨_, _, _, _, _, _⟩) (v := ?_) rfl (by kernel_rfl) (by kernel_rfl) (by kernel_rfl) (fun _ _ _ h => h) (Or.inl ⟨by rfl, ?_⟩) (by assumption) ?_
          rotate_left
          · intro wz hSw
            try dsimp only at hSw
            go_simp
            try with_reducible rfl
          simp only [Act.put, List.setIfInBounds_toArray, List.set_cons_zero, List.set_cons_succ]
          refine wpAnyH_take (i := 7) (oi := ⟨_, _, _, _, _, _⟩) (v := ?_) rfl (by kernel_rfl) (by kernel_rfl) (by kernel_rfl) (fun _ _ _ h => h) (Or.inl ⟨by rfl, ?_⟩) (by assumption) ?_
          rotate_left
          · intro wz hSw
            try dsimp only at hSw
            go_simp
            try with_reducible rfl
          simp only [Act.put, List.setIfInBounds_toArray, List.set_cons_zero, List.set_cons_succ]
          refine wpAnyH_take (i := 8) (oi := ⟨_, _, _, _, _, _⟩) (v := ?_) rfl (by kernel_rfl) (by kernel_rfl) (by kernel_rfl) (fun _ _ _ h => h) (Or.inl ⟨by rfl, ?_⟩) (by assumption) ?_
          rotate_left
          · intro wz hSw
            try dsimp only at hSw
            go_simp
            try with_reducible rfl
          simp only [Act.put, List.setIfInBounds_toArray, List.set_cons_zero, List.set_cons_succ]
          refine wpAnyH_take (i := 9) (oi := ⟨_, _, _, _, _, _⟩) (v := ?_) rfl (by kernel_rfl) (by kernel_rfl) (by kernel_rfl) (fun _ _ _ h => h) (Or.inl ⟨by rfl, ?_⟩) (by assumption) ?_
          rotate_left
          · intro wz hSw
            try dsimp only at hSw
            go_simp
            try with_reducible rfl
          simp only [Act.put, List.setIfInBounds_toArray, List.set_cons_zero, List.set_cons_succ]
          refine wpAnyH_take (i := 10) (oi := ⟨_, _, _, _, _, _⟩) (v := ?_) rfl (by kernel_rfl) (by kernel_rfl) (by kernel_rfl) (fun _ _ _ h => h) (Or.inl ⟨by rfl, ?_⟩) (by assumption) ?_
          rotate_left
          · intro wz hSw
            try dsimp only at hSw
            go_simp
            try with_reducible rfl
          simp only [Act.put, List.setIfInBounds_toArray, List.set_cons_zero, List.set_cons_succ]
          refine wpAnyH_take (i := 11) (oi := ⟨_, _, _, _, _, _⟩) (v := ?_) rfl (by kernel_rfl) (by kernel_rfl) (by kernel_rfl) (fun _ _ _ h => h) (Or.inl ⟨by rfl, ?_⟩) (by assumption) ?_
          rotate_left
          · intro wz hSw
            try dsimp only at hSw
            go_simp
            try with_reducible rfl
          simp only [Act.put, List.setIfInBounds_toArray, List.set_cons_zero, List.set_cons_succ]
          refine wpAnyH_take (i := 13) (oi := ⟨_, _, _, _, _, _⟩) (v := ?_) rfl (by kernel_rfl) (by kernel_rfl) (by kernel_rfl) (fun _ _ _ h => h) (Or.inl ⟨by rfl, ?_⟩) (by assumption) ?_
          rotate_left
          · intro wz hSw
            try dsimp only at hSw
            go_simp
            try with_reducible rfl
          simp only [Act.put, List.setIfInBounds_toArray, List.set_cons_zero, List.set_cons_succ]
          refine wpAnyH_ready (rs := [12]) (by kernel_rfl) (by simp) ?_
          refine AllReadyH.cons (o := ⟨_, _, _, _, _, _⟩) rfl (fun K hK => ?_) AllReadyH.nil
          go_simp
          refine (CR0.out _ G4d.out).mono ?_
          rintro e wq1 ⟨rfl, q1⟩
          have y0 := (q1.cell_far ⟨w.heap.size, 0, none⟩ hsd (by simp)).trans x0
          have y1 := (q1.cell_far ⟨w.heap.size, 1, none⟩ hsd (by simp)).trans x1
          have y2 := (q1.cell_far ⟨w.heap.size, 2, none⟩ hsd (by simp)).trans x2
          have y3 := (q1.cell_far ⟨w.heap.size, 3, none⟩ hsd (by simp)).trans x3
          have Gq1 := Lib.hid (G4d.out.trans q1)
          have hsd1 := Nat.lt_of_lt_of_le hsd q1.size
          clear q1
          refine hK.out _ _ ⟨y0, y1, y2, y3⟩ (fun hHeld => ?_)
          clear hK K
          try simp only [Act.put, List.setIfInBounds_toArray, List.set_cons_zero, List.set_cons_succ]
          refine wpAnyH_ready (rs := [14]) (by kernel_rfl) (by simp) ?_
          refine AllReadyH.cons (o := ⟨_, _, _, _, _, _⟩) rfl (fun K hK => ?_) AllReadyH.nil
          go_simp
          refine (CR1.out _).mono ?_
          rintro e wq2 ⟨rfl, q2⟩
          have v0 := (q2.cell_far ⟨w.heap.size, 0, none⟩ hsd1 (by simp)).trans y0
          have v1 := (q2.cell_far ⟨w.heap.size, 1, none⟩ hsd1 (by simp)).trans y1
          have v2 := (q2.cell_far ⟨w.heap.size, 2, none⟩ hsd1 (by simp)).trans y2
          have v3 := (q2.cell_far ⟨w.heap.size, 3, none⟩ hsd1 (by simp)).trans y3
          have Gq2 := Lib.hid (Gq1.out.trans q2)
          clear q2
          refine hK.out _ _ ⟨v0, v1, v2, v3⟩ (fun hHeld => ?_)
          clear hK K
          try simp only [Act.put, List.setIfInBounds_toArray, List.set_cons_zero, List.set_cons_succ]
          refine wpAnyH_take (i := 15) (oi := ⟨_, _, _, _, _, _⟩) (v := ?_) rfl (by kernel_rfl) (by kernel_rfl) (by kernel_rfl) (fun _ _ _ h => h) (Or.inl ⟨by rfl, ?_⟩) (by assumption) ?_
          rotate_left
          · intro wz hSw
            try dsimp only at hSw
            go_simp
            try with_reducible rfl
          simp only [Act.put, List.setIfInBounds_toArray, List.set_cons_zero, List.set_cons_succ]
          refine wpAnyH_take (i := 16) (oi := ⟨_, _, _, _, _, _⟩) (v := ?_) rfl (by kernel_rfl) (by kernel_rfl) (by kernel_rfl) (fun _ _ _ h => h) (Or.inl ⟨by rfl, ?_⟩) (by assumption) ?_
          rotate_left
          · intro wz hSw
            try dsimp only at hSw
            go_simp
            try with_reducible rfl
          simp only [Act.put, List.setIfInBounds_toArray, List.set_cons_zero, List.set_cons_succ]
          refine wpAnyH_take (i := 17) (oi := ⟨_, _, _, _, _, _⟩) (v := ?_) rfl (by kernel_rfl) (by kernel_rfl) (by kernel_rfl) (fun _ _ _ h => h) (Or.inl ⟨by rfl, ?_⟩) (by assumption) ?_
          rotate_left
          · intro wz hSw
            try dsimp only at hSw
            go_simp
            try with_reducible rfl
          simp only [Act.put, List.setIfInBounds_toArray, List.set_cons_zero, List.set_cons_succ]
          refine wpAnyH_done (by kernel_rfl) ?_ _
          clear hHeld
          go_wp2
          go_ret
          exact ⟨by first | (simp; done) | (simp; omega) | (simp; decide), Gq2.out⟩
end Go.Proofs.YtcnojgkolpdomaaDoor
