/-
  nightjarref14, over this seat's translation: Names, Args, Kinds, Rights, Right, Same.
-/
import Derived.Test.YtcnojgkolpdomaaDoorCall5
import Derived.Deep.RegionHeld3
namespace Go.Proofs.YtcnojgkolpdomaaDoor
open Go.RowKit Go.Lib
set_option maxRecDepth 100000
set_option linter.unusedVariables false

theorem rnames (w : World) : Calls Tryd.prog 15 #[] w fun e w' => e = .returned (.slice (some ⟨w.heap.size, 0, none⟩) 13 13) ∧ w.grownBy w' none ∧ w.heap.size < w'.heap.size ∧ ∀ k, k < 13 → w'.cell? ⟨w.heap.size, k, none⟩ = some (.string ⟨fNm k⟩) := by
  go_enter Tryd.func15, Tryd.ntmps15
  go_wp2
  go_ret
  refine ⟨rfl, World.grownBy_alloc w _ none, by simp, fun k hk => ?_⟩
  rw [World.cell?_alloc_new]
  match k, hk with
  | 0, _ => rfl | 1, _ => rfl | 2, _ => rfl | 3, _ => rfl | 4, _ => rfl | 5, _ => rfl | 6, _ => rfl | 7, _ => rfl | 8, _ => rfl | 9, _ => rfl | 10, _ => rfl | 11, _ => rfl | 12, _ => rfl
theorem rargs (w : World) : Calls Tryd.prog 16 #[] w fun e w' => e = .returned (.slice (some ⟨w.heap.size, 0, none⟩) 13 13) ∧ w.grownBy w' none ∧ w.heap.size < w'.heap.size ∧ ∀ k, k < 13 → w'.cell? ⟨w.heap.size, k, none⟩ = some (.int .i64 (nArgs k : Nat)) := by
  go_enter Tryd.func16, Tryd.ntmps16
  go_wp2
  go_ret
  refine ⟨rfl, World.grownBy_alloc w _ none, by simp, fun k hk => ?_⟩
  rw [World.cell?_alloc_new]
  match k, hk with
  | 0, _ => rfl | 1, _ => rfl | 2, _ => rfl | 3, _ => rfl | 4, _ => rfl | 5, _ => rfl | 6, _ => rfl | 7, _ => rfl | 8, _ => rfl | 9, _ => rfl | 10, _ => rfl | 11, _ => rfl | 12, _ => rfl
theorem rkinds (w : World) : Calls Tryd.prog 17 #[] w fun e w' => e = .returned (.slice (some ⟨w.heap.size, 0, none⟩) 13 13) ∧ w.grownBy w' none ∧ w.heap.size < w'.heap.size ∧ ∀ k, k < 13 → w'.cell? ⟨w.heap.size, k, none⟩ = some (.int .i64 (fKd k : Nat)) := by
  go_enter Tryd.func17, Tryd.ntmps17
  go_wp2
  go_ret
  refine ⟨rfl, World.grownBy_alloc w _ none, by simp, fun k hk => ?_⟩
  rw [World.cell?_alloc_new]
  match k, hk with
  | 0, _ => rfl | 1, _ => rfl | 2, _ => rfl | 3, _ => rfl | 4, _ => rfl | 5, _ => rfl | 6, _ => rfl | 7, _ => rfl | 8, _ => rfl | 9, _ => rfl | 10, _ => rfl | 11, _ => rfl | 12, _ => rfl
theorem rrights (w : World) : Calls Tryd.prog 18 #[] w fun e w' => e = .returned (.slice (some ⟨w.heap.size, 0, none⟩) 13 13) ∧ w.grownBy w' none ∧ w.heap.size < w'.heap.size ∧ ∀ k, k < 13 → w'.cell? ⟨w.heap.size, k, none⟩ = some (.int .i64 (fRt k : Nat)) := by
  go_enter Tryd.func18, Tryd.ntmps18
  go_wp2
  go_ret
  refine ⟨rfl, World.grownBy_alloc w _ none, by simp, fun k hk => ?_⟩
  rw [World.cell?_alloc_new]
  match k, hk with
  | 0, _ => rfl | 1, _ => rfl | 2, _ => rfl | 3, _ => rfl | 4, _ => rfl | 5, _ => rfl | 6, _ => rfl | 7, _ => rfl | 8, _ => rfl | 9, _ => rfl | 10, _ => rfl | 11, _ => rfl | 12, _ => rfl

set_option maxHeartbeats 2000000 in
theorem rright (w : World) (x : Cl) (hs : smC x) :
    Calls Tryd.prog 21 #[x.val] w fun e w' => e = .returned (.bool (okC x)) ∧ w.grownBy w' none := by
  obtain ⟨op, a, b, c⟩ := x
  obtain ⟨ha, hb, hc⟩ := hs
  simp only at ha hb hc
  unfold Cl.val
  simp only
  have k1 := World.grownBy_alloc w (.cells #[.int .i64 op, .int .u64 (a : Nat), .int .u64 (b : Nat), .int .u64 (c : Nat)] 24) none
  by_cases hop : op < 0
  · rw [okC_no _ (Or.inl hop)]
    go_enter Tryd.func21, Tryd.ntmps21
    go_wp2
    go_ret
    exact ⟨rfl, k1⟩
  by_cases hop2 : 13 ≤ op
  · rw [okC_no _ (Or.inr hop2)]
    have q1 : op ≥ 13 := hop2
    go_enter Tryd.func21, Tryd.ntmps21
    go_wp2
    go_ret
    exact ⟨rfl, k1⟩
  obtain ⟨k, rfl⟩ : ∃ k : Nat, op = (k : Int) := ⟨op.toNat, by omega⟩
  have hk : k < 13 := by omega
  rw [okC_in _ k rfl hk]
  obtain ⟨R, hR⟩ : ∃ R, R = zFrom ⟨(k : Int), a, b, c⟩ (nArgs k) := ⟨_, rfl⟩
  rw [← hR]
  have C1 := Lib.hid (rargs)
  have hna := nArgs_le k
  have q1 : ¬ (k : Int) ≥ 13 := by omega
  have q0 : ¬ (k : Int) < 0 := by omega
  have q2 : (k : Int) < 13 := by omega
  clear hop hop2
  go_enter Tryd.func21, Tryd.ntmps21
  go_wp2_with fail
  have hX : w.heap.size < (w.alloc (.cells #[.int .i64 (k : Int), .int .u64 (a : Nat), .int .u64 (b : Nat), .int .u64 (c : Nat)] 24)).drew.heap.size := by simp [World.drew]
  have x0 : (w.alloc (.cells #[.int .i64 (k : Int), .int .u64 (a : Nat), .int .u64 (b : Nat), .int .u64 (c : Nat)] 24)).drew.cell? ⟨w.heap.size, 0, none⟩ = some (.int .i64 (k : Int)) := World.cell?_alloc_new ..
  have x1 : (w.alloc (.cells #[.int .i64 (k : Int), .int .u64 (a : Nat), .int .u64 (b : Nat), .int .u64 (c : Nat)] 24)).drew.cell? ⟨w.heap.size, 1, none⟩ = some (.int .u64 (a : Nat)) := World.cell?_alloc_new ..
  have x2 : (w.alloc (.cells #[.int .i64 (k : Int), .int .u64 (a : Nat), .int .u64 (b : Nat), .int .u64 (c : Nat)] 24)).drew.cell? ⟨w.heap.size, 2, none⟩ = some (.int .u64 (b : Nat)) := World.cell?_alloc_new ..
  have x3 : (w.alloc (.cells #[.int .i64 (k : Int), .int .u64 (a : Nat), .int .u64 (b : Nat), .int .u64 (c : Nat)] 24)).drew.cell? ⟨w.heap.size, 3, none⟩ = some (.int .u64 (c : Nat)) := World.cell?_alloc_new ..
  have k2 : w.grownBy (w.alloc (.cells #[.int .i64 (k : Int), .int .u64 (a : Nat), .int .u64 (b : Nat), .int .u64 (c : Nat)] 24)).drew none := k1.trans ⟨rfl, rfl, rfl, Nat.le_refl _, fun _ _ _ => rfl⟩
  generalize w.alloc (.cells #[.int .i64 (k : Int), .int .u64 (a : Nat), .int .u64 (b : Nat), .int .u64 (c : Nat)] 24) = w1 at *
  have K2 := Lib.hid k2
  clear k1 k2
  generalize w.heap.size = X at *
  refine wp_region_held_drew (S := fun w' => w'.cell? ⟨X, 0, none⟩ = some (.int .i64 (k : Int))) (by kernel_rfl) x0 (fun hHeld => ?_)
  refine wpAnyH_take (i := 1) (oi := ⟨_, _, _, _, _, _⟩) (v := ?_) rfl (by kernel_rfl) (by kernel_rfl) (by kernel_rfl) (fun _ _ _ h => h) (Or.inl ⟨by rfl, ?_⟩) (by assumption) ?_
  rotate_left
  · intro wz hSw
    try dsimp only at hSw
    go_simp
    try with_reducible rfl
  simp only [Act.put, List.setIfInBounds_toArray, List.set_cons_zero, List.set_cons_succ]
  refine wpAnyH_take (i := 2) (oi := ⟨_, _, _, _, _, _⟩) (v := ?_) rfl (by kernel_rfl) (by kernel_rfl) (by kernel_rfl) (fun _ _ _ h => h) (Or.inl ⟨by rfl, ?_⟩) (by assumption) ?_
  rotate_left
  · intro wz hSw
    try dsimp only at hSw
    go_simp
    try with_reducible rfl
  simp only [Act.put, List.setIfInBounds_toArray, List.set_cons_zero, List.set_cons_succ]
  refine wpAnyH_ready (rs := [0]) (by kernel_rfl) (by simp) ?_
  refine AllReadyH.cons (o := ⟨_, _, _, _, _, _⟩) rfl (fun K hK => ?_) AllReadyH.nil
  go_simp
  refine (C1.out _).mono ?_
  rintro e w2 ⟨rfl, T2, hs2, hc2⟩
  have x0a := (T2.cell_far ⟨X, 0, none⟩ hX (by simp)).trans x0
  have x1a := (T2.cell_far ⟨X, 1, none⟩ hX (by simp)).trans x1
  have x2a := (T2.cell_far ⟨X, 2, none⟩ hX (by simp)).trans x2
  have x3a := (T2.cell_far ⟨X, 3, none⟩ hX (by simp)).trans x3
  have hck : w2.cell? ⟨w1.heap.size, k, none⟩ = some (.int .i64 (nArgs k : Nat)) := hc2 k hk
  have K3 := Lib.hid (K2.out.trans T2)
  clear hc2 x0 x1 x2 x3 T2 C1 K2
  refine hK.out _ _ x0a (fun hHeld => ?_)
  clear hK K
  try simp only [Act.put, List.setIfInBounds_toArray, List.set_cons_zero, List.set_cons_succ]
  refine wpAnyH_take (i := 3) (oi := ⟨_, _, _, _, _, _⟩) (v := ?_) rfl (by kernel_rfl) (by kernel_rfl) (by kernel_rfl) (fun _ _ _ h => h) (Or.inl ⟨by rfl, ?_⟩) (by assumption) ?_
  rotate_left
  · intro wz hSw
    try dsimp only at hSw
    go_simp
    try with_reducible rfl
  simp only [Act.put, List.setIfInBounds_toArray, List.set_cons_zero, List.set_cons_succ]
  refine wpAnyH_ready (rs := [4]) (by kernel_rfl) (by simp) ?_
  refine AllReadyH.cons (o := ⟨_, _, _, _, _, _⟩) rfl (fun K hK => ?_) AllReadyH.nil
  go_simp
  refine hK.out _ _ x0a (fun hHeld => ?_)
  clear hK K
  try simp only [Act.put, List.setIfInBounds_toArray, List.set_cons_zero, List.set_cons_succ]
  refine wpAnyH_take (i := 5) (oi := ⟨_, _, _, _, _, _⟩) (v := ?_) rfl (by kernel_rfl) (by kernel_rfl) (by kernel_rfl) (fun _ _ _ h => h) (Or.inl ⟨by rfl, ?_⟩) (by assumption) ?_
  rotate_left
  · intro wz hSw
    try dsimp only at hSw
    go_simp
    try with_reducible rfl
  simp only [Act.put, List.setIfInBounds_toArray, List.set_cons_zero, List.set_cons_succ]
  refine wpAnyH_done (by kernel_rfl) ?_ _
  clear hHeld
  generalize nArgs k = na at *
  unfold zFrom at hR
  simp only at hR
  have qa : a = 0 ∨ ((a : Int) == 0) = false := by rcases Nat.eq_zero_or_pos a with h | h; exact Or.inl h; exact Or.inr (by rw [beq_eq_false_iff_ne]; omega)
  have qb : b = 0 ∨ ((b : Int) == 0) = false := by rcases Nat.eq_zero_or_pos b with h | h; exact Or.inl h; exact Or.inr (by rw [beq_eq_false_iff_ne]; omega)
  have qc : c = 0 ∨ ((c : Int) == 0) = false := by rcases Nat.eq_zero_or_pos c with h | h; exact Or.inl h; exact Or.inr (by rw [beq_eq_false_iff_ne]; omega)
  have HR := Lib.hid hR
  clear hR
  match na, hna with
  | 0, _ =>
    rcases qa with rfl | qa <;> rcases qb with rfl | qb <;> rcases qc with rfl | qc <;> (go_wp2; go_ret; refine ⟨?_, K3.out⟩; rw [HR.out]; simp_all)
  | 1, _ =>
    rcases qa with rfl | qa <;> rcases qb with rfl | qb <;> rcases qc with rfl | qc <;> (go_wp2; go_ret; refine ⟨?_, K3.out⟩; rw [HR.out]; simp_all)
  | 2, _ =>
    rcases qa with rfl | qa <;> rcases qb with rfl | qb <;> rcases qc with rfl | qc <;> (go_wp2; go_ret; refine ⟨?_, K3.out⟩; rw [HR.out]; simp_all)
  | 3, _ =>
    rcases qa with rfl | qa <;> rcases qb with rfl | qb <;> rcases qc with rfl | qc <;> (go_wp2; go_ret; refine ⟨?_, K3.out⟩; rw [HR.out]; simp_all)
end Go.Proofs.YtcnojgkolpdomaaDoor
