/-
  wire.Right, over this seat's translation: may an entry be?
-/
import Derived.Test.YtcnojgkolpdomaaDoorWire1
import Derived.Deep.RegionHeld3
namespace Go.Proofs.YtcnojgkolpdomaaDoor
open Go.RowKit Go.Lib
set_option maxRecDepth 100000
set_option linter.unusedVariables false

theorem okE_0 (w n : Int) (c : Cl) (d m : Int) : okE ⟨0, w, n, c, d, m⟩ = (beqE ⟨0, w, n, c, d, m⟩ ⟨0, 0, n, zC, 0, 0⟩ && (decide (1 ≤ n) && decide (n ≤ 100))) := by
  rw [Bool.eq_iff_iff, Bool.and_eq_true, beqE_iff]
  simp [okE, isZ_iff]
  constructor
  · rintro ⟨⟨⟨⟨⟨h1, h2⟩, h3⟩, h4⟩, h5⟩, h6⟩; exact ⟨⟨h3, h4, h5, h6⟩, h1, h2⟩
  · rintro ⟨⟨h3, h4, h5, h6⟩, h1, h2⟩; exact ⟨⟨⟨⟨⟨h1, h2⟩, h3⟩, h4⟩, h5⟩, h6⟩
theorem okE_1 (w n : Int) (c : Cl) (d m : Int) : okE ⟨1, w, n, c, d, m⟩ = (beqE ⟨1, w, n, c, d, m⟩ ⟨1, w, 0, c, 0, 0⟩ && ((decide (0 ≤ w) && decide (w ≤ 255)) && okC c)) := by
  rw [Bool.eq_iff_iff, Bool.and_eq_true, beqE_iff]
  simp [okE]
  constructor
  · rintro ⟨⟨⟨⟨⟨h1, h2⟩, h3⟩, h4⟩, h5⟩, h6⟩; exact ⟨⟨h4, h5, h6⟩, ⟨h1, by omega⟩, h3⟩
  · rintro ⟨⟨h4, h5, h6⟩, ⟨h1, h2⟩, h3⟩; exact ⟨⟨⟨⟨⟨h1, by omega⟩, h3⟩, h4⟩, h5⟩, h6⟩
theorem okE_2 (w n : Int) (c : Cl) (d m : Int) : okE ⟨2, w, n, c, d, m⟩ = (beqE ⟨2, w, n, c, d, m⟩ ⟨2, w, 0, zC, d, m⟩ && ((decide (0 ≤ w) && decide (w ≤ 255)) && ((decide (0 ≤ d) && decide (d ≤ 255)) && (decide (1 ≤ m) && decide (m ≤ 7))))) := by
  rw [Bool.eq_iff_iff, Bool.and_eq_true, beqE_iff]
  simp [okE, isZ_iff]
  constructor
  · rintro ⟨⟨⟨⟨⟨⟨⟨h1, h2⟩, h3⟩, h4⟩, h5⟩, h6⟩, h7⟩, h8⟩; exact ⟨⟨h7, h8⟩, ⟨h1, by omega⟩, ⟨h3, by omega⟩, h5, h6⟩
  · rintro ⟨⟨h7, h8⟩, ⟨h1, h2⟩, ⟨h3, h4⟩, h5, h6⟩; exact ⟨⟨⟨⟨⟨⟨⟨h1, by omega⟩, h3⟩, by omega⟩, h5⟩, h6⟩, h7⟩, h8⟩
theorem okE_x (k w n : Int) (c : Cl) (d m : Int) (h0 : k ≠ 0) (h1 : k ≠ 1) (h2 : k ≠ 2) : okE ⟨k, w, n, c, d, m⟩ = false := by
  simp [okE, h0, h1, h2]

set_option maxHeartbeats 4000000 in
theorem wright_0 (w : World) (who n op d m : Int) (a b c : Nat) :
    Calls Tryd.prog 34 #[(En.mk 0 who n ⟨op, a, b, c⟩ d m).val] w fun e w' => e = .returned (.bool (okE ⟨0, who, n, ⟨op, a, b, c⟩, d, m⟩)) ∧ w.grownBy w' none := by
  rw [okE_0]
  unfold En.val
  simp only
  obtain ⟨q, hq⟩ : ∃ q, beqE ⟨0, who, n, ⟨op, a, b, c⟩, d, m⟩ ⟨0, 0, n, zC, 0, 0⟩ = q := ⟨_, rfl⟩
  rw [hq]
  have hE : ∀ w5 : World, (binOp .eql 55 (.agg #[.int .i64 0, .int .i64 who, .int .i64 n, .int .i64 op, .int .u64 (a : Nat), .int .u64 (b : Nat), .int .u64 (c : Nat), .int .i64 d, .int .i64 m]) (.agg #[.int .i64 0, .int .i64 0, .int .i64 n, .int .i64 0, .int .u64 0, .int .u64 0, .int .u64 0, .int .i64 0, .int .i64 0])).run Tryd.prog w5 = .ok (.bool q) w5 := fun w5 => hq ▸ eqlE ⟨0, who, n, ⟨op, a, b, c⟩, d, m⟩ ⟨0, 0, n, zC, 0, 0⟩ w5
  clear hq
  have C1 := Lib.hid (fun wz => wtick wz n)
  have C2 := Lib.hid (fun wz => wwithin wz n 1 100)
  have k1 := World.grownBy_alloc w (.cells #[.int .i64 0, .int .i64 who, .int .i64 n, .int .i64 op, .int .u64 (a : Nat), .int .u64 (b : Nat), .int .u64 (c : Nat), .int .i64 d, .int .i64 m] 55) none
  have kd := k1.trans (⟨rfl, rfl, rfl, Nat.le_refl _, fun _ _ _ => rfl⟩ : (w.alloc (.cells #[.int .i64 0, .int .i64 who, .int .i64 n, .int .i64 op, .int .u64 (a : Nat), .int .u64 (b : Nat), .int .u64 (c : Nat), .int .i64 d, .int .i64 m] 55)).grownBy (w.alloc (.cells #[.int .i64 0, .int .i64 who, .int .i64 n, .int .i64 op, .int .u64 (a : Nat), .int .u64 (b : Nat), .int .u64 (c : Nat), .int .i64 d, .int .i64 m] 55)).drew none)
  have hsx : w.heap.size < (w.alloc (.cells #[.int .i64 0, .int .i64 who, .int .i64 n, .int .i64 op, .int .u64 (a : Nat), .int .u64 (b : Nat), .int .u64 (c : Nat), .int .i64 d, .int .i64 m] 55)).drew.heap.size := by show _ < (w.alloc _).heap.size; simp
  have x0 : (w.alloc (.cells #[.int .i64 0, .int .i64 who, .int .i64 n, .int .i64 op, .int .u64 (a : Nat), .int .u64 (b : Nat), .int .u64 (c : Nat), .int .i64 d, .int .i64 m] 55)).drew.cell? ⟨w.heap.size, 0, none⟩ = some (.int .i64 0) := World.cell?_alloc_new ..
  have x1 : (w.alloc (.cells #[.int .i64 0, .int .i64 who, .int .i64 n, .int .i64 op, .int .u64 (a : Nat), .int .u64 (b : Nat), .int .u64 (c : Nat), .int .i64 d, .int .i64 m] 55)).drew.cell? ⟨w.heap.size, 1, none⟩ = some (.int .i64 who) := World.cell?_alloc_new ..
  have x2 : (w.alloc (.cells #[.int .i64 0, .int .i64 who, .int .i64 n, .int .i64 op, .int .u64 (a : Nat), .int .u64 (b : Nat), .int .u64 (c : Nat), .int .i64 d, .int .i64 m] 55)).drew.cell? ⟨w.heap.size, 2, none⟩ = some (.int .i64 n) := World.cell?_alloc_new ..
  have x3 : (w.alloc (.cells #[.int .i64 0, .int .i64 who, .int .i64 n, .int .i64 op, .int .u64 (a : Nat), .int .u64 (b : Nat), .int .u64 (c : Nat), .int .i64 d, .int .i64 m] 55)).drew.cell? ⟨w.heap.size, 3, none⟩ = some (.int .i64 op) := World.cell?_alloc_new ..
  have x4 : (w.alloc (.cells #[.int .i64 0, .int .i64 who, .int .i64 n, .int .i64 op, .int .u64 (a : Nat), .int .u64 (b : Nat), .int .u64 (c : Nat), .int .i64 d, .int .i64 m] 55)).drew.cell? ⟨w.heap.size, 4, none⟩ = some (.int .u64 (a : Nat)) := World.cell?_alloc_new ..
  have x5 : (w.alloc (.cells #[.int .i64 0, .int .i64 who, .int .i64 n, .int .i64 op, .int .u64 (a : Nat), .int .u64 (b : Nat), .int .u64 (c : Nat), .int .i64 d, .int .i64 m] 55)).drew.cell? ⟨w.heap.size, 5, none⟩ = some (.int .u64 (b : Nat)) := World.cell?_alloc_new ..
  have x6 : (w.alloc (.cells #[.int .i64 0, .int .i64 who, .int .i64 n, .int .i64 op, .int .u64 (a : Nat), .int .u64 (b : Nat), .int .u64 (c : Nat), .int .i64 d, .int .i64 m] 55)).drew.cell? ⟨w.heap.size, 6, none⟩ = some (.int .u64 (c : Nat)) := World.cell?_alloc_new ..
  have x7 : (w.alloc (.cells #[.int .i64 0, .int .i64 who, .int .i64 n, .int .i64 op, .int .u64 (a : Nat), .int .u64 (b : Nat), .int .u64 (c : Nat), .int .i64 d, .int .i64 m] 55)).drew.cell? ⟨w.heap.size, 7, none⟩ = some (.int .i64 d) := World.cell?_alloc_new ..
  have x8 : (w.alloc (.cells #[.int .i64 0, .int .i64 who, .int .i64 n, .int .i64 op, .int .u64 (a : Nat), .int .u64 (b : Nat), .int .u64 (c : Nat), .int .i64 d, .int .i64 m] 55)).drew.cell? ⟨w.heap.size, 8, none⟩ = some (.int .i64 m) := World.cell?_alloc_new ..
  go_enter Tryd.func34, Tryd.ntmps34
  go_wp2_with fail
  generalize w.alloc (.cells #[.int .i64 0, .int .i64 who, .int .i64 n, .int .i64 op, .int .u64 (a : Nat), .int .u64 (b : Nat), .int .u64 (c : Nat), .int .i64 d, .int .i64 m] 55) = w0 at *
  obtain ⟨X, hX⟩ : ∃ X, X = w.heap.size := ⟨_, rfl⟩
  rw [← hX] at hsx x0 x1 x2 x3 x4 x5 x6 x7 x8 ⊢
  clear hX k1
  have G0 := Lib.hid kd
  clear kd
  refine wp_region_held_drew (S := fun w' => w'.cell? ⟨X, 0, none⟩ = some (.int .i64 0) ∧ w'.cell? ⟨X, 1, none⟩ = some (.int .i64 who) ∧ w'.cell? ⟨X, 2, none⟩ = some (.int .i64 n) ∧ w'.cell? ⟨X, 3, none⟩ = some (.int .i64 op) ∧ w'.cell? ⟨X, 4, none⟩ = some (.int .u64 (a : Nat)) ∧ w'.cell? ⟨X, 5, none⟩ = some (.int .u64 (b : Nat)) ∧ w'.cell? ⟨X, 6, none⟩ = some (.int .u64 (c : Nat)) ∧ w'.cell? ⟨X, 7, none⟩ = some (.int .i64 d) ∧ w'.cell? ⟨X, 8, none⟩ = some (.int .i64 m)) (by kernel_rfl) ⟨x0, x1, x2, x3, x4, x5, x6, x7, x8⟩ (fun hHeld => ?_)
  refine wpAnyH_take (i := 0) (oi := ⟨_, _, _, _, _, _⟩) (v := ?_) rfl (by kernel_rfl) (by kernel_rfl) (by kernel_rfl) (fun _ _ _ h => h) (Or.inl ⟨by rfl, ?_⟩) (by assumption) ?_
  rotate_left
  · intro wz hSw
    try dsimp only at hSw
    go_simp
    try with_reducible rfl
  simp only [Act.put, List.setIfInBounds_toArray, List.set_cons_zero, List.set_cons_succ]
  refine wpAnyH_take (i := 1) (oi := ⟨_, _, _, _, _, _⟩) (v := ?_) rfl (by kernel_rfl) (by kernel_rfl) (by kernel_rfl) (fun _ _ _ h => h) (Or.inl ⟨by rfl, ?_⟩) (by assumption) ?_
  rotate_left
  · intro wz hSw
    try dsimp only at hSw
    go_simp
    try with_reducible rfl
  simp only [Act.put, List.setIfInBounds_toArray, List.set_cons_zero, List.set_cons_succ]
  refine wpAnyH_take (i := 2) (oi := ⟨_, _, _, _, _, _⟩) (v := ?_) rfl (by kernel_rfl) (by kernel_rfl) (by kernel_rfl) (fun _ _ _ h => h) (Or.inl ⟨by rfl, ?_⟩) (by assumption) ?_
  rotate_left
  · intro wz hSw
    try dsimp only at hSw
    go_simp
    try with_reducible rfl
  simp only [Act.put, List.setIfInBounds_toArray, List.set_cons_zero, List.set_cons_succ]
  refine wpAnyH_ready (rs := [3]) (by kernel_rfl) (by simp) ?_
  refine AllReadyH.cons (o := ⟨_, _, _, _, _, _⟩) rfl (fun K hK => ?_) AllReadyH.nil
  go_simp
  refine (C1.out _).mono ?_
  rintro e w1 ⟨rfl, g⟩
  replace x0 := (g.cell_far ⟨X, 0, none⟩ hsx (by simp)).trans x0
  replace x1 := (g.cell_far ⟨X, 1, none⟩ hsx (by simp)).trans x1
  replace x2 := (g.cell_far ⟨X, 2, none⟩ hsx (by simp)).trans x2
  replace x3 := (g.cell_far ⟨X, 3, none⟩ hsx (by simp)).trans x3
  replace x4 := (g.cell_far ⟨X, 4, none⟩ hsx (by simp)).trans x4
  replace x5 := (g.cell_far ⟨X, 5, none⟩ hsx (by simp)).trans x5
  replace x6 := (g.cell_far ⟨X, 6, none⟩ hsx (by simp)).trans x6
  replace x7 := (g.cell_far ⟨X, 7, none⟩ hsx (by simp)).trans x7
  replace x8 := (g.cell_far ⟨X, 8, none⟩ hsx (by simp)).trans x8
  replace hsx := Nat.lt_of_lt_of_le hsx g.size
  have Gg1 := Lib.hid (G0.out.trans g)
  clear g
  refine hK.out _ _ ⟨x0, x1, x2, x3, x4, x5, x6, x7, x8⟩ (fun hHeld => ?_)
  clear hK K
  try simp only [Act.put, List.setIfInBounds_toArray, List.set_cons_zero, List.set_cons_succ]
  refine wpAnyH_take (i := 4) (oi := ⟨_, _, _, _, _, _⟩) (v := ?_) rfl (by kernel_rfl) (by kernel_rfl) (by kernel_rfl) (fun _ _ _ h => h) (Or.inl ⟨by rfl, ?_⟩) (by assumption) ?_
  rotate_left
  · intro wz hSw
    try dsimp only at hSw
    go_simp
    try with_reducible rfl
  simp only [Act.put, List.setIfInBounds_toArray, List.set_cons_zero, List.set_cons_succ]
  refine wpAnyH_take (i := 5) (oi := ⟨_, _, _, _, _, _⟩) (v := ?_) rfl (by kernel_rfl) (by kernel_rfl) (by kernel_rfl) (fun _ _ _ h => h) (Or.inl ⟨by rfl, ?_⟩) (by assumption) ?_
  rotate_left
  · intro wz hSw
    try dsimp only at hSw
    go_simp
    try with_reducible rfl
  simp only [Act.put, List.setIfInBounds_toArray, List.set_cons_zero, List.set_cons_succ]
  cases q with
  | false =>
    refine wpAnyH_take (i := 6) (oi := ⟨_, _, _, _, _, _⟩) (v := undef) rfl (by kernel_rfl) (by kernel_rfl) (by kernel_rfl) (fun _ _ _ h => h) (Or.inr ⟨by rfl, rfl⟩) (by assumption) ?_
    simp only [Act.put, List.setIfInBounds_toArray, List.set_cons_zero, List.set_cons_succ]
    refine wpAnyH_take (i := 7) (oi := ⟨_, _, _, _, _, _⟩) (v := undef) rfl (by kernel_rfl) (by kernel_rfl) (by kernel_rfl) (fun _ _ _ h => h) (Or.inr ⟨by rfl, rfl⟩) (by assumption) ?_
    simp only [Act.put, List.setIfInBounds_toArray, List.set_cons_zero, List.set_cons_succ]
    refine wpAnyH_take (i := 8) (oi := ⟨_, _, _, _, _, _⟩) (v := undef) rfl (by kernel_rfl) (by kernel_rfl) (by kernel_rfl) (fun _ _ _ h => h) (Or.inr ⟨by rfl, rfl⟩) (by assumption) ?_
    simp only [Act.put, List.setIfInBounds_toArray, List.set_cons_zero, List.set_cons_succ]
    refine wpAnyH_take (i := 9) (oi := ⟨_, _, _, _, _, _⟩) (v := ?_) rfl (by kernel_rfl) (by kernel_rfl) (by kernel_rfl) (fun _ _ _ h => h) (Or.inl ⟨by rfl, ?_⟩) (by assumption) ?_
    rotate_left
    · intro wz hSw
      try dsimp only at hSw
      go_simp
      try with_reducible rfl
    simp only [Act.put, List.setIfInBounds_toArray, List.set_cons_zero, List.set_cons_succ]
    refine wpAnyH_take (i := 10) (oi := ⟨_, _, _, _, _, _⟩) (v := ?_) rfl (by kernel_rfl) (by kernel_rfl) (by kernel_rfl) (fun _ _ _ h => h) (Or.inl ⟨by rfl, ?_⟩) (by assumption) ?_
    rotate_left
    · intro wz hSw
      try dsimp only at hSw
      go_simp
      try with_reducible rfl
    simp only [Act.put, List.setIfInBounds_toArray, List.set_cons_zero, List.set_cons_succ]
    refine wpAnyH_done (by kernel_rfl) ?_ _
    clear hHeld
    go_wp2
    go_ret
    exact ⟨by simp, Gg1.out⟩
  | true =>
    refine wpAnyH_take (i := 6) (oi := ⟨_, _, _, _, _, _⟩) (v := ?_) rfl (by kernel_rfl) (by kernel_rfl) (by kernel_rfl) (fun _ _ _ h => h) (Or.inl ⟨by rfl, ?_⟩) (by assumption) ?_
    rotate_left
    · intro wz hSw
      try dsimp only at hSw
      go_simp
      try with_reducible rfl
    simp only [Act.put, List.setIfInBounds_toArray, List.set_cons_zero, List.set_cons_succ]
    refine wpAnyH_take (i := 7) (oi := ⟨_, _, _, _, _, _⟩) (v := ?_) rfl (by kernel_rfl) (by kernel_rfl) (by kernel_rfl) (fun _ _ _ h => h) (Or.inl ⟨by rfl, ?_⟩) (by assumption) ?_
    rotate_left
    · intro wz hSw
      try dsimp only at hSw
      go_simp
      try with_reducible rfl
    simp only [Act.put, List.setIfInBounds_toArray, List.set_cons_zero, List.set_cons_succ]
    refine wpAnyH_ready (rs := [8]) (by kernel_rfl) (by simp) ?_
    refine AllReadyH.cons (o := ⟨_, _, _, _, _, _⟩) rfl (fun K hK => ?_) AllReadyH.nil
    go_simp
    refine (C2.out _).mono ?_
    rintro e w' ⟨rfl, rfl⟩
    refine hK.out _ _ ⟨x0, x1, x2, x3, x4, x5, x6, x7, x8⟩ (fun hHeld => ?_)
    clear hK K
    try simp only [Act.put, List.setIfInBounds_toArray, List.set_cons_zero, List.set_cons_succ]
    refine wpAnyH_take (i := 9) (oi := ⟨_, _, _, _, _, _⟩) (v := ?_) rfl (by kernel_rfl) (by kernel_rfl) (by kernel_rfl) (fun _ _ _ h => h) (Or.inl ⟨by rfl, ?_⟩) (by assumption) ?_
    rotate_left
    · intro wz hSw
      try dsimp only at hSw
      go_simp
      try with_reducible rfl
    simp only [Act.put, List.setIfInBounds_toArray, List.set_cons_zero, List.set_cons_succ]
    refine wpAnyH_take (i := 10) (oi := ⟨_, _, _, _, _, _⟩) (v := ?_) rfl (by kernel_rfl) (by kernel_rfl) (by kernel_rfl) (fun _ _ _ h => h) (Or.inl ⟨by rfl, ?_⟩) (by assumption) ?_
    rotate_left
    · intro wz hSw
      try dsimp only at hSw
      go_simp
      try with_reducible rfl
    simp only [Act.put, List.setIfInBounds_toArray, List.set_cons_zero, List.set_cons_succ]
    refine wpAnyH_done (by kernel_rfl) ?_ _
    clear hHeld
    go_wp2
    go_ret
    exact ⟨by simp, Gg1.out⟩
set_option maxHeartbeats 4000000 in
theorem wright_1 (w : World) (who n op d m : Int) (a b c : Nat) (hs : smC ⟨op, a, b, c⟩) (HT : FormsAt w) :
    Calls Tryd.prog 34 #[(En.mk 1 who n ⟨op, a, b, c⟩ d m).val] w fun e w' => e = .returned (.bool (okE ⟨1, who, n, ⟨op, a, b, c⟩, d, m⟩)) ∧ w.grownBy w' none := by
  rw [okE_1]
  unfold En.val
  simp only
  obtain ⟨q, hq⟩ : ∃ q, beqE ⟨1, who, n, ⟨op, a, b, c⟩, d, m⟩ ⟨1, who, 0, ⟨op, a, b, c⟩, 0, 0⟩ = q := ⟨_, rfl⟩
  rw [hq]
  have hE : ∀ w5 : World, (binOp .eql 55 (.agg #[.int .i64 1, .int .i64 who, .int .i64 n, .int .i64 op, .int .u64 (a : Nat), .int .u64 (b : Nat), .int .u64 (c : Nat), .int .i64 d, .int .i64 m]) (.agg #[.int .i64 1, .int .i64 who, .int .i64 0, .int .i64 op, .int .u64 (a : Nat), .int .u64 (b : Nat), .int .u64 (c : Nat), .int .i64 0, .int .i64 0])).run Tryd.prog w5 = .ok (.bool q) w5 := fun w5 => hq ▸ eqlE ⟨1, who, n, ⟨op, a, b, c⟩, d, m⟩ ⟨1, who, 0, ⟨op, a, b, c⟩, 0, 0⟩ w5
  clear hq
  have C1 := Lib.hid (fun wz => wask wz who op a b c)
  obtain ⟨qb, hqb⟩ : ∃ qb, (decide (0 ≤ who) && decide (who ≤ 255)) = qb := ⟨_, rfl⟩
  have C2 := Lib.hid (fun wz => wbyte wz who)
  rw [hqb] at C2 ⊢
  clear hqb
  have C3 := Lib.hid (fun (wz : World) (h : w.grownBy wz none) => cright ⟨op, a, b, c⟩ hs (HT.kept h))
  unfold Cl.val at C3
  simp only at C3
  clear HT hs
  have k1 := World.grownBy_alloc w (.cells #[.int .i64 1, .int .i64 who, .int .i64 n, .int .i64 op, .int .u64 (a : Nat), .int .u64 (b : Nat), .int .u64 (c : Nat), .int .i64 d, .int .i64 m] 55) none
  have kd := k1.trans (⟨rfl, rfl, rfl, Nat.le_refl _, fun _ _ _ => rfl⟩ : (w.alloc (.cells #[.int .i64 1, .int .i64 who, .int .i64 n, .int .i64 op, .int .u64 (a : Nat), .int .u64 (b : Nat), .int .u64 (c : Nat), .int .i64 d, .int .i64 m] 55)).grownBy (w.alloc (.cells #[.int .i64 1, .int .i64 who, .int .i64 n, .int .i64 op, .int .u64 (a : Nat), .int .u64 (b : Nat), .int .u64 (c : Nat), .int .i64 d, .int .i64 m] 55)).drew none)
  have hsx : w.heap.size < (w.alloc (.cells #[.int .i64 1, .int .i64 who, .int .i64 n, .int .i64 op, .int .u64 (a : Nat), .int .u64 (b : Nat), .int .u64 (c : Nat), .int .i64 d, .int .i64 m] 55)).drew.heap.size := by show _ < (w.alloc _).heap.size; simp
  have x0 : (w.alloc (.cells #[.int .i64 1, .int .i64 who, .int .i64 n, .int .i64 op, .int .u64 (a : Nat), .int .u64 (b : Nat), .int .u64 (c : Nat), .int .i64 d, .int .i64 m] 55)).drew.cell? ⟨w.heap.size, 0, none⟩ = some (.int .i64 1) := World.cell?_alloc_new ..
  have x1 : (w.alloc (.cells #[.int .i64 1, .int .i64 who, .int .i64 n, .int .i64 op, .int .u64 (a : Nat), .int .u64 (b : Nat), .int .u64 (c : Nat), .int .i64 d, .int .i64 m] 55)).drew.cell? ⟨w.heap.size, 1, none⟩ = some (.int .i64 who) := World.cell?_alloc_new ..
  have x2 : (w.alloc (.cells #[.int .i64 1, .int .i64 who, .int .i64 n, .int .i64 op, .int .u64 (a : Nat), .int .u64 (b : Nat), .int .u64 (c : Nat), .int .i64 d, .int .i64 m] 55)).drew.cell? ⟨w.heap.size, 2, none⟩ = some (.int .i64 n) := World.cell?_alloc_new ..
  have x3 : (w.alloc (.cells #[.int .i64 1, .int .i64 who, .int .i64 n, .int .i64 op, .int .u64 (a : Nat), .int .u64 (b : Nat), .int .u64 (c : Nat), .int .i64 d, .int .i64 m] 55)).drew.cell? ⟨w.heap.size, 3, none⟩ = some (.int .i64 op) := World.cell?_alloc_new ..
  have x4 : (w.alloc (.cells #[.int .i64 1, .int .i64 who, .int .i64 n, .int .i64 op, .int .u64 (a : Nat), .int .u64 (b : Nat), .int .u64 (c : Nat), .int .i64 d, .int .i64 m] 55)).drew.cell? ⟨w.heap.size, 4, none⟩ = some (.int .u64 (a : Nat)) := World.cell?_alloc_new ..
  have x5 : (w.alloc (.cells #[.int .i64 1, .int .i64 who, .int .i64 n, .int .i64 op, .int .u64 (a : Nat), .int .u64 (b : Nat), .int .u64 (c : Nat), .int .i64 d, .int .i64 m] 55)).drew.cell? ⟨w.heap.size, 5, none⟩ = some (.int .u64 (b : Nat)) := World.cell?_alloc_new ..
  have x6 : (w.alloc (.cells #[.int .i64 1, .int .i64 who, .int .i64 n, .int .i64 op, .int .u64 (a : Nat), .int .u64 (b : Nat), .int .u64 (c : Nat), .int .i64 d, .int .i64 m] 55)).drew.cell? ⟨w.heap.size, 6, none⟩ = some (.int .u64 (c : Nat)) := World.cell?_alloc_new ..
  have x7 : (w.alloc (.cells #[.int .i64 1, .int .i64 who, .int .i64 n, .int .i64 op, .int .u64 (a : Nat), .int .u64 (b : Nat), .int .u64 (c : Nat), .int .i64 d, .int .i64 m] 55)).drew.cell? ⟨w.heap.size, 7, none⟩ = some (.int .i64 d) := World.cell?_alloc_new ..
  have x8 : (w.alloc (.cells #[.int .i64 1, .int .i64 who, .int .i64 n, .int .i64 op, .int .u64 (a : Nat), .int .u64 (b : Nat), .int .u64 (c : Nat), .int .i64 d, .int .i64 m] 55)).drew.cell? ⟨w.heap.size, 8, none⟩ = some (.int .i64 m) := World.cell?_alloc_new ..
  go_enter Tryd.func34, Tryd.ntmps34
  go_wp2_with fail
  generalize w.alloc (.cells #[.int .i64 1, .int .i64 who, .int .i64 n, .int .i64 op, .int .u64 (a : Nat), .int .u64 (b : Nat), .int .u64 (c : Nat), .int .i64 d, .int .i64 m] 55) = w0 at *
  obtain ⟨X, hX⟩ : ∃ X, X = w.heap.size := ⟨_, rfl⟩
  rw [← hX] at hsx x0 x1 x2 x3 x4 x5 x6 x7 x8 ⊢
  clear hX k1
  have G0 := Lib.hid kd
  clear kd
  refine wp_region_held_drew (S := fun w' => w'.cell? ⟨X, 0, none⟩ = some (.int .i64 1) ∧ w'.cell? ⟨X, 1, none⟩ = some (.int .i64 who) ∧ w'.cell? ⟨X, 2, none⟩ = some (.int .i64 n) ∧ w'.cell? ⟨X, 3, none⟩ = some (.int .i64 op) ∧ w'.cell? ⟨X, 4, none⟩ = some (.int .u64 (a : Nat)) ∧ w'.cell? ⟨X, 5, none⟩ = some (.int .u64 (b : Nat)) ∧ w'.cell? ⟨X, 6, none⟩ = some (.int .u64 (c : Nat)) ∧ w'.cell? ⟨X, 7, none⟩ = some (.int .i64 d) ∧ w'.cell? ⟨X, 8, none⟩ = some (.int .i64 m)) (by kernel_rfl) ⟨x0, x1, x2, x3, x4, x5, x6, x7, x8⟩ (fun hHeld => ?_)
  refine wpAnyH_take (i := 0) (oi := ⟨_, _, _, _, _, _⟩) (v := ?_) rfl (by kernel_rfl) (by kernel_rfl) (by kernel_rfl) (fun _ _ _ h => h) (Or.inl ⟨by rfl, ?_⟩) (by assumption) ?_
  rotate_left
  · intro wz hSw
    try dsimp only at hSw
    go_simp
    try with_reducible rfl
  simp only [Act.put, List.setIfInBounds_toArray, List.set_cons_zero, List.set_cons_succ]
  refine wpAnyH_take (i := 1) (oi := ⟨_, _, _, _, _, _⟩) (v := ?_) rfl (by kernel_rfl) (by kernel_rfl) (by kernel_rfl) (fun _ _ _ h => h) (Or.inl ⟨by rfl, ?_⟩) (by assumption) ?_
  rotate_left
  · intro wz hSw
    try dsimp only at hSw
    go_simp
    try with_reducible rfl
  simp only [Act.put, List.setIfInBounds_toArray, List.set_cons_zero, List.set_cons_succ]
  refine wpAnyH_take (i := 2) (oi := ⟨_, _, _, _, _, _⟩) (v := ?_) rfl (by kernel_rfl) (by kernel_rfl) (by kernel_rfl) (fun _ _ _ h => h) (Or.inl ⟨by rfl, ?_⟩) (by assumption) ?_
  rotate_left
  · intro wz hSw
    try dsimp only at hSw
    go_simp
    try with_reducible rfl
  simp only [Act.put, List.setIfInBounds_toArray, List.set_cons_zero, List.set_cons_succ]
  refine wpAnyH_take (i := 3) (oi := ⟨_, _, _, _, _, _⟩) (v := ?_) rfl (by kernel_rfl) (by kernel_rfl) (by kernel_rfl) (fun _ _ _ h => h) (Or.inl ⟨by rfl, ?_⟩) (by assumption) ?_
  rotate_left
  · intro wz hSw
    try dsimp only at hSw
    go_simp
    try with_reducible rfl
  simp only [Act.put, List.setIfInBounds_toArray, List.set_cons_zero, List.set_cons_succ]
  refine wpAnyH_take (i := 4) (oi := ⟨_, _, _, _, _, _⟩) (v := ?_) rfl (by kernel_rfl) (by kernel_rfl) (by kernel_rfl) (fun _ _ _ h => h) (Or.inl ⟨by rfl, ?_⟩) (by assumption) ?_
  rotate_left
  · intro wz hSw
    try dsimp only at hSw
    go_simp
    try with_reducible rfl
  simp only [Act.put, List.setIfInBounds_toArray, List.set_cons_zero, List.set_cons_succ]
  refine wpAnyH_ready (rs := [5]) (by kernel_rfl) (by simp) ?_
  refine AllReadyH.cons (o := ⟨_, _, _, _, _, _⟩) rfl (fun K hK => ?_) AllReadyH.nil
  go_simp
  refine (C1.out _).mono ?_
  rintro e w1 ⟨rfl, g⟩
  replace x0 := (g.cell_far ⟨X, 0, none⟩ hsx (by simp)).trans x0
  replace x1 := (g.cell_far ⟨X, 1, none⟩ hsx (by simp)).trans x1
  replace x2 := (g.cell_far ⟨X, 2, none⟩ hsx (by simp)).trans x2
  replace x3 := (g.cell_far ⟨X, 3, none⟩ hsx (by simp)).trans x3
  replace x4 := (g.cell_far ⟨X, 4, none⟩ hsx (by simp)).trans x4
  replace x5 := (g.cell_far ⟨X, 5, none⟩ hsx (by simp)).trans x5
  replace x6 := (g.cell_far ⟨X, 6, none⟩ hsx (by simp)).trans x6
  replace x7 := (g.cell_far ⟨X, 7, none⟩ hsx (by simp)).trans x7
  replace x8 := (g.cell_far ⟨X, 8, none⟩ hsx (by simp)).trans x8
  replace hsx := Nat.lt_of_lt_of_le hsx g.size
  have Gg2 := Lib.hid (G0.out.trans g)
  clear g
  refine hK.out _ _ ⟨x0, x1, x2, x3, x4, x5, x6, x7, x8⟩ (fun hHeld => ?_)
  clear hK K
  try simp only [Act.put, List.setIfInBounds_toArray, List.set_cons_zero, List.set_cons_succ]
  refine wpAnyH_take (i := 6) (oi := ⟨_, _, _, _, _, _⟩) (v := ?_) rfl (by kernel_rfl) (by kernel_rfl) (by kernel_rfl) (fun _ _ _ h => h) (Or.inl ⟨by rfl, ?_⟩) (by assumption) ?_
  rotate_left
  · intro wz hSw
    try dsimp only at hSw
    go_simp
    try with_reducible rfl
  simp only [Act.put, List.setIfInBounds_toArray, List.set_cons_zero, List.set_cons_succ]
  refine wpAnyH_take (i := 7) (oi := ⟨_, _, _, _, _, _⟩) (v := ?_) rfl (by kernel_rfl) (by kernel_rfl) (by kernel_rfl) (fun _ _ _ h => h) (Or.inl ⟨by rfl, ?_⟩) (by assumption) ?_
  rotate_left
  · intro wz hSw
    try dsimp only at hSw
    go_simp
    try with_reducible rfl
  simp only [Act.put, List.setIfInBounds_toArray, List.set_cons_zero, List.set_cons_succ]
  cases q with
  | false =>
    refine wpAnyH_take (i := 8) (oi := ⟨_, _, _, _, _, _⟩) (v := undef) rfl (by kernel_rfl) (by kernel_rfl) (by kernel_rfl) (fun _ _ _ h => h) (Or.inr ⟨by rfl, rfl⟩) (by assumption) ?_
    simp only [Act.put, List.setIfInBounds_toArray, List.set_cons_zero, List.set_cons_succ]
    refine wpAnyH_take (i := 9) (oi := ⟨_, _, _, _, _, _⟩) (v := undef) rfl (by kernel_rfl) (by kernel_rfl) (by kernel_rfl) (fun _ _ _ h => h) (Or.inr ⟨by rfl, rfl⟩) (by assumption) ?_
    simp only [Act.put, List.setIfInBounds_toArray, List.set_cons_zero, List.set_cons_succ]
    refine wpAnyH_take (i := 10) (oi := ⟨_, _, _, _, _, _⟩) (v := undef) rfl (by kernel_rfl) (by kernel_rfl) (by kernel_rfl) (fun _ _ _ h => h) (Or.inr ⟨by rfl, rfl⟩) (by assumption) ?_
    simp only [Act.put, List.setIfInBounds_toArray, List.set_cons_zero, List.set_cons_succ]
    refine wpAnyH_take (i := 11) (oi := ⟨_, _, _, _, _, _⟩) (v := ?_) rfl (by kernel_rfl) (by kernel_rfl) (by kernel_rfl) (fun _ _ _ h => h) (Or.inl ⟨by rfl, ?_⟩) (by assumption) ?_
    rotate_left
    · intro wz hSw
      try dsimp only at hSw
      go_simp
      try with_reducible rfl
    simp only [Act.put, List.setIfInBounds_toArray, List.set_cons_zero, List.set_cons_succ]
    refine wpAnyH_take (i := 12) (oi := ⟨_, _, _, _, _, _⟩) (v := ?_) rfl (by kernel_rfl) (by kernel_rfl) (by kernel_rfl) (fun _ _ _ h => h) (Or.inl ⟨by rfl, ?_⟩) (by assumption) ?_
    rotate_left
    · intro wz hSw
      try dsimp only at hSw
      go_simp
      try with_reducible rfl
    simp only [Act.put, List.setIfInBounds_toArray, List.set_cons_zero, List.set_cons_succ]
    refine wpAnyH_take (i := 13) (oi := ⟨_, _, _, _, _, _⟩) (v := undef) rfl (by kernel_rfl) (by kernel_rfl) (by kernel_rfl) (fun _ _ _ h => h) (Or.inr ⟨by rfl, rfl⟩) (by assumption) ?_
    simp only [Act.put, List.setIfInBounds_toArray, List.set_cons_zero, List.set_cons_succ]
    refine wpAnyH_take (i := 14) (oi := ⟨_, _, _, _, _, _⟩) (v := undef) rfl (by kernel_rfl) (by kernel_rfl) (by kernel_rfl) (fun _ _ _ h => h) (Or.inr ⟨by rfl, rfl⟩) (by assumption) ?_
    simp only [Act.put, List.setIfInBounds_toArray, List.set_cons_zero, List.set_cons_succ]
    refine wpAnyH_take (i := 15) (oi := ⟨_, _, _, _, _, _⟩) (v := undef) rfl (by kernel_rfl) (by kernel_rfl) (by kernel_rfl) (fun _ _ _ h => h) (Or.inr ⟨by rfl, rfl⟩) (by assumption) ?_
    simp only [Act.put, List.setIfInBounds_toArray, List.set_cons_zero, List.set_cons_succ]
    refine wpAnyH_take (i := 16) (oi := ⟨_, _, _, _, _, _⟩) (v := ?_) rfl (by kernel_rfl) (by kernel_rfl) (by kernel_rfl) (fun _ _ _ h => h) (Or.inl ⟨by rfl, ?_⟩) (by assumption) ?_
    rotate_left
    · intro wz hSw
      try dsimp only at hSw
      go_simp
      try with_reducible rfl
    simp only [Act.put, List.setIfInBounds_toArray, List.set_cons_zero, List.set_cons_succ]
    refine wpAnyH_take (i := 17) (oi := ⟨_, _, _, _, _, _⟩) (v := ?_) rfl (by kernel_rfl) (by kernel_rfl) (by kernel_rfl) (fun _ _ _ h => h) (Or.inl ⟨by rfl, ?_⟩) (by assumption) ?_
    rotate_left
    · intro wz hSw
      try dsimp only at hSw
      go_simp
      try with_reducible rfl
    simp only [Act.put, List.setIfInBounds_toArray, List.set_cons_zero, List.set_cons_succ]
    refine wpAnyH_done (by kernel_rfl) ?_ _
    clear hHeld
    go_wp2
    go_ret
    exact ⟨by simp, Gg2.out⟩
  | true =>
    refine wpAnyH_take (i := 8) (oi := ⟨_, _, _, _, _, _⟩) (v := ?_) rfl (by kernel_rfl) (by kernel_rfl) (by kernel_rfl) (fun _ _ _ h => h) (Or.inl ⟨by rfl, ?_⟩) (by assumption) ?_
    rotate_left
    · intro wz hSw
      try dsimp only at hSw
      go_simp
      try with_reducible rfl
    simp only [Act.put, List.setIfInBounds_toArray, List.set_cons_zero, List.set_cons_succ]
    refine wpAnyH_take (i := 9) (oi := ⟨_, _, _, _, _, _⟩) (v := ?_) rfl (by kernel_rfl) (by kernel_rfl) (by kernel_rfl) (fun _ _ _ h => h) (Or.inl ⟨by rfl, ?_⟩) (by assumption) ?_
    rotate_left
    · intro wz hSw
      try dsimp only at hSw
      go_simp
      try with_reducible rfl
    simp only [Act.put, List.setIfInBounds_toArray, List.set_cons_zero, List.set_cons_succ]
    refine wpAnyH_ready (rs := [10]) (by kernel_rfl) (by simp) ?_
    refine AllReadyH.cons (o := ⟨_, _, _, _, _, _⟩) rfl (fun K hK => ?_) AllReadyH.nil
    go_simp
    refine (C2.out _).mono ?_
    rintro e w' ⟨rfl, rfl⟩
    refine hK.out _ _ ⟨x0, x1, x2, x3, x4, x5, x6, x7, x8⟩ (fun hHeld => ?_)
    clear hK K
    try simp only [Act.put, List.setIfInBounds_toArray, List.set_cons_zero, List.set_cons_succ]
    refine wpAnyH_take (i := 11) (oi := ⟨_, _, _, _, _, _⟩) (v := ?_) rfl (by kernel_rfl) (by kernel_rfl) (by kernel_rfl) (fun _ _ _ h => h) (Or.inl ⟨by rfl, ?_⟩) (by assumption) ?_
    rotate_left
    · intro wz hSw
      try dsimp only at hSw
      go_simp
      try with_reducible rfl
    simp only [Act.put, List.setIfInBounds_toArray, List.set_cons_zero, List.set_cons_succ]
    refine wpAnyH_take (i := 12) (oi := ⟨_, _, _, _, _, _⟩) (v := ?_) rfl (by kernel_rfl) (by kernel_rfl) (by kernel_rfl) (fun _ _ _ h => h) (Or.inl ⟨by rfl, ?_⟩) (by assumption) ?_
    rotate_left
    · intro wz hSw
      try dsimp only at hSw
      go_simp
      try with_reducible rfl
    simp only [Act.put, List.setIfInBounds_toArray, List.set_cons_zero, List.set_cons_succ]
    cases qb with
    | false =>
      refine wpAnyH_take (i := 13) (oi := ⟨_, _, _, _, _, _⟩) (v := undef) rfl (by kernel_rfl) (by kernel_rfl) (by kernel_rfl) (fun _ _ _ h => h) (Or.inr ⟨by rfl, rfl⟩) (by assumption) ?_
      simp only [Act.put, List.setIfInBounds_toArray, List.set_cons_zero, List.set_cons_succ]
      refine wpAnyH_take (i := 14) (oi := ⟨_, _, _, _, _, _⟩) (v := undef) rfl (by kernel_rfl) (by kernel_rfl) (by kernel_rfl) (fun _ _ _ h => h) (Or.inr ⟨by rfl, rfl⟩) (by assumption) ?_
      simp only [Act.put, List.setIfInBounds_toArray, List.set_cons_zero, List.set_cons_succ]
      refine wpAnyH_take (i := 15) (oi := ⟨_, _, _, _, _, _⟩) (v := undef) rfl (by kernel_rfl) (by kernel_rfl) (by kernel_rfl) (fun _ _ _ h => h) (Or.inr ⟨by rfl, rfl⟩) (by assumption) ?_
      simp only [Act.put, List.setIfInBounds_toArray, List.set_cons_zero, List.set_cons_succ]
      refine wpAnyH_take (i := 16) (oi := ⟨_, _, _, _, _, _⟩) (v := ?_) rfl (by kernel_rfl) (by kernel_rfl) (by kernel_rfl) (fun _ _ _ h => h) (Or.inl ⟨by rfl, ?_⟩) (by assumption) ?_
      rotate_left
      · intro wz hSw
        try dsimp only at hSw
        go_simp
        try with_reducible rfl
      simp only [Act.put, List.setIfInBounds_toArray, List.set_cons_zero, List.set_cons_succ]
      refine wpAnyH_take (i := 17) (oi := ⟨_, _, _, _, _, _⟩) (v := ?_) rfl (by kernel_rfl) (by kernel_rfl) (by kernel_rfl) (fun _ _ _ h => h) (Or.inl ⟨by rfl, ?_⟩) (by assumption) ?_
      rotate_left
      · intro wz hSw
        try dsimp only at hSw
        go_simp
        try with_reducible rfl
      simp only [Act.put, List.setIfInBounds_toArray, List.set_cons_zero, List.set_cons_succ]
      refine wpAnyH_done (by kernel_rfl) ?_ _
      clear hHeld
      go_wp2
      go_ret
      exact ⟨by simp, Gg2.out⟩
    | true =>
      refine wpAnyH_take (i := 13) (oi := ⟨_, _, _, _, _, _⟩) (v := ?_) rfl (by kernel_rfl) (by kernel_rfl) (by kernel_rfl) (fun _ _ _ h => h) (Or.inl ⟨by rfl, ?_⟩) (by assumption) ?_
      rotate_left
      · intro wz hSw
        try dsimp only at hSw
        go_simp
        try with_reducible rfl
      simp only [Act.put, List.setIfInBounds_toArray, List.set_cons_zero, List.set_cons_succ]
      refine wpAnyH_take (i := 14) (oi := ⟨_, _, _, _, _, _⟩) (v := ?_) rfl (by kernel_rfl) (by kernel_rfl) (by kernel_rfl) (fun _ _ _ h => h) (Or.inl ⟨by rfl, ?_⟩) (by assumption) ?_
      rotate_left
      · intro wz hSw
        try dsimp only at hSw
        go_simp
        try with_reducible rfl
      simp only [Act.put, List.setIfInBounds_toArray, List.set_cons_zero, List.set_cons_succ]
      refine wpAnyH_ready (rs := [15]) (by kernel_rfl) (by simp) ?_
      refine AllReadyH.cons (o := ⟨_, _, _, _, _, _⟩) rfl (fun K hK => ?_) AllReadyH.nil
      go_simp
      refine (C3.out _ Gg2.out).mono ?_
      rintro e w2 ⟨rfl, g⟩
      replace x0 := (g.cell_far ⟨X, 0, none⟩ hsx (by simp)).trans x0
      replace x1 := (g.cell_far ⟨X, 1, none⟩ hsx (by simp)).trans x1
      replace x2 := (g.cell_far ⟨X, 2, none⟩ hsx (by simp)).trans x2
      replace x3 := (g.cell_far ⟨X, 3, none⟩ hsx (by simp)).trans x3
      replace x4 := (g.cell_far ⟨X, 4, none⟩ hsx (by simp)).trans x4
      replace x5 := (g.cell_far ⟨X, 5, none⟩ hsx (by simp)).trans x5
      replace x6 := (g.cell_far ⟨X, 6, none⟩ hsx (by simp)).trans x6
      replace x7 := (g.cell_far ⟨X, 7, none⟩ hsx (by simp)).trans x7
      replace x8 := (g.cell_far ⟨X, 8, none⟩ hsx (by simp)).trans x8
      replace hsx := Nat.lt_of_lt_of_le hsx g.size
      have Gg3 := Lib.hid (Gg2.out.trans g)
      clear g
      refine hK.out _ _ ⟨x0, x1, x2, x3, x4, x5, x6, x7, x8⟩ (fun hHeld => ?_)
      clear hK K
      try simp only [Act.put, List.setIfInBounds_toArray, List.set_cons_zero, List.set_cons_succ]
      refine wpAnyH_take (i := 16) (oi := ⟨_, _, _, _, _, _⟩) (v := ?_) rfl (by kernel_rfl) (by kernel_rfl) (by kernel_rfl) (fun _ _ _ h => h) (Or.inl ⟨by rfl, ?_⟩) (by assumption) ?_
      rotate_left
      · intro wz hSw
        try dsimp only at hSw
        go_simp
        try with_reducible rfl
      simp only [Act.put, List.setIfInBounds_toArray, List.set_cons_zero, List.set_cons_succ]
      refine wpAnyH_take (i := 17) (oi := ⟨_, _, _, _, _, _⟩) (v := ?_) rfl (by kernel_rfl) (by kernel_rfl) (by kernel_rfl) (fun _ _ _ h => h) (Or.inl ⟨by rfl, ?_⟩) (by assumption) ?_
      rotate_left
      · intro wz hSw
        try dsimp only at hSw
        go_simp
        try with_reducible rfl
      simp only [Act.put, List.setIfInBounds_toArray, List.set_cons_zero, List.set_cons_succ]
      refine wpAnyH_done (by kernel_rfl) ?_ _
      clear hHeld
      go_wp2
      go_ret
      exact ⟨by simp, Gg3.out⟩
set_option maxHeartbeats 4000000 in
theorem wright_2 (w : World) (who n op d m : Int) (a b c : Nat) :
    Calls Tryd.prog 34 #[(En.mk 2 who n ⟨op, a, b, c⟩ d m).val] w fun e w' => e = .returned (.bool (okE ⟨2, who, n, ⟨op, a, b, c⟩, d, m⟩)) ∧ w.grownBy w' none := by
  rw [okE_2]
  unfold En.val
  simp only
  obtain ⟨q, hq⟩ : ∃ q, beqE ⟨2, who, n, ⟨op, a, b, c⟩, d, m⟩ ⟨2, who, 0, zC, d, m⟩ = q := ⟨_, rfl⟩
  rw [hq]
  have hE : ∀ w5 : World, (binOp .eql 55 (.agg #[.int .i64 2, .int .i64 who, .int .i64 n, .int .i64 op, .int .u64 (a : Nat), .int .u64 (b : Nat), .int .u64 (c : Nat), .int .i64 d, .int .i64 m]) (.agg #[.int .i64 2, .int .i64 who, .int .i64 0, .int .i64 0, .int .u64 0, .int .u64 0, .int .u64 0, .int .i64 d, .int .i64 m])).run Tryd.prog w5 = .ok (.bool q) w5 := fun w5 => hq ▸ eqlE ⟨2, who, n, ⟨op, a, b, c⟩, d, m⟩ ⟨2, who, 0, zC, d, m⟩ w5
  clear hq
  have C1 := Lib.hid (fun wz => wready wz who d m)
  obtain ⟨qb, hqb⟩ : ∃ qb, (decide (0 ≤ who) && decide (who ≤ 255)) = qb := ⟨_, rfl⟩
  obtain ⟨qd, hqd⟩ : ∃ qd, (decide (0 ≤ d) && decide (d ≤ 255)) = qd := ⟨_, rfl⟩
  obtain ⟨qm, hqm⟩ : ∃ qm, (decide (1 ≤ m) && decide (m ≤ 7)) = qm := ⟨_, rfl⟩
  have C2 := Lib.hid (fun wz => wbyte wz who)
  have C3 := Lib.hid (fun wz => wbyte wz d)
  have C4 := Lib.hid (fun wz => wwithin wz m 1 7)
  rw [hqb] at C2 ⊢
  rw [hqd] at C3 ⊢
  rw [hqm] at C4 ⊢
  clear hqb hqd hqm
  have k1 := World.grownBy_alloc w (.cells #[.int .i64 2, .int .i64 who, .int .i64 n, .int .i64 op, .int .u64 (a : Nat), .int .u64 (b : Nat), .int .u64 (c : Nat), .int .i64 d, .int .i64 m] 55) none
  have kd := k1.trans (⟨rfl, rfl, rfl, Nat.le_refl _, fun _ _ _ => rfl⟩ : (w.alloc (.cells #[.int .i64 2, .int .i64 who, .int .i64 n, .int .i64 op, .int .u64 (a : Nat), .int .u64 (b : Nat), .int .u64 (c : Nat), .int .i64 d, .int .i64 m] 55)).grownBy (w.alloc (.cells #[.int .i64 2, .int .i64 who, .int .i64 n, .int .i64 op, .int .u64 (a : Nat), .int .u64 (b : Nat), .int .u64 (c : Nat), .int .i64 d, .int .i64 m] 55)).drew none)
  have hsx : w.heap.size < (w.alloc (.cells #[.int .i64 2, .int .i64 who, .int .i64 n, .int .i64 op, .int .u64 (a : Nat), .int .u64 (b : Nat), .int .u64 (c : Nat), .int .i64 d, .int .i64 m] 55)).drew.heap.size := by show _ < (w.alloc _).heap.size; simp
  have x0 : (w.alloc (.cells #[.int .i64 2, .int .i64 who, .int .i64 n, .int .i64 op, .int .u64 (a : Nat), .int .u64 (b : Nat), .int .u64 (c : Nat), .int .i64 d, .int .i64 m] 55)).drew.cell? ⟨w.heap.size, 0, none⟩ = some (.int .i64 2) := World.cell?_alloc_new ..
  have x1 : (w.alloc (.cells #[.int .i64 2, .int .i64 who, .int .i64 n, .int .i64 op, .int .u64 (a : Nat), .int .u64 (b : Nat), .int .u64 (c : Nat), .int .i64 d, .int .i64 m] 55)).drew.cell? ⟨w.heap.size, 1, none⟩ = some (.int .i64 who) := World.cell?_alloc_new ..
  have x2 : (w.alloc (.cells #[.int .i64 2, .int .i64 who, .int .i64 n, .int .i64 op, .int .u64 (a : Nat), .int .u64 (b : Nat), .int .u64 (c : Nat), .int .i64 d, .int .i64 m] 55)).drew.cell? ⟨w.heap.size, 2, none⟩ = some (.int .i64 n) := World.cell?_alloc_new ..
  have x3 : (w.alloc (.cells #[.int .i64 2, .int .i64 who, .int .i64 n, .int .i64 op, .int .u64 (a : Nat), .int .u64 (b : Nat), .int .u64 (c : Nat), .int .i64 d, .int .i64 m] 55)).drew.cell? ⟨w.heap.size, 3, none⟩ = some (.int .i64 op) := World.cell?_alloc_new ..
  have x4 : (w.alloc (.cells #[.int .i64 2, .int .i64 who, .int .i64 n, .int .i64 op, .int .u64 (a : Nat), .int .u64 (b : Nat), .int .u64 (c : Nat), .int .i64 d, .int .i64 m] 55)).drew.cell? ⟨w.heap.size, 4, none⟩ = some (.int .u64 (a : Nat)) := World.cell?_alloc_new ..
  have x5 : (w.alloc (.cells #[.int .i64 2, .int .i64 who, .int .i64 n, .int .i64 op, .int .u64 (a : Nat), .int .u64 (b : Nat), .int .u64 (c : Nat), .int .i64 d, .int .i64 m] 55)).drew.cell? ⟨w.heap.size, 5, none⟩ = some (.int .u64 (b : Nat)) := World.cell?_alloc_new ..
  have x6 : (w.alloc (.cells #[.int .i64 2, .int .i64 who, .int .i64 n, .int .i64 op, .int .u64 (a : Nat), .int .u64 (b : Nat), .int .u64 (c : Nat), .int .i64 d, .int .i64 m] 55)).drew.cell? ⟨w.heap.size, 6, none⟩ = some (.int .u64 (c : Nat)) := World.cell?_alloc_new ..
  have x7 : (w.alloc (.cells #[.int .i64 2, .int .i64 who, .int .i64 n, .int .i64 op, .int .u64 (a : Nat), .int .u64 (b : Nat), .int .u64 (c : Nat), .int .i64 d, .int .i64 m] 55)).drew.cell? ⟨w.heap.size, 7, none⟩ = some (.int .i64 d) := World.cell?_alloc_new ..
  have x8 : (w.alloc (.cells #[.int .i64 2, .int .i64 who, .int .i64 n, .int .i64 op, .int .u64 (a : Nat), .int .u64 (b : Nat), .int .u64 (c : Nat), .int .i64 d, .int .i64 m] 55)).drew.cell? ⟨w.heap.size, 8, none⟩ = some (.int .i64 m) := World.cell?_alloc_new ..
  go_enter Tryd.func34, Tryd.ntmps34
  go_wp2_with fail
  generalize w.alloc (.cells #[.int .i64 2, .int .i64 who, .int .i64 n, .int .i64 op, .int .u64 (a : Nat), .int .u64 (b : Nat), .int .u64 (c : Nat), .int .i64 d, .int .i64 m] 55) = w0 at *
  obtain ⟨X, hX⟩ : ∃ X, X = w.heap.size := ⟨_, rfl⟩
  rw [← hX] at hsx x0 x1 x2 x3 x4 x5 x6 x7 x8 ⊢
  clear hX k1
  have G0 := Lib.hid kd
  clear kd
  refine wp_region_held_drew (S := fun w' => w'.cell? ⟨X, 0, none⟩ = some (.int .i64 2) ∧ w'.cell? ⟨X, 1, none⟩ = some (.int .i64 who) ∧ w'.cell? ⟨X, 2, none⟩ = some (.int .i64 n) ∧ w'.cell? ⟨X, 3, none⟩ = some (.int .i64 op) ∧ w'.cell? ⟨X, 4, none⟩ = some (.int .u64 (a : Nat)) ∧ w'.cell? ⟨X, 5, none⟩ = some (.int .u64 (b : Nat)) ∧ w'.cell? ⟨X, 6, none⟩ = some (.int .u64 (c : Nat)) ∧ w'.cell? ⟨X, 7, none⟩ = some (.int .i64 d) ∧ w'.cell? ⟨X, 8, none⟩ = some (.int .i64 m)) (by kernel_rfl) ⟨x0, x1, x2, x3, x4, x5, x6, x7, x8⟩ (fun hHeld => ?_)
  refine wpAnyH_take (i := 0) (oi := ⟨_, _, _, _, _, _⟩) (v := ?_) rfl (by kernel_rfl) (by kernel_rfl) (by kernel_rfl) (fun _ _ _ h => h) (Or.inl ⟨by rfl, ?_⟩) (by assumption) ?_
  rotate_left
  · intro wz hSw
    try dsimp only at hSw
    go_simp
    try with_reducible rfl
  simp only [Act.put, List.setIfInBounds_toArray, List.set_cons_zero, List.set_cons_succ]
  refine wpAnyH_take (i := 1) (oi := ⟨_, _, _, _, _, _⟩) (v := ?_) rfl (by kernel_rfl) (by kernel_rfl) (by kernel_rfl) (fun _ _ _ h => h) (Or.inl ⟨by rfl, ?_⟩) (by assumption) ?_
  rotate_left
  · intro wz hSw
    try dsimp only at hSw
    go_simp
    try with_reducible rfl
  simp only [Act.put, List.setIfInBounds_toArray, List.set_cons_zero, List.set_cons_succ]
  refine wpAnyH_take (i := 2) (oi := ⟨_, _, _, _, _, _⟩) (v := ?_) rfl (by kernel_rfl) (by kernel_rfl) (by kernel_rfl) (fun _ _ _ h => h) (Or.inl ⟨by rfl, ?_⟩) (by assumption) ?_
  rotate_left
  · intro wz hSw
    try dsimp only at hSw
    go_simp
    try with_reducible rfl
  simp only [Act.put, List.setIfInBounds_toArray, List.set_cons_zero, List.set_cons_succ]
  refine wpAnyH_take (i := 3) (oi := ⟨_, _, _, _, _, _⟩) (v := ?_) rfl (by kernel_rfl) (by kernel_rfl) (by kernel_rfl) (fun _ _ _ h => h) (Or.inl ⟨by rfl, ?_⟩) (by assumption) ?_
  rotate_left
  · intro wz hSw
    try dsimp only at hSw
    go_simp
    try with_reducible rfl
  simp only [Act.put, List.setIfInBounds_toArray, List.set_cons_zero, List.set_cons_succ]
  refine wpAnyH_take (i := 4) (oi := ⟨_, _, _, _, _, _⟩) (v := ?_) rfl (by kernel_rfl) (by kernel_rfl) (by kernel_rfl) (fun _ _ _ h => h) (Or.inl ⟨by rfl, ?_⟩) (by assumption) ?_
  rotate_left
  · intro wz hSw
    try dsimp only at hSw
    go_simp
    try with_reducible rfl
  simp only [Act.put, List.setIfInBounds_toArray, List.set_cons_zero, List.set_cons_succ]
  refine wpAnyH_take (i := 5) (oi := ⟨_, _, _, _, _, _⟩) (v := ?_) rfl (by kernel_rfl) (by kernel_rfl) (by kernel_rfl) (fun _ _ _ h => h) (Or.inl ⟨by rfl, ?_⟩) (by assumption) ?_
  rotate_left
  · intro wz hSw
    try dsimp only at hSw
    go_simp
    try with_reducible rfl
  simp only [Act.put, List.setIfInBounds_toArray, List.set_cons_zero, List.set_cons_succ]
  refine wpAnyH_take (i := 6) (oi := ⟨_, _, _, _, _, _⟩) (v := ?_) rfl (by kernel_rfl) (by kernel_rfl) (by kernel_rfl) (fun _ _ _ h => h) (Or.inl ⟨by rfl, ?_⟩) (by assumption) ?_
  rotate_left
  · intro wz hSw
    try dsimp only at hSw
    go_simp
    try with_reducible rfl
  simp only [Act.put, List.setIfInBounds_toArray, List.set_cons_zero, List.set_cons_succ]
  refine wpAnyH_ready (rs := [7]) (by kernel_rfl) (by simp) ?_
  refine AllReadyH.cons (o := ⟨_, _, _, _, _, _⟩) rfl (fun K hK => ?_) AllReadyH.nil
  go_simp
  refine (C1.out _).mono ?_
  rintro e w1 ⟨rfl, g⟩
  replace x0 := (g.cell_far ⟨X, 0, none⟩ hsx (by simp)).trans x0
  replace x1 := (g.cell_far ⟨X, 1, none⟩ hsx (by simp)).trans x1
  replace x2 := (g.cell_far ⟨X, 2, none⟩ hsx (by simp)).trans x2
  replace x3 := (g.cell_far ⟨X, 3, none⟩ hsx (by simp)).trans x3
  replace x4 := (g.cell_far ⟨X, 4, none⟩ hsx (by simp)).trans x4
  replace x5 := (g.cell_far ⟨X, 5, none⟩ hsx (by simp)).trans x5
  replace x6 := (g.cell_far ⟨X, 6, none⟩ hsx (by simp)).trans x6
  replace x7 := (g.cell_far ⟨X, 7, none⟩ hsx (by simp)).trans x7
  replace x8 := (g.cell_far ⟨X, 8, none⟩ hsx (by simp)).trans x8
  replace hsx := Nat.lt_of_lt_of_le hsx g.size
  have Gg4 := Lib.hid (G0.out.trans g)
  clear g
  refine hK.out _ _ ⟨x0, x1, x2, x3, x4, x5, x6, x7, x8⟩ (fun hHeld => ?_)
  clear hK K
  try simp only [Act.put, List.setIfInBounds_toArray, List.set_cons_zero, List.set_cons_succ]
  refine wpAnyH_take (i := 8) (oi := ⟨_, _, _, _, _, _⟩) (v := ?_) rfl (by kernel_rfl) (by kernel_rfl) (by kernel_rfl) (fun _ _ _ h => h) (Or.inl ⟨by rfl, ?_⟩) (by assumption) ?_
  rotate_left
  · intro wz hSw
    try dsimp only at hSw
    go_simp
    try with_reducible rfl
  simp only [Act.put, List.setIfInBounds_toArray, List.set_cons_zero, List.set_cons_succ]
  refine wpAnyH_take (i := 9) (oi := ⟨_, _, _, _, _, _⟩) (v := ?_) rfl (by kernel_rfl) (by kernel_rfl) (by kernel_rfl) (fun _ _ _ h => h) (Or.inl ⟨by rfl, ?_⟩) (by assumption) ?_
  rotate_left
  · intro wz hSw
    try dsimp only at hSw
    go_simp
    try with_reducible rfl
  simp only [Act.put, List.setIfInBounds_toArray, List.set_cons_zero, List.set_cons_succ]
  cases q with
  | false =>
    refine wpAnyH_take (i := 10) (oi := ⟨_, _, _, _, _, _⟩) (v := undef) rfl (by kernel_rfl) (by kernel_rfl) (by kernel_rfl) (fun _ _ _ h => h) (Or.inr ⟨by rfl, rfl⟩) (by assumption) ?_
    simp only [Act.put, List.setIfInBounds_toArray, List.set_cons_zero, List.set_cons_succ]
    refine wpAnyH_take (i := 11) (oi := ⟨_, _, _, _, _, _⟩) (v := undef) rfl (by kernel_rfl) (by kernel_rfl) (by kernel_rfl) (fun _ _ _ h => h) (Or.inr ⟨by rfl, rfl⟩) (by assumption) ?_
    simp only [Act.put, List.setIfInBounds_toArray, List.set_cons_zero, List.set_cons_succ]
    refine wpAnyH_take (i := 12) (oi := ⟨_, _, _, _, _, _⟩) (v := undef) rfl (by kernel_rfl) (by kernel_rfl) (by kernel_rfl) (fun _ _ _ h => h) (Or.inr ⟨by rfl, rfl⟩) (by assumption) ?_
    simp only [Act.put, List.setIfInBounds_toArray, List.set_cons_zero, List.set_cons_succ]
    refine wpAnyH_take (i := 13) (oi := ⟨_, _, _, _, _, _⟩) (v := ?_) rfl (by kernel_rfl) (by kernel_rfl) (by kernel_rfl) (fun _ _ _ h => h) (Or.inl ⟨by rfl, ?_⟩) (by assumption) ?_
    rotate_left
    · intro wz hSw
      try dsimp only at hSw
      go_simp
      try with_reducible rfl
    simp only [Act.put, List.setIfInBounds_toArray, List.set_cons_zero, List.set_cons_succ]
    refine wpAnyH_take (i := 14) (oi := ⟨_, _, _, _, _, _⟩) (v := ?_) rfl (by kernel_rfl) (by kernel_rfl) (by kernel_rfl) (fun _ _ _ h => h) (Or.inl ⟨by rfl, ?_⟩) (by assumption) ?_
    rotate_left
    · intro wz hSw
      try dsimp only at hSw
      go_simp
      try with_reducible rfl
    simp only [Act.put, List.setIfInBounds_toArray, List.set_cons_zero, List.set_cons_succ]
    refine wpAnyH_take (i := 15) (oi := ⟨_, _, _, _, _, _⟩) (v := undef) rfl (by kernel_rfl) (by kernel_rfl) (by kernel_rfl) (fun _ _ _ h => h) (Or.inr ⟨by rfl, rfl⟩) (by assumption) ?_
    simp only [Act.put, List.setIfInBounds_toArray, List.set_cons_zero, List.set_cons_succ]
    refine wpAnyH_take (i := 16) (oi := ⟨_, _, _, _, _, _⟩) (v := undef) rfl (by kernel_rfl) (by kernel_rfl) (by kernel_rfl) (fun _ _ _ h => h) (Or.inr ⟨by rfl, rfl⟩) (by assumption) ?_
    simp only [Act.put, List.setIfInBounds_toArray, List.set_cons_zero, List.set_cons_succ]
    refine wpAnyH_take (i := 17) (oi := ⟨_, _, _, _, _, _⟩) (v := undef) rfl (by kernel_rfl) (by kernel_rfl) (by kernel_rfl) (fun _ _ _ h => h) (Or.inr ⟨by rfl, rfl⟩) (by assumption) ?_
    simp only [Act.put, List.setIfInBounds_toArray, List.set_cons_zero, List.set_cons_succ]
    refine wpAnyH_take (i := 18) (oi := ⟨_, _, _, _, _, _⟩) (v := ?_) rfl (by kernel_rfl) (by kernel_rfl) (by kernel_rfl) (fun _ _ _ h => h) (Or.inl ⟨by rfl, ?_⟩) (by assumption) ?_
    rotate_left
    · intro wz hSw
      try dsimp only at hSw
      go_simp
      try with_reducible rfl
    simp only [Act.put, List.setIfInBounds_toArray, List.set_cons_zero, List.set_cons_succ]
    refine wpAnyH_take (i := 19) (oi := ⟨_, _, _, _, _, _⟩) (v := ?_) rfl (by kernel_rfl) (by kernel_rfl) (by kernel_rfl) (fun _ _ _ h => h) (Or.inl ⟨by rfl, ?_⟩) (by assumption) ?_
    rotate_left
    · intro wz hSw
      try dsimp only at hSw
      go_simp
      try with_reducible rfl
    simp only [Act.put, List.setIfInBounds_toArray, List.set_cons_zero, List.set_cons_succ]
    refine wpAnyH_take (i := 20) (oi := ⟨_, _, _, _, _, _⟩) (v := undef) rfl (by kernel_rfl) (by kernel_rfl) (by kernel_rfl) (fun _ _ _ h => h) (Or.inr ⟨by rfl, rfl⟩) (by assumption) ?_
    simp only [Act.put, List.setIfInBounds_toArray, List.set_cons_zero, List.set_cons_succ]
    refine wpAnyH_take (i := 21) (oi := ⟨_, _, _, _, _, _⟩) (v := undef) rfl (by kernel_rfl) (by kernel_rfl) (by kernel_rfl) (fun _ _ _ h => h) (Or.inr ⟨by rfl, rfl⟩) (by assumption) ?_
    simp only [Act.put, List.setIfInBounds_toArray, List.set_cons_zero, List.set_cons_succ]
    refine wpAnyH_take (i := 22) (oi := ⟨_, _, _, _, _, _⟩) (v := undef) rfl (by kernel_rfl) (by kernel_rfl) (by kernel_rfl) (fun _ _ _ h => h) (Or.inr ⟨by rfl, rfl⟩) (by assumption) ?_
    simp only [Act.put, List.setIfInBounds_toArray, List.set_cons_zero, List.set_cons_succ]
    refine wpAnyH_take (i := 23) (oi := ⟨_, _, _, _, _, _⟩) (v := ?_) rfl (by kernel_rfl) (by kernel_rfl) (by kernel_rfl) (fun _ _ _ h => h) (Or.inl ⟨by rfl, ?_⟩) (by assumption) ?_
    rotate_left
    · intro wz hSw
      try dsimp only at hSw
      go_simp
      try with_reducible rfl
    simp only [Act.put, List.setIfInBounds_toArray, List.set_cons_zero, List.set_cons_succ]
    refine wpAnyH_take (i := 24) (oi := ⟨_, _, _, _, _, _⟩) (v := ?_) rfl (by kernel_rfl) (by kernel_rfl) (by kernel_rfl) (fun _ _ _ h => h) (Or.inl ⟨by rfl, ?_⟩) (by assumption) ?_
    rotate_left
    · intro wz hSw
      try dsimp only at hSw
      go_simp
      try with_reducible rfl
    simp only [Act.put, List.setIfInBounds_toArray, List.set_cons_zero, List.set_cons_succ]
    refine wpAnyH_done (by kernel_rfl) ?_ _
    clear hHeld
    go_wp2
    go_ret
    exact ⟨by simp, Gg4.out⟩
  | true =>
    refine wpAnyH_take (i := 10) (oi := ⟨_, _, _, _, _, _⟩) (v := ?_) rfl (by kernel_rfl) (by kernel_rfl) (by kernel_rfl) (fun _ _ _ h => h) (Or.inl ⟨by rfl, ?_⟩) (by assumption) ?_
    rotate_left
    · intro wz hSw
      try dsimp only at hSw
      go_simp
      try with_reducible rfl
    simp only [Act.put, List.setIfInBounds_toArray, List.set_cons_zero, List.set_cons_succ]
    refine wpAnyH_take (i := 11) (oi := ⟨_, _, _, _, _, _⟩) (v := ?_) rfl (by kernel_rfl) (by kernel_rfl) (by kernel_rfl) (fun _ _ _ h => h) (Or.inl ⟨by rfl, ?_⟩) (by assumption) ?_
    rotate_left
    · intro wz hSw
      try dsimp only at hSw
      go_simp
      try with_reducible rfl
    simp only [Act.put, List.setIfInBounds_toArray, List.set_cons_zero, List.set_cons_succ]
    refine wpAnyH_ready (rs := [12]) (by kernel_rfl) (by simp) ?_
    refine AllReadyH.cons (o := ⟨_, _, _, _, _, _⟩) rfl (fun K hK => ?_) AllReadyH.nil
    go_simp
    refine (C2.out _).mono ?_
    rintro e w' ⟨rfl, rfl⟩
    refine hK.out _ _ ⟨x0, x1, x2, x3, x4, x5, x6, x7, x8⟩ (fun hHeld => ?_)
    clear hK K
    try simp only [Act.put, List.setIfInBounds_toArray, List.set_cons_zero, List.set_cons_succ]
    refine wpAnyH_take (i := 13) (oi := ⟨_, _, _, _, _, _⟩) (v := ?_) rfl (by kernel_rfl) (by kernel_rfl) (by kernel_rfl) (fun _ _ _ h => h) (Or.inl ⟨by rfl, ?_⟩) (by assumption) ?_
    rotate_left
    · intro wz hSw
      try dsimp only at hSw
      go_simp
      try with_reducible rfl
    simp only [Act.put, List.setIfInBounds_toArray, List.set_cons_zero, List.set_cons_succ]
    refine wpAnyH_take (i := 14) (oi := ⟨_, _, _, _, _, _⟩) (v := ?_) rfl (by kernel_rfl) (by kernel_rfl) (by kernel_rfl) (fun _ _ _ h => h) (Or.inl ⟨by rfl, ?_⟩) (by assumption) ?_
    rotate_left
    · intro wz hSw
      try dsimp only at hSw
      go_simp
      try with_reducible rfl
    simp only [Act.put, List.setIfInBounds_toArray, List.set_cons_zero, List.set_cons_succ]
    cases qb with
    | false =>
      refine wpAnyH_take (i := 15) (oi := ⟨_, _, _, _, _, _⟩) (v := undef) rfl (by kernel_rfl) (by kernel_rfl) (by kernel_rfl) (fun _ _ _ h => h) (Or.inr ⟨by rfl, rfl⟩) (by assumption) ?_
      simp only [Act.put, List.setIfInBounds_toArray, List.set_cons_zero, List.set_cons_succ]
      refine wpAnyH_take (i := 16) (oi := ⟨_, _, _, _, _, _⟩) (v := undef) rfl (by kernel_rfl) (by kernel_rfl) (by kernel_rfl) (fun _ _ _ h => h) (Or.inr ⟨by rfl, rfl⟩) (by assumption) ?_
      simp only [Act.put, List.setIfInBounds_toArray, List.set_cons_zero, List.set_cons_succ]
      refine wpAnyH_take (i := 17) (oi := ⟨_, _, _, _, _, _⟩) (v := undef) rfl (by kernel_rfl) (by kernel_rfl) (by kernel_rfl) (fun _ _ _ h => h) (Or.inr ⟨by rfl, rfl⟩) (by assumption) ?_
      simp only [Act.put, List.setIfInBounds_toArray, List.set_cons_zero, List.set_cons_succ]
      refine wpAnyH_take (i := 18) (oi := ⟨_, _, _, _, _, _⟩) (v := ?_) rfl (by kernel_rfl) (by kernel_rfl) (by kernel_rfl) (fun _ _ _ h => h) (Or.inl ⟨by rfl, ?_⟩) (by assumption) ?_
      rotate_left
      · intro wz hSw
        try dsimp only at hSw
        go_simp
        try with_reducible rfl
      simp only [Act.put, List.setIfInBounds_toArray, List.set_cons_zero, List.set_cons_succ]
      refine wpAnyH_take (i := 19) (oi := ⟨_, _, _, _, _, _⟩) (v := ?_) rfl (by kernel_rfl) (by kernel_rfl) (by kernel_rfl) (fun _ _ _ h => h) (Or.inl ⟨by rfl, ?_⟩) (by assumption) ?_
      rotate_left
      · intro wz hSw
        try dsimp only at hSw
        go_simp
        try with_reducible rfl
      simp only [Act.put, List.setIfInBounds_toArray, List.set_cons_zero, List.set_cons_succ]
      refine wpAnyH_take (i := 20) (oi := ⟨_, _, _, _, _, _⟩) (v := undef) rfl (by kernel_rfl) (by kernel_rfl) (by kernel_rfl) (fun _ _ _ h => h) (Or.inr ⟨by rfl, rfl⟩) (by assumption) ?_
      simp only [Act.put, List.setIfInBounds_toArray, List.set_cons_zero, List.set_cons_succ]
      refine wpAnyH_take (i := 21) (oi := ⟨_, _, _, _, _, _⟩) (v := undef) rfl (by kernel_rfl) (by kernel_rfl) (by kernel_rfl) (fun _ _ _ h => h) (Or.inr ⟨by rfl, rfl⟩) (by assumption) ?_
      simp only [Act.put, List.setIfInBounds_toArray, List.set_cons_zero, List.set_cons_succ]
      refine wpAnyH_take (i := 22) (oi := ⟨_, _, _, _, _, _⟩) (v := undef) rfl (by kernel_rfl) (by kernel_rfl) (by kernel_rfl) (fun _ _ _ h => h) (Or.inr ⟨by rfl, rfl⟩) (by assumption) ?_
      simp only [Act.put, List.setIfInBounds_toArray, List.set_cons_zero, List.set_cons_succ]
      refine wpAnyH_take (i := 23) (oi := ⟨_, _, _, _, _, _⟩) (v := ?_) rfl (by kernel_rfl) (by kernel_rfl) (by kernel_rfl) (fun _ _ _ h => h) (Or.inl ⟨by rfl, ?_⟩) (by assumption) ?_
      rotate_left
      · intro wz hSw
        try dsimp only at hSw
        go_simp
        try with_reducible rfl
      simp only [Act.put, List.setIfInBounds_toArray, List.set_cons_zero, List.set_cons_succ]
      refine wpAnyH_take (i := 24) (oi := ⟨_, _, _, _, _, _⟩) (v := ?_) rfl (by kernel_rfl) (by kernel_rfl) (by kernel_rfl) (fun _ _ _ h => h) (Or.inl ⟨by rfl, ?_⟩) (by assumption) ?_
      rotate_left
      · intro wz hSw
        try dsimp only at hSw
        go_simp
        try with_reducible rfl
      simp only [Act.put, List.setIfInBounds_toArray, List.set_cons_zero, List.set_cons_succ]
      refine wpAnyH_done (by kernel_rfl) ?_ _
      clear hHeld
      go_wp2
      go_ret
      exact ⟨by simp, Gg4.out⟩
    | true =>
      refine wpAnyH_take (i := 15) (oi := ⟨_, _, _, _, _, _⟩) (v := ?_) rfl (by kernel_rfl) (by kernel_rfl) (by kernel_rfl) (fun _ _ _ h => h) (Or.inl ⟨by rfl, ?_⟩) (by assumption) ?_
      rotate_left
      · intro wz hSw
        try dsimp only at hSw
        go_simp
        try with_reducible rfl
      simp only [Act.put, List.setIfInBounds_toArray, List.set_cons_zero, List.set_cons_succ]
      refine wpAnyH_take (i := 16) (oi := ⟨_, _, _, _, _, _⟩) (v := ?_) rfl (by kernel_rfl) (by kernel_rfl) (by kernel_rfl) (fun _ _ _ h => h) (Or.inl ⟨by rfl, ?_⟩) (by assumption) ?_
      rotate_left
      · intro wz hSw
        try dsimp only at hSw
        go_simp
        try with_reducible rfl
      simp only [Act.put, List.setIfInBounds_toArray, List.set_cons_zero, List.set_cons_succ]
      refine wpAnyH_ready (rs := [17]) (by kernel_rfl) (by simp) ?_
      refine AllReadyH.cons (o := ⟨_, _, _, _, _, _⟩) rfl (fun K hK => ?_) AllReadyH.nil
      go_simp
      refine (C3.out _).mono ?_
      rintro e w' ⟨rfl, rfl⟩
      refine hK.out _ _ ⟨x0, x1, x2, x3, x4, x5, x6, x7, x8⟩ (fun hHeld => ?_)
      clear hK K
      try simp only [Act.put, List.setIfInBounds_toArray, List.set_cons_zero, List.set_cons_succ]
      refine wpAnyH_take (i := 18) (oi := ⟨_, _, _, _, _, _⟩) (v := ?_) rfl (by kernel_rfl) (by kernel_rfl) (by kernel_rfl) (fun _ _ _ h => h) (Or.inl ⟨by rfl, ?_⟩) (by assumption) ?_
      rotate_left
      · intro wz hSw
        try dsimp only at hSw
        go_simp
        try with_reducible rfl
      simp only [Act.put, List.setIfInBounds_toArray, List.set_cons_zero, List.set_cons_succ]
      refine wpAnyH_take (i := 19) (oi := ⟨_, _, _, _, _, _⟩) (v := ?_) rfl (by kernel_rfl) (by kernel_rfl) (by kernel_rfl) (fun _ _ _ h => h) (Or.inl ⟨by rfl, ?_⟩) (by assumption) ?_
      rotate_left
      · intro wz hSw
        try dsimp only at hSw
        go_simp
        try with_reducible rfl
      simp only [Act.put, List.setIfInBounds_toArray, List.set_cons_zero, List.set_cons_succ]
      cases qd with
      | false =>
        refine wpAnyH_take (i := 20) (oi := ⟨_, _, _, _, _, _⟩) (v := undef) rfl (by kernel_rfl) (by kernel_rfl) (by kernel_rfl) (fun _ _ _ h => h) (Or.inr ⟨by rfl, rfl⟩) (by assumption) ?_
        simp only [Act.put, List.setIfInBounds_toArray, List.set_cons_zero, List.set_cons_succ]
        refine wpAnyH_take (i := 21) (oi := ⟨_, _, _, _, _, _⟩) (v := undef) rfl (by kernel_rfl) (by kernel_rfl) (by kernel_rfl) (fun _ _ _ h => h) (Or.inr ⟨by rfl, rfl⟩) (by assumption) ?_
        simp only [Act.put, List.setIfInBounds_toArray, List.set_cons_zero, List.set_cons_succ]
        refine wpAnyH_take (i := 22) (oi := ⟨_, _, _, _, _, _⟩) (v := undef) rfl (by kernel_rfl) (by kernel_rfl) (by kernel_rfl) (fun _ _ _ h => h) (Or.inr ⟨by rfl, rfl⟩) (by assumption) ?_
        simp only [Act.put, List.setIfInBounds_toArray, List.set_cons_zero, List.set_cons_succ]
        refine wpAnyH_take (i := 23) (oi := ⟨_, _, _, _, _, _⟩) (v := ?_) rfl (by kernel_rfl) (by kernel_rfl) (by kernel_rfl) (fun _ _ _ h => h) (Or.inl ⟨by rfl, ?_⟩) (by assumption) ?_
        rotate_left
        · intro wz hSw
          try dsimp only at hSw
          go_simp
          try with_reducible rfl
        simp only [Act.put, List.setIfInBounds_toArray, List.set_cons_zero, List.set_cons_succ]
        refine wpAnyH_take (i := 24) (oi := ⟨_, _, _, _, _, _⟩) (v := ?_) rfl (by kernel_rfl) (by kernel_rfl) (by kernel_rfl) (fun _ _ _ h => h) (Or.inl ⟨by rfl, ?_⟩) (by assumption) ?_
        rotate_left
        · intro wz hSw
          try dsimp only at hSw
          go_simp
          try with_reducible rfl
        simp only [Act.put, List.setIfInBounds_toArray, List.set_cons_zero, List.set_cons_succ]
        refine wpAnyH_done (by kernel_rfl) ?_ _
        clear hHeld
        go_wp2
        go_ret
        exact ⟨by simp, Gg4.out⟩
      | true =>
        refine wpAnyH_take (i := 20) (oi := ⟨_, _, _, _, _, _⟩) (v := ?_) rfl (by kernel_rfl) (by kernel_rfl) (by kernel_rfl) (fun _ _ _ h => h) (Or.inl ⟨by rfl, ?_⟩) (by assumption) ?_
        rotate_left
        · intro wz hSw
          try dsimp only at hSw
          go_simp
          try with_reducible rfl
        simp only [Act.put, List.setIfInBounds_toArray, List.set_cons_zero, List.set_cons_succ]
        refine wpAnyH_take (i := 21) (oi := ⟨_, _, _, _, _, _⟩) (v := ?_) rfl (by kernel_rfl) (by kernel_rfl) (by kernel_rfl) (fun _ _ _ h => h) (Or.inl ⟨by rfl, ?_⟩) (by assumption) ?_
        rotate_left
        · intro wz hSw
          try dsimp only at hSw
          go_simp
          try with_reducible rfl
        simp only [Act.put, List.setIfInBounds_toArray, List.set_cons_zero, List.set_cons_succ]
        refine wpAnyH_ready (rs := [22]) (by kernel_rfl) (by simp) ?_
        refine AllReadyH.cons (o := ⟨_, _, _, _, _, _⟩) rfl (fun K hK => ?_) AllReadyH.nil
        go_simp
        refine (C4.out _).mono ?_
        rintro e w' ⟨rfl, rfl⟩
        refine hK.out _ _ ⟨x0, x1, x2, x3, x4, x5, x6, x7, x8⟩ (fun hHeld => ?_)
        clear hK K
        try simp only [Act.put, List.setIfInBounds_toArray, List.set_cons_zero, List.set_cons_succ]
        refine wpAnyH_take (i := 23) (oi := ⟨_, _, _, _, _, _⟩) (v := ?_) rfl (by kernel_rfl) (by kernel_rfl) (by kernel_rfl) (fun _ _ _ h => h) (Or.inl ⟨by rfl, ?_⟩) (by assumption) ?_
        rotate_left
        · intro wz hSw
          try dsimp only at hSw
          go_simp
          try with_reducible rfl
        simp only [Act.put, List.setIfInBounds_toArray, List.set_cons_zero, List.set_cons_succ]
        refine wpAnyH_take (i := 24) (oi := ⟨_, _, _, _, _, _⟩) (v := ?_) rfl (by kernel_rfl) (by kernel_rfl) (by kernel_rfl) (fun _ _ _ h => h) (Or.inl ⟨by rfl, ?_⟩) (by assumption) ?_
        rotate_left
        · intro wz hSw
          try dsimp only at hSw
          go_simp
          try with_reducible rfl
        simp only [Act.put, List.setIfInBounds_toArray, List.set_cons_zero, List.set_cons_succ]
        refine wpAnyH_done (by kernel_rfl) ?_ _
        clear hHeld
        go_wp2
        go_ret
        exact ⟨by simp, Gg4.out⟩
set_option maxHeartbeats 4000000 in
theorem wright_x (w : World) (k who n op d m : Int) (a b c : Nat) (h0 : k ≠ 0) (h1 : k ≠ 1) (h2 : k ≠ 2) :
    Calls Tryd.prog 34 #[(En.mk k who n ⟨op, a, b, c⟩ d m).val] w fun e w' => e = .returned (.bool (okE ⟨k, who, n, ⟨op, a, b, c⟩, d, m⟩)) ∧ w.grownBy w' none := by
  rw [okE_x k who n _ d m h0 h1 h2]
  unfold En.val
  simp only
  have q0 : (k == 0) = false := by rw [beq_eq_false_iff_ne]; exact h0
  have q1 : (k == 1) = false := by rw [beq_eq_false_iff_ne]; exact h1
  have q2 : (k == 2) = false := by rw [beq_eq_false_iff_ne]; exact h2
  clear h0 h1 h2
  go_enter Tryd.func34, Tryd.ntmps34
  go_wp2
  go_ret
  exact ⟨rfl, World.grownBy_alloc w _ none⟩
theorem wright {w : World} (e : En) (hs : smC e.call) (HT : FormsAt w) :
    Calls Tryd.prog 34 #[e.val] w fun r w' => r = .returned (.bool (okE e)) ∧ w.grownBy w' none := by
  obtain ⟨k, who, n, ⟨op, a, b, c⟩, d, m⟩ := e
  by_cases h0 : k = 0
  · subst h0; exact wright_0 w who n op d m a b c
  by_cases h1 : k = 1
  · subst h1; exact wright_1 w who n op d m a b c hs HT
  by_cases h2 : k = 2
  · subst h2; exact wright_2 w who n op d m a b c
  exact wright_x w k who n op d m a b c h0 h1 h2
end Go.Proofs.YtcnojgkolpdomaaDoor
