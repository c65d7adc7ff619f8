/-
  Texts of one claim, joined, one behind the other.
-/
import Derived.Test.YtkkodhjolgcokaaDoorJoin10
import Derived.Deep.RegionHeld3
import Derived.Sort.Grow
import Derived.Sort.OwnSortedInts
import Derived.Test.YtkkodhjolgcokaaDoorShelf
/-
  The wheel's order of two alarms (the closure of To).
-/
namespace Go.Proofs.YtkkodhjolgcokaaDoor
open Go.RowKit Go.Lib Go.Sort
set_option maxRecDepth 100000
set_option linter.unusedVariables false
/-- A world that has grown out of another one: it has drawn some times, and made blocks. -/
def GR (w w' : World) : Prop := ∃ q hp, w' = { w.drewN q with heap := hp } ∧ w.heap.size ≤ hp.size ∧ ∀ i, i < w.heap.size → hp[i]? = w.heap[i]?
theorem box2W (w : World) (u v : Value) (T : TypeId) (k : Nat) : (((w.alloc (.cells #[u, v] T)).drewN k).cell? ⟨w.heap.size, 0, none⟩ = some u ∧ ((w.alloc (.cells #[u, v] T)).drewN k).cell? ⟨w.heap.size, 1, none⟩ = some v) ∧ w.grownBy ((w.alloc (.cells #[u, v] T)).drewN k) none := by
  have e : ((w.alloc (.cells #[u, v] T)).drewN k).heap[w.heap.size]? = some (.cells #[u, v] T) := Array.getElem?_push_size
  have g := World.grownBy_alloc w (.cells #[u, v] T) none
  refine ⟨⟨?_, ?_⟩, ⟨g.os, g.tape, g.output, g.size, g.block⟩⟩ <;> (rw [World.cell?]; simp only [e]; rfl)
theorem set2W {w : World} {b : Nat} {u0 v0 : Value} (u v : Value) (h0 : w.cell? ⟨b, 0, none⟩ = some u0) (h1 : w.cell? ⟨b, 1, none⟩ = some v0) : ((w.setCell ⟨b, 0, none⟩ u).setCell ⟨b, 1, none⟩ v).cell? ⟨b, 0, none⟩ = some u ∧ ((w.setCell ⟨b, 0, none⟩ u).setCell ⟨b, 1, none⟩ v).cell? ⟨b, 1, none⟩ = some v :=
  ⟨(World.cell?_setCell_other _ ⟨b, 1, none⟩ ⟨b, 0, none⟩ _ (by simp)).trans (World.cell?_setCell_same _ _ _ h0), World.cell?_setCell_same _ _ _ ((World.cell?_setCell_other _ ⟨b, 0, none⟩ ⟨b, 1, none⟩ _ (by simp)).trans h1)⟩
theorem GR.refl (w : World) : GR w w := ⟨0, w.heap, rfl, Nat.le_refl _, fun _ _ => rfl⟩
theorem GR.drew {w w' : World} (h : GR w w') : GR w w'.drew := by
  obtain ⟨q, hp, rfl, h1, h2⟩ := h
  exact ⟨q + 1, hp, rfl, h1, h2⟩
theorem GR.alloc {w w' : World} (h : GR w w') (o : Obj) : GR w (w'.alloc o) := by
  obtain ⟨q, hp, rfl, h1, h2⟩ := h
  refine ⟨q, hp.push o, rfl, by rw [Array.size_push]; omega, fun i hi => ?_⟩
  rw [Array.getElem?_push, if_neg (by omega)]
  exact h2 i hi
theorem GR.set {w w' : World} (h : GR w w') (b o : Nat) (v : Value) (hb : w.heap.size ≤ b) : GR w (w'.setCell ⟨b, o, none⟩ v) := by
  obtain ⟨q, hp, rfl, h1, h2⟩ := h
  refine ⟨q, _, rfl, by simp [World.setCell]; exact h1, fun i hi => ?_⟩
  have := Below.heap_setCell { w.drewN q with heap := hp } ⟨b, o, none⟩ v i (by show i ≠ b; omega)
  exact this.trans (h2 i hi)
theorem GR.grow {w w' : World} (h : GR w w') : ∃ q os', w' = grow (w.drewN q) os' := by
  obtain ⟨q, hp, rfl, h1, h2⟩ := h
  refine ⟨q, hp.extract w.heap.size hp.size, ?_⟩
  have e : hp = w.heap ++ hp.extract w.heap.size hp.size := by
    apply Array.ext_getElem?
    intro i
    rw [Array.getElem?_append]
    by_cases hi : i < w.heap.size
    · rw [if_pos hi]; exact h2 i hi
    · rw [if_neg hi, Array.getElem?_extract]
      by_cases h3 : i < hp.size
      · rw [if_pos (by omega)]
        congr 1
        omega
      · rw [if_neg (by omega)]
        exact Array.getElem?_eq_none (by omega)
  show ({ w.drewN q with heap := hp } : World) = { w.drewN q with heap := w.heap ++ hp.extract w.heap.size hp.size }
  rw [← e]
/-- How two alarms stand: by their times, their turns, their numbers. -/
def ordA (A : Nat → Nat × Nat) (a b : Nat) : Int := orI (cmpI (A a).1 (A b).1) (cmpI (A a).2 (A b).2) (cmpI a b)
section
variable {w w' : World} {wb ab lb n now xb : Nat} {A : Nat → Nat × Nat} {L : Nat → List Nat} {C : Nat → Nat}
set_option maxHeartbeats 4000000 in
theorem to1_any (x0 : w.cell? ⟨xb, 0, none⟩ = some (.pointer (some ⟨wb, 0, none⟩))) (c1 : w.cell? ⟨wb, 1, none⟩ = some (.slice (some ⟨ab, 0, none⟩) n n))
    (ha : ∀ k, k < n → w.cell? ⟨ab, k * 2, none⟩ = some (.int .u64 ((A k).1 : Nat)) ∧ w.cell? ⟨ab, k * 2 + 1, none⟩ = some (.int .u64 ((A k).2 : Nat))) (a b : Nat) (hn : n ≤ 4096) (hka : a < n) (hkb : b < n) :
    Calls Tryd.prog 49 #[.int .i64 (a : Nat), .int .i64 (b : Nat), .pointer (some ⟨xb, 0, none⟩)] w fun e w' => e = .returned (.int .i64 (ordA A a b)) ∧ ∃ q os', w' = grow (w.drewN q) os' := by
  obtain ⟨p0, p1⟩ := ha a hka
  obtain ⟨q0, q1⟩ := ha b hkb
  obtain ⟨s, hs⟩ : ∃ s, ordA A a b = s := ⟨_, rfl⟩
  unfold ordA at hs
  rw [show ordA A a b = s from hs]
  generalize (A a).1 = ta at *
  generalize (A a).2 = ua at *
  generalize (A b).1 = tb at *
  generalize (A b).2 = ub at *
  have HS := Lib.hid hs
  have qa : (a : Int) < (n : Int) := by omega
  have qb : (b : Int) < (n : Int) := by omega
  clear ha hs
  go_enter Tryd.func49, Tryd.ntmps49
  go_wp2_with fail
  refine wp_region_held_drew (S := fun x => x.cell? ⟨xb, 0, none⟩ = some (.pointer (some ⟨wb, 0, none⟩)) ∧ x.cell? ⟨wb, 1, none⟩ = some (.slice (some ⟨ab, 0, none⟩) n n) ∧ x.cell? ⟨ab, a * 2, none⟩ = some (.int .u64 (ta : Nat)) ∧ x.cell? ⟨ab, a * 2 + 1, none⟩ = some (.int .u64 (ua : Nat)) ∧ x.cell? ⟨ab, b * 2, none⟩ = some (.int .u64 (tb : Nat)) ∧ x.cell? ⟨ab, b * 2 + 1, none⟩ = some (.int .u64 (ub : Nat))) (by kernel_rfl) ⟨x0, c1, p0, p1, q0, q1⟩ (fun hHeld => ?_)
  refine wpAnyH_take (i := 0) (oi := ⟨_, _, _, _, _, _⟩) (v := ?_) rfl (by kernel_rfl) (by kernel_rfl) (by kernel_rfl) (fun _ _ _ h => h) (Or.inl ⟨by rfl, ?_⟩) (by assumption) ?_
  rotate_left
  · intro wz hSw
    try dsimp only at hSw
    go_simp
    try with_reducible rfl
  simp only [Act.put, List.setIfInBounds_toArray, List.set_cons_zero, List.set_cons_succ]
  refine wpAnyH_take (i := 1) (oi := ⟨_, _, _, _, _, _⟩) (v := ?_) rfl (by kernel_rfl) (by kernel_rfl) (by kernel_rfl) (fun _ _ _ h => h) (Or.inl ⟨by rfl, ?_⟩) (by assumption) ?_
  rotate_left
  · intro wz hSw
    try dsimp only at hSw
    go_simp
    try with_reducible rfl
  simp only [Act.put, List.setIfInBounds_toArray, List.set_cons_zero, List.set_cons_succ]
  refine wpAnyH_take (i := 2) (oi := ⟨_, _, _, _, _, _⟩) (v := ?_) rfl (by kernel_rfl) (by kernel_rfl) (by kernel_rfl) (fun _ _ _ h => h) (Or.inl ⟨by rfl, ?_⟩) (by assumption) ?_
  rotate_left
  · intro wz hSw
    try dsimp only at hSw
    go_simp
    try with_reducible rfl
  simp only [Act.put, List.setIfInBounds_toArray, List.set_cons_zero, List.set_cons_succ]
  refine wpAnyH_take (i := 3) (oi := ⟨_, _, _, _, _, _⟩) (v := ?_) rfl (by kernel_rfl) (by kernel_rfl) (by kernel_rfl) (fun _ _ _ h => h) (Or.inl ⟨by rfl, ?_⟩) (by assumption) ?_
  rotate_left
  · intro wz hSw
    try dsimp only at hSw
    go_simp
    try with_reducible rfl
  simp only [Act.put, List.setIfInBounds_toArray, List.set_cons_zero, List.set_cons_succ]
  refine wpAnyH_take (i := 4) (oi := ⟨_, _, _, _, _, _⟩) (v := ?_) rfl (by kernel_rfl) (by kernel_rfl) (by kernel_rfl) (fun _ _ _ h => h) (Or.inl ⟨by rfl, ?_⟩) (by assumption) ?_
  rotate_left
  · intro wz hSw
    try dsimp only at hSw
    go_simp
    try with_reducible rfl
  simp only [Act.put, List.setIfInBounds_toArray, List.set_cons_zero, List.set_cons_succ]
  refine wpAnyH_take (i := 5) (oi := ⟨_, _, _, _, _, _⟩) (v := ?_) rfl (by kernel_rfl) (by kernel_rfl) (by kernel_rfl) (fun _ _ _ h => h) (Or.inl ⟨by rfl, ?_⟩) (by assumption) ?_
  rotate_left
  · intro wz hSw
    try dsimp only at hSw
    go_simp
    try with_reducible rfl
  simp only [Act.put, List.setIfInBounds_toArray, List.set_cons_zero, List.set_cons_succ]
  refine wpAnyH_take (i := 6) (oi := ⟨_, _, _, _, _, _⟩) (v := ?_) rfl (by kernel_rfl) (by kernel_rfl) (by kernel_rfl) (fun _ _ _ h => h) (Or.inl ⟨by rfl, ?_⟩) (by assumption) ?_
  rotate_left
  · intro wz hSw
    try dsimp only at hSw
    go_simp
    try with_reducible rfl
  simp only [Act.put, List.setIfInBounds_toArray, List.set_cons_zero, List.set_cons_succ]
  refine wpAnyH_take (i := 7) (oi := ⟨_, _, _, _, _, _⟩) (v := ?_) rfl (by kernel_rfl) (by kernel_rfl) (by kernel_rfl) (fun _ _ _ h => h) (Or.inl ⟨by rfl, ?_⟩) (by assumption) ?_
  rotate_left
  · intro wz hSw
    try dsimp only at hSw
    go_simp
    try with_reducible rfl
  simp only [Act.put, List.setIfInBounds_toArray, List.set_cons_zero, List.set_cons_succ]
  refine wpAnyH_take (i := 8) (oi := ⟨_, _, _, _, _, _⟩) (v := ?_) rfl (by kernel_rfl) (by kernel_rfl) (by kernel_rfl) (fun _ _ _ h => h) (Or.inl ⟨by rfl, ?_⟩) (by assumption) ?_
  rotate_left
  · intro wz hSw
    try dsimp only at hSw
    go_simp
    try with_reducible rfl
  simp only [Act.put, List.setIfInBounds_toArray, List.set_cons_zero, List.set_cons_succ]
  refine wpAnyH_take (i := 9) (oi := ⟨_, _, _, _, _, _⟩) (v := ?_) rfl (by kernel_rfl) (by kernel_rfl) (by kernel_rfl) (fun _ _ _ h => h) (Or.inl ⟨by rfl, ?_⟩) (by assumption) ?_
  rotate_left
  · intro wz hSw
    try dsimp only at hSw
    go_simp
    try with_reducible rfl
  simp only [Act.put, List.setIfInBounds_toArray, List.set_cons_zero, List.set_cons_succ]
  refine wpAnyH_take (i := 10) (oi := ⟨_, _, _, _, _, _⟩) (v := ?_) rfl (by kernel_rfl) (by kernel_rfl) (by kernel_rfl) (fun _ _ _ h => h) (Or.inl ⟨by rfl, ?_⟩) (by assumption) ?_
  rotate_left
  · intro wz hSw
    try dsimp only at hSw
    go_simp
    try with_reducible rfl
  simp only [Act.put, List.setIfInBounds_toArray, List.set_cons_zero, List.set_cons_succ]
  refine wpAnyH_take (i := 11) (oi := ⟨_, _, _, _, _, _⟩) (v := ?_) rfl (by kernel_rfl) (by kernel_rfl) (by kernel_rfl) (fun _ _ _ h => h) (Or.inl ⟨by rfl, ?_⟩) (by assumption) ?_
  rotate_left
  · intro wz hSw
    try dsimp only at hSw
    go_simp
    try with_reducible rfl
  simp only [Act.put, List.setIfInBounds_toArray, List.set_cons_zero, List.set_cons_succ]
  refine wpAnyH_take (i := 12) (oi := ⟨_, _, _, _, _, _⟩) (v := ?_) rfl (by kernel_rfl) (by kernel_rfl) (by kernel_rfl) (fun _ _ _ h => h) (Or.inl ⟨by rfl, ?_⟩) (by assumption) ?_
  rotate_left
  · intro wz hSw
    try dsimp only at hSw
    go_simp
    try with_reducible rfl
  simp only [Act.put, List.setIfInBounds_toArray, List.set_cons_zero, List.set_cons_succ]
  refine wpAnyH_take (i := 13) (oi := ⟨_, _, _, _, _, _⟩) (v := ?_) rfl (by kernel_rfl) (by kernel_rfl) (by kernel_rfl) (fun _ _ _ h => h) (Or.inl ⟨by rfl, ?_⟩) (by assumption) ?_
  rotate_left
  · intro wz hSw
    try dsimp only at hSw
    go_simp
    try with_reducible rfl
  simp only [Act.put, List.setIfInBounds_toArray, List.set_cons_zero, List.set_cons_succ]
  have G0 : Hid (GR w w.drew) := Lib.hid (GR.refl w).drew
  replace x0 : w.drew.cell? ⟨xb, 0, none⟩ = some (.pointer (some ⟨wb, 0, none⟩)) := x0
  replace c1 : w.drew.cell? ⟨wb, 1, none⟩ = some (.slice (some ⟨ab, 0, none⟩) n n) := c1
  replace p0 : w.drew.cell? ⟨ab, a * 2, none⟩ = some (.int .u64 (ta : Nat)) := p0
  replace p1 : w.drew.cell? ⟨ab, a * 2 + 1, none⟩ = some (.int .u64 (ua : Nat)) := p1
  replace q0 : w.drew.cell? ⟨ab, b * 2, none⟩ = some (.int .u64 (tb : Nat)) := q0
  replace q1 : w.drew.cell? ⟨ab, b * 2 + 1, none⟩ = some (.int .u64 (ub : Nat)) := q1
  have hw0 : Hid (w.heap.size ≤ w.drew.heap.size) := Lib.hid (Nat.le_refl _)
  have hxl : xb < w.drew.heap.size := World.block_lt_of_cell? _ ⟨xb, 0, none⟩ x0
  have hwl : wb < w.drew.heap.size := World.block_lt_of_cell? _ ⟨wb, 1, none⟩ c1
  have hal : ab < w.drew.heap.size := World.block_lt_of_cell? _ ⟨ab, a * 2, none⟩ p0
  generalize w.drew = v0 at *
  refine wpAnyH_ready (rs := [14, 15]) (by kernel_rfl) (by simp) ?_
  refine AllReadyH.cons (o := ⟨_, _, _, _, _, _⟩) rfl (fun K hK => ?_) (AllReadyH.cons (o := ⟨_, _, _, _, _, _⟩) rfl (fun K hK => ?_) AllReadyH.nil)
  · skip
    go_simp
    have ka := World.grownBy_alloc v0 (.cells #[.int .u64 0, .int .u64 0] 79) none
    replace x0 := ka.cell x0 (by simp)
    replace c1 := ka.cell c1 (by simp)
    replace p0 := ka.cell p0 (by simp)
    replace p1 := ka.cell p1 (by simp)
    replace q0 := ka.cell q0 (by simp)
    replace q1 := ka.cell q1 (by simp)
    have G1 := Lib.hid (G0.out.alloc (.cells #[.int .u64 0, .int .u64 0] 79))
    obtain ⟨⟨m0, m1⟩, _⟩ := box2W v0 (.int .u64 0) (.int .u64 0) 79 0
    have m0 : (v0.alloc (.cells #[.int .u64 0, .int .u64 0] 79)).cell? ⟨v0.heap.size, 0, none⟩ = some (.int .u64 0) := m0
    have m1 : (v0.alloc (.cells #[.int .u64 0, .int .u64 0] 79)).cell? ⟨v0.heap.size, 1, none⟩ = some (.int .u64 0) := m1
    have s1 : (v0.alloc (.cells #[.int .u64 0, .int .u64 0] 79)).heap.size = v0.heap.size + 1 := World.size_alloc ..
    have g1 : ∀ o, (v0.alloc (.cells #[.int .u64 0, .int .u64 0] 79)).frozen? ⟨v0.heap.size, o, none⟩ = false := fun o => by simp [go_sem]
    refine hK.out _ _ ⟨x0, c1, p0, p1, q0, q1⟩ (fun hHeld => ?_)
    clear hK K
    try simp only [Act.put, List.setIfInBounds_toArray, List.set_cons_zero, List.set_cons_succ]
    refine wpAnyH_ready (rs := [15]) (by kernel_rfl) (by simp) ?_
    refine AllReadyH.cons (o := ⟨_, _, _, _, _, _⟩) rfl (fun K hK => ?_) AllReadyH.nil
    go_simp
    have kb := World.grownBy_alloc (v0.alloc (.cells #[.int .u64 0, .int .u64 0] 79)) (.cells #[.int .u64 0, .int .u64 0] 79) none
    replace x0 := kb.cell x0 (by simp)
    replace c1 := kb.cell c1 (by simp)
    replace p0 := kb.cell p0 (by simp)
    replace p1 := kb.cell p1 (by simp)
    replace q0 := kb.cell q0 (by simp)
    replace q1 := kb.cell q1 (by simp)
    have G2 := Lib.hid (G1.out.alloc (.cells #[.int .u64 0, .int .u64 0] 79))
    obtain ⟨⟨r0, r1⟩, _⟩ := box2W (v0.alloc (.cells #[.int .u64 0, .int .u64 0] 79)) (.int .u64 0) (.int .u64 0) 79 0
    have r0 : ((v0.alloc (.cells #[.int .u64 0, .int .u64 0] 79)).alloc (.cells #[.int .u64 0, .int .u64 0] 79)).cell? ⟨(v0.alloc (.cells #[.int .u64 0, .int .u64 0] 79)).heap.size, 0, none⟩ = some (.int .u64 0) := r0
    have r1 : ((v0.alloc (.cells #[.int .u64 0, .int .u64 0] 79)).alloc (.cells #[.int .u64 0, .int .u64 0] 79)).cell? ⟨(v0.alloc (.cells #[.int .u64 0, .int .u64 0] 79)).heap.size, 1, none⟩ = some (.int .u64 0) := r1
    have g2 : ∀ o, ((v0.alloc (.cells #[.int .u64 0, .int .u64 0] 79)).alloc (.cells #[.int .u64 0, .int .u64 0] 79)).frozen? ⟨(v0.alloc (.cells #[.int .u64 0, .int .u64 0] 79)).heap.size, o, none⟩ = false := fun o => by simp [go_sem]
    replace m0 := kb.cell m0 (by simp)
    replace m1 := kb.cell m1 (by simp)
    replace g1 : ∀ o, ((v0.alloc (.cells #[.int .u64 0, .int .u64 0] 79)).alloc (.cells #[.int .u64 0, .int .u64 0] 79)).frozen? ⟨v0.heap.size, o, none⟩ = false := fun o => (kb.frozen_far ⟨v0.heap.size, o, none⟩ (by show v0.heap.size < _; omega) (by simp)).trans (g1 o)
    rw [s1] at r0 r1 g2
    refine hK.out _ _ ⟨x0, c1, p0, p1, q0, q1⟩ (fun hHeld => ?_)
    clear hK K
    try simp only [Act.put, List.setIfInBounds_toArray, List.set_cons_zero, List.set_cons_succ]
    have hs2 : v0.heap.size + 1 < ((v0.alloc (.cells #[.int .u64 0, .int .u64 0] 79)).alloc (.cells #[.int .u64 0, .int .u64 0] 79)).heap.size := by rw [World.size_alloc, s1]; omega
    clear ka kb G0 G1 s1
    generalize (v0.alloc (.cells #[.int .u64 0, .int .u64 0] 79)).alloc (.cells #[.int .u64 0, .int .u64 0] 79) = v2 at *
    generalize hm : v0.heap.size = mb at *
    have f0 := g1 0
    have f1 := g1 1
    refine wpAnyH_ready (rs := [16]) (by kernel_rfl) (by simp) ?_
    refine AllReadyH.cons (o := ⟨_, _, _, _, _, _⟩) rfl (fun K hK => ?_) AllReadyH.nil
    go_simp
    obtain ⟨n0, n1⟩ := set2W (.int .u64 (ta : Nat)) (.int .u64 (ua : Nat)) m0 m1
    have ko : Only (mb) (mb + 1) v2 ((v2.setCell ⟨mb, 0, none⟩ (.int .u64 (ta : Nat))).setCell ⟨mb, 1, none⟩ (.int .u64 (ua : Nat))) := (Only.set v2 ⟨mb, 0, none⟩ (.int .u64 (ta : Nat)) (Nat.le_refl _) (Nat.lt_succ_self _)).trans (Only.set _ ⟨mb, 1, none⟩ (.int .u64 (ua : Nat)) (Nat.le_refl _) (Nat.lt_succ_self _))
    replace x0 := (ko.cell _ (by show xb < _; omega) (Or.inl (by show xb < _; omega))).trans x0
    replace c1 := (ko.cell _ (by show wb < _; omega) (Or.inl (by show wb < _; omega))).trans c1
    replace p0 := (ko.cell _ (by show ab < _; omega) (Or.inl (by show ab < _; omega))).trans p0
    replace p1 := (ko.cell _ (by show ab < _; omega) (Or.inl (by show ab < _; omega))).trans p1
    replace q0 := (ko.cell _ (by show ab < _; omega) (Or.inl (by show ab < _; omega))).trans q0
    replace q1 := (ko.cell _ (by show ab < _; omega) (Or.inl (by show ab < _; omega))).trans q1
    replace r0 := (ko.cell ⟨mb + 1, 0, none⟩ (by show mb + 1 < _; omega) (Or.inr (Nat.le_refl _))).trans r0
    replace r1 := (ko.cell ⟨mb + 1, 1, none⟩ (by show mb + 1 < _; omega) (Or.inr (Nat.le_refl _))).trans r1
    replace g2 : ∀ o, ((v2.setCell ⟨mb, 0, none⟩ (.int .u64 (ta : Nat))).setCell ⟨mb, 1, none⟩ (.int .u64 (ua : Nat))).frozen? ⟨mb + 1, o, none⟩ = false := fun o => (ko.frozen ⟨mb + 1, o, none⟩ (by show mb + 1 < _; omega) (Or.inr (Nat.le_refl _))).trans (g2 o)
    have G3 : Hid (GR w ((v2.setCell ⟨mb, 0, none⟩ (.int .u64 (ta : Nat))).setCell ⟨mb, 1, none⟩ (.int .u64 (ua : Nat)))) := Lib.hid ((G2.out.set mb 0 _ (by have := hw0.out; omega)).set mb 1 _ (by have := hw0.out; omega))
    have hs3 : mb + 1 < ((v2.setCell ⟨mb, 0, none⟩ (.int .u64 (ta : Nat))).setCell ⟨mb, 1, none⟩ (.int .u64 (ua : Nat))).heap.size := by have := ko.size; omega
    clear ko m0 m1 f0 f1 g1 G2 hs2
    refine hK.out _ _ ⟨x0, c1, p0, p1, q0, q1⟩ (fun hHeld => ?_)
    clear hK K
    try simp only [Act.put, List.setIfInBounds_toArray, List.set_cons_zero, List.set_cons_succ]
    generalize ((v2.setCell ⟨mb, 0, none⟩ (.int .u64 (ta : Nat))).setCell ⟨mb, 1, none⟩ (.int .u64 (ua : Nat))) = v3 at *
    have f0 := g2 0
    have f1 := g2 1
    refine wpAnyH_ready (rs := [17]) (by kernel_rfl) (by simp) ?_
    refine AllReadyH.cons (o := ⟨_, _, _, _, _, _⟩) rfl (fun K hK => ?_) AllReadyH.nil
    go_simp
    obtain ⟨l0, l1⟩ := set2W (.int .u64 (tb : Nat)) (.int .u64 (ub : Nat)) r0 r1
    have ko : Only (mb + 1) (mb + 1 + 1) v3 ((v3.setCell ⟨mb + 1, 0, none⟩ (.int .u64 (tb : Nat))).setCell ⟨mb + 1, 1, none⟩ (.int .u64 (ub : Nat))) := (Only.set v3 ⟨mb + 1, 0, none⟩ (.int .u64 (tb : Nat)) (Nat.le_refl _) (Nat.lt_succ_self _)).trans (Only.set _ ⟨mb + 1, 1, none⟩ (.int .u64 (ub : Nat)) (Nat.le_refl _) (Nat.lt_succ_self _))
    replace x0 := (ko.cell _ (by show xb < _; omega) (Or.inl (by show xb < _; omega))).trans x0
    replace c1 := (ko.cell _ (by show wb < _; omega) (Or.inl (by show wb < _; omega))).trans c1
    replace p0 := (ko.cell _ (by show ab < _; omega) (Or.inl (by show ab < _; omega))).trans p0
    replace p1 := (ko.cell _ (by show ab < _; omega) (Or.inl (by show ab < _; omega))).trans p1
    replace q0 := (ko.cell _ (by show ab < _; omega) (Or.inl (by show ab < _; omega))).trans q0
    replace q1 := (ko.cell _ (by show ab < _; omega) (Or.inl (by show ab < _; omega))).trans q1
    replace n0 := (ko.cell ⟨mb, 0, none⟩ (by show mb < _; omega) (Or.inl (Nat.lt_succ_self _))).trans n0
    replace n1 := (ko.cell ⟨mb, 1, none⟩ (by show mb < _; omega) (Or.inl (Nat.lt_succ_self _))).trans n1
    have G4 : Hid (GR w ((v3.setCell ⟨mb + 1, 0, none⟩ (.int .u64 (tb : Nat))).setCell ⟨mb + 1, 1, none⟩ (.int .u64 (ub : Nat)))) := Lib.hid ((G3.out.set (mb + 1) 0 _ (by have := hw0.out; omega)).set (mb + 1) 1 _ (by have := hw0.out; omega))
    clear ko r0 r1 f0 f1 g2 G3 hs3
    refine hK.out _ _ ⟨x0, c1, p0, p1, q0, q1⟩ (fun hHeld => ?_)
    clear hK K
    try simp only [Act.put, List.setIfInBounds_toArray, List.set_cons_zero, List.set_cons_succ]
    generalize ((v3.setCell ⟨mb + 1, 0, none⟩ (.int .u64 (tb : Nat))).setCell ⟨mb + 1, 1, none⟩ (.int .u64 (ub : Nat))) = v4 at *
    refine wpAnyH_done (by kernel_rfl) ?_ _
    clear x0 c1 p0 p1 q0 q1
    go_wp2_with fail
    have G5 : Hid (GR w v4.drew) := Lib.hid G4.out.drew
    refine wp_region_held_drew (S := fun x => x.cell? ⟨mb, 0, none⟩ = some (.int .u64 (ta : Nat)) ∧ x.cell? ⟨mb, 1, none⟩ = some (.int .u64 (ua : Nat)) ∧ x.cell? ⟨mb + 1, 0, none⟩ = some (.int .u64 (tb : Nat)) ∧ x.cell? ⟨mb + 1, 1, none⟩ = some (.int .u64 (ub : Nat))) (by kernel_rfl) ⟨n0, n1, l0, l1⟩ (fun hHeld => ?_)
    replace n0 : v4.drew.cell? ⟨mb, 0, none⟩ = some (.int .u64 (ta : Nat)) := n0
    replace n1 : v4.drew.cell? ⟨mb, 1, none⟩ = some (.int .u64 (ua : Nat)) := n1
    replace l0 : v4.drew.cell? ⟨mb + 1, 0, none⟩ = some (.int .u64 (tb : Nat)) := l0
    replace l1 : v4.drew.cell? ⟨mb + 1, 1, none⟩ = some (.int .u64 (ub : Nat)) := l1
    clear G4
    generalize v4.drew = v5 at *
    refine wpAnyH_take (i := 0) (oi := ⟨_, _, _, _, _, _⟩) (v := ?_) rfl (by kernel_rfl) (by kernel_rfl) (by kernel_rfl) (fun _ _ _ h => h) (Or.inl ⟨by rfl, ?_⟩) (by assumption) ?_
    rotate_left
    · intro wz hSw
      try dsimp only at hSw
      go_simp
      try with_reducible rfl
    simp only [Act.put, List.setIfInBounds_toArray, List.set_cons_zero, List.set_cons_succ]
    refine wpAnyH_take (i := 1) (oi := ⟨_, _, _, _, _, _⟩) (v := ?_) rfl (by kernel_rfl) (by kernel_rfl) (by kernel_rfl) (fun _ _ _ h => h) (Or.inl ⟨by rfl, ?_⟩) (by assumption) ?_
    rotate_left
    · intro wz hSw
      try dsimp only at hSw
      go_simp
      try with_reducible rfl
    simp only [Act.put, List.setIfInBounds_toArray, List.set_cons_zero, List.set_cons_succ]
    refine wpAnyH_take (i := 2) (oi := ⟨_, _, _, _, _, _⟩) (v := ?_) rfl (by kernel_rfl) (by kernel_rfl) (by kernel_rfl) (fun _ _ _ h => h) (Or.inl ⟨by rfl, ?_⟩) (by assumption) ?_
    rotate_left
    · intro wz hSw
      try dsimp only at hSw
      go_simp
      try with_reducible rfl
    simp only [Act.put, List.setIfInBounds_toArray, List.set_cons_zero, List.set_cons_succ]
    refine wpAnyH_take (i := 3) (oi := ⟨_, _, _, _, _, _⟩) (v := ?_) rfl (by kernel_rfl) (by kernel_rfl) (by kernel_rfl) (fun _ _ _ h => h) (Or.inl ⟨by rfl, ?_⟩) (by assumption) ?_
    rotate_left
    · intro wz hSw
      try dsimp only at hSw
      go_simp
      try with_reducible rfl
    simp only [Act.put, List.setIfInBounds_toArray, List.set_cons_zero, List.set_cons_succ]
    refine wpAnyH_take (i := 5) (oi := ⟨_, _, _, _, _, _⟩) (v := ?_) rfl (by kernel_rfl) (by kernel_rfl) (by kernel_rfl) (fun _ _ _ h => h) (Or.inl ⟨by rfl, ?_⟩) (by assumption) ?_
    rotate_left
    · intro wz hSw
      try dsimp only at hSw
      go_simp
      try with_reducible rfl
    simp only [Act.put, List.setIfInBounds_toArray, List.set_cons_zero, List.set_cons_succ]
    refine wpAnyH_take (i := 6) (oi := ⟨_, _, _, _, _, _⟩) (v := ?_) rfl (by kernel_rfl) (by kernel_rfl) (by kernel_rfl) (fun _ _ _ h => h) (Or.inl ⟨by rfl, ?_⟩) (by assumption) ?_
    rotate_left
    · intro wz hSw
      try dsimp only at hSw
      go_simp
      try with_reducible rfl
    simp only [Act.put, List.setIfInBounds_toArray, List.set_cons_zero, List.set_cons_succ]
    refine wpAnyH_take (i := 7) (oi := ⟨_, _, _, _, _, _⟩) (v := ?_) rfl (by kernel_rfl) (by kernel_rfl) (by kernel_rfl) (fun _ _ _ h => h) (Or.inl ⟨by rfl, ?_⟩) (by assumption) ?_
    rotate_left
    · intro wz hSw
      try dsimp only at hSw
      go_simp
      try with_reducible rfl
    simp only [Act.put, List.setIfInBounds_toArray, List.set_cons_zero, List.set_cons_succ]
    refine wpAnyH_take (i := 8) (oi := ⟨_, _, _, _, _, _⟩) (v := ?_) rfl (by kernel_rfl) (by kernel_rfl) (by kernel_rfl) (fun _ _ _ h => h) (Or.inl ⟨by rfl, ?_⟩) (by assumption) ?_
    rotate_left
    · intro wz hSw
      try dsimp only at hSw
      go_simp
      try with_reducible rfl
    simp only [Act.put, List.setIfInBounds_toArray, List.set_cons_zero, List.set_cons_succ]
    refine wpAnyH_take (i := 10) (oi := ⟨_, _, _, _, _, _⟩) (v := ?_) rfl (by kernel_rfl) (by kernel_rfl) (by kernel_rfl) (fun _ _ _ h => h) (Or.inl ⟨by rfl, ?_⟩) (by assumption) ?_
    rotate_left
    · intro wz hSw
      try dsimp only at hSw
      go_simp
      try with_reducible rfl
    simp only [Act.put, List.setIfInBounds_toArray, List.set_cons_zero, List.set_cons_succ]
    refine wpAnyH_take (i := 11) (oi := ⟨_, _, _, _, _, _⟩) (v := ?_) rfl (by kernel_rfl) (by kernel_rfl) (by kernel_rfl) (fun _ _ _ h => h) (Or.inl ⟨by rfl, ?_⟩) (by assumption) ?_
    rotate_left
    · intro wz hSw
      try dsimp only at hSw
      go_simp
      try with_reducible rfl
    simp only [Act.put, List.setIfInBounds_toArray, List.set_cons_zero, List.set_cons_succ]
    refine wpAnyH_ready (rs := [4]) (by kernel_rfl) (by simp) ?_
    refine AllReadyH.cons (o := ⟨_, _, _, _, _, _⟩) rfl (fun K hK => ?_) AllReadyH.nil
    go_simp
    refine (cmp_u64 ta tb _).mono ?_
    rintro e w' ⟨rfl, rfl⟩
    refine hK.out _ _ hHeld (fun hHeld => ?_)
    clear hK K
    try simp only [Act.put, List.setIfInBounds_toArray, List.set_cons_zero, List.set_cons_succ]
    refine wpAnyH_ready (rs := [9]) (by kernel_rfl) (by simp) ?_
    refine AllReadyH.cons (o := ⟨_, _, _, _, _, _⟩) rfl (fun K hK => ?_) AllReadyH.nil
    go_simp
    refine (cmp_u64 ua ub _).mono ?_
    rintro e w' ⟨rfl, rfl⟩
    refine hK.out _ _ hHeld (fun hHeld => ?_)
    clear hK K
    try simp only [Act.put, List.setIfInBounds_toArray, List.set_cons_zero, List.set_cons_succ]
    refine wpAnyH_ready (rs := [12]) (by kernel_rfl) (by simp) ?_
    refine AllReadyH.cons (o := ⟨_, _, _, _, _, _⟩) rfl (fun K hK => ?_) AllReadyH.nil
    go_simp
    refine (cmp_int a b _).mono ?_
    rintro e w' ⟨rfl, rfl⟩
    refine hK.out _ _ hHeld (fun hHeld => ?_)
    clear hK K
    try simp only [Act.put, List.setIfInBounds_toArray, List.set_cons_zero, List.set_cons_succ]
    obtain ⟨o1, ho1⟩ : ∃ z, cmpI ta tb = z := ⟨_, rfl⟩
    obtain ⟨o2, ho2⟩ : ∃ z, cmpI ua ub = z := ⟨_, rfl⟩
    obtain ⟨o3, ho3⟩ : ∃ z, cmpI a b = z := ⟨_, rfl⟩
    rw [ho1, ho2, ho3] at HS
    rw [ho1, ho2, ho3]
    clear ho1 ho2 ho3
    refine wpAnyH_ready (rs := [13]) (by kernel_rfl) (by simp) ?_
    refine AllReadyH.cons (o := ⟨_, _, _, _, _, _⟩) rfl (fun K hK => ?_) AllReadyH.nil
    go_simp
    have kr := World.grownBy_alloc v5 (.cells #[.int .i64 o1, .int .i64 o2, .int .i64 o3] 3) none
    have G6 : Hid (GR w (v5.alloc (.cells #[.int .i64 o1, .int .i64 o2, .int .i64 o3] 3))) := Lib.hid (G5.out.alloc _)
    have COR := Lib.hid (or_three o1 o2 o3 v5.heap.size (v5.alloc (.cells #[.int .i64 o1, .int .i64 o2, .int .i64 o3] 3)) (World.cell?_alloc_at _ _ _ 0 rfl) (World.cell?_alloc_at _ _ _ 1 rfl) (World.cell?_alloc_at _ _ _ 2 rfl))
    rw [HS.out] at COR
    replace n0 := kr.cell n0 (by simp)
    replace n1 := kr.cell n1 (by simp)
    replace l0 := kr.cell l0 (by simp)
    replace l1 := kr.cell l1 (by simp)
    refine hK.out _ _ ⟨n0, n1, l0, l1⟩ (fun hHeld => ?_)
    clear hK K
    try simp only [Act.put, List.setIfInBounds_toArray, List.set_cons_zero, List.set_cons_succ]
    clear kr G5
    refine wpAnyH_ready (rs := [14]) (by kernel_rfl) (by simp) ?_
    refine AllReadyH.cons (o := ⟨_, _, _, _, _, _⟩) rfl (fun K hK => ?_) AllReadyH.nil
    go_simp
    refine COR.out.mono ?_
    rintro e w' ⟨rfl, rfl⟩
    refine hK.out _ _ hHeld (fun hHeld => ?_)
    clear hK K
    try simp only [Act.put, List.setIfInBounds_toArray, List.set_cons_zero, List.set_cons_succ]
    refine wpAnyH_ready (rs := [15]) (by kernel_rfl) (by simp) ?_
    refine AllReadyH.cons (o := ⟨_, _, _, _, _, _⟩) rfl (fun K hK => ?_) AllReadyH.nil
    go_simp
    refine hK.out _ _ hHeld (fun hHeld => ?_)
    clear hK K
    try simp only [Act.put, List.setIfInBounds_toArray, List.set_cons_zero, List.set_cons_succ]
    refine wpAnyH_done (by kernel_rfl) ?_ _
    go_wp2
    go_ret
    exact ⟨rfl, G6.out.grow⟩
  · skip
    go_simp
    have ka := World.grownBy_alloc v0 (.cells #[.int .u64 0, .int .u64 0] 79) none
    replace x0 := ka.cell x0 (by simp)
    replace c1 := ka.cell c1 (by simp)
    replace p0 := ka.cell p0 (by simp)
    replace p1 := ka.cell p1 (by simp)
    replace q0 := ka.cell q0 (by simp)
    replace q1 := ka.cell q1 (by simp)
    have G1 := Lib.hid (G0.out.alloc (.cells #[.int .u64 0, .int .u64 0] 79))
    obtain ⟨⟨m0, m1⟩, _⟩ := box2W v0 (.int .u64 0) (.int .u64 0) 79 0
    have m0 : (v0.alloc (.cells #[.int .u64 0, .int .u64 0] 79)).cell? ⟨v0.heap.size, 0, none⟩ = some (.int .u64 0) := m0
    have m1 : (v0.alloc (.cells #[.int .u64 0, .int .u64 0] 79)).cell? ⟨v0.heap.size, 1, none⟩ = some (.int .u64 0) := m1
    have s1 : (v0.alloc (.cells #[.int .u64 0, .int .u64 0] 79)).heap.size = v0.heap.size + 1 := World.size_alloc ..
    have g1 : ∀ o, (v0.alloc (.cells #[.int .u64 0, .int .u64 0] 79)).frozen? ⟨v0.heap.size, o, none⟩ = false := fun o => by simp [go_sem]
    refine hK.out _ _ ⟨x0, c1, p0, p1, q0, q1⟩ (fun hHeld => ?_)
    clear hK K
    try simp only [Act.put, List.setIfInBounds_toArray, List.set_cons_zero, List.set_cons_succ]
    refine wpAnyH_ready (rs := [14]) (by kernel_rfl) (by simp) ?_
    refine AllReadyH.cons (o := ⟨_, _, _, _, _, _⟩) rfl (fun K hK => ?_) AllReadyH.nil
    go_simp
    have kb := World.grownBy_alloc (v0.alloc (.cells #[.int .u64 0, .int .u64 0] 79)) (.cells #[.int .u64 0, .int .u64 0] 79) none
    replace x0 := kb.cell x0 (by simp)
    replace c1 := kb.cell c1 (by simp)
    replace p0 := kb.cell p0 (by simp)
    replace p1 := kb.cell p1 (by simp)
    replace q0 := kb.cell q0 (by simp)
    replace q1 := kb.cell q1 (by simp)
    have G2 := Lib.hid (G1.out.alloc (.cells #[.int .u64 0, .int .u64 0] 79))
    obtain ⟨⟨r0, r1⟩, _⟩ := box2W (v0.alloc (.cells #[.int .u64 0, .int .u64 0] 79)) (.int .u64 0) (.int .u64 0) 79 0
    have r0 : ((v0.alloc (.cells #[.int .u64 0, .int .u64 0] 79)).alloc (.cells #[.int .u64 0, .int .u64 0] 79)).cell? ⟨(v0.alloc (.cells #[.int .u64 0, .int .u64 0] 79)).heap.size, 0, none⟩ = some (.int .u64 0) := r0
    have r1 : ((v0.alloc (.cells #[.int .u64 0, .int .u64 0] 79)).alloc (.cells #[.int .u64 0, .int .u64 0] 79)).cell? ⟨(v0.alloc (.cells #[.int .u64 0, .int .u64 0] 79)).heap.size, 1, none⟩ = some (.int .u64 0) := r1
    have g2 : ∀ o, ((v0.alloc (.cells #[.int .u64 0, .int .u64 0] 79)).alloc (.cells #[.int .u64 0, .int .u64 0] 79)).frozen? ⟨(v0.alloc (.cells #[.int .u64 0, .int .u64 0] 79)).heap.size, o, none⟩ = false := fun o => by simp [go_sem]
    replace m0 := kb.cell m0 (by simp)
    replace m1 := kb.cell m1 (by simp)
    replace g1 : ∀ o, ((v0.alloc (.cells #[.int .u64 0, .int .u64 0] 79)).alloc (.cells #[.int .u64 0, .int .u64 0] 79)).frozen? ⟨v0.heap.size, o, none⟩ = false := fun o => (kb.frozen_far ⟨v0.heap.size, o, none⟩ (by show v0.heap.size < _; omega) (by simp)).trans (g1 o)
    rw [s1] at r0 r1 g2
    refine hK.out _ _ ⟨x0, c1, p0, p1, q0, q1⟩ (fun hHeld => ?_)
    clear hK K
    try simp only [Act.put, List.setIfInBounds_toArray, List.set_cons_zero, List.set_cons_succ]
    have hs2 : v0.heap.size + 1 < ((v0.alloc (.cells #[.int .u64 0, .int .u64 0] 79)).alloc (.cells #[.int .u64 0, .int .u64 0] 79)).heap.size := by rw [World.size_alloc, s1]; omega
    clear ka kb G0 G1 s1
    generalize (v0.alloc (.cells #[.int .u64 0, .int .u64 0] 79)).alloc (.cells #[.int .u64 0, .int .u64 0] 79) = v2 at *
    generalize hm : v0.heap.size = mb at *
    have f0 := g2 0
    have f1 := g2 1
    refine wpAnyH_ready (rs := [16]) (by kernel_rfl) (by simp) ?_
    refine AllReadyH.cons (o := ⟨_, _, _, _, _, _⟩) rfl (fun K hK => ?_) AllReadyH.nil
    go_simp
    obtain ⟨n0, n1⟩ := set2W (.int .u64 (ta : Nat)) (.int .u64 (ua : Nat)) r0 r1
    have ko : Only (mb + 1) (mb + 1 + 1) v2 ((v2.setCell ⟨mb + 1, 0, none⟩ (.int .u64 (ta : Nat))).setCell ⟨mb + 1, 1, none⟩ (.int .u64 (ua : Nat))) := (Only.set v2 ⟨mb + 1, 0, none⟩ (.int .u64 (ta : Nat)) (Nat.le_refl _) (Nat.lt_succ_self _)).trans (Only.set _ ⟨mb + 1, 1, none⟩ (.int .u64 (ua : Nat)) (Nat.le_refl _) (Nat.lt_succ_self _))
    replace x0 := (ko.cell _ (by show xb < _; omega) (Or.inl (by show xb < _; omega))).trans x0
    replace c1 := (ko.cell _ (by show wb < _; omega) (Or.inl (by show wb < _; omega))).trans c1
    replace p0 := (ko.cell _ (by show ab < _; omega) (Or.inl (by show ab < _; omega))).trans p0
    replace p1 := (ko.cell _ (by show ab < _; omega) (Or.inl (by show ab < _; omega))).trans p1
    replace q0 := (ko.cell _ (by show ab < _; omega) (Or.inl (by show ab < _; omega))).trans q0
    replace q1 := (ko.cell _ (by show ab < _; omega) (Or.inl (by show ab < _; omega))).trans q1
    replace m0 := (ko.cell ⟨mb, 0, none⟩ (by show mb < _; omega) (Or.inl (Nat.lt_succ_self _))).trans m0
    replace m1 := (ko.cell ⟨mb, 1, none⟩ (by show mb < _; omega) (Or.inl (Nat.lt_succ_self _))).trans m1
    replace g1 : ∀ o, ((v2.setCell ⟨mb + 1, 0, none⟩ (.int .u64 (ta : Nat))).setCell ⟨mb + 1, 1, none⟩ (.int .u64 (ua : Nat))).frozen? ⟨mb, o, none⟩ = false := fun o => (ko.frozen ⟨mb, o, none⟩ (by show mb < _; omega) (Or.inl (Nat.lt_succ_self _))).trans (g1 o)
    have G3 : Hid (GR w ((v2.setCell ⟨mb + 1, 0, none⟩ (.int .u64 (ta : Nat))).setCell ⟨mb + 1, 1, none⟩ (.int .u64 (ua : Nat)))) := Lib.hid ((G2.out.set (mb + 1) 0 _ (by have := hw0.out; omega)).set (mb + 1) 1 _ (by have := hw0.out; omega))
    have hs3 : mb + 1 < ((v2.setCell ⟨mb + 1, 0, none⟩ (.int .u64 (ta : Nat))).setCell ⟨mb + 1, 1, none⟩ (.int .u64 (ua : Nat))).heap.size := by have := ko.size; omega
    clear ko r0 r1 f0 f1 g2 G2 hs2
    refine hK.out _ _ ⟨x0, c1, p0, p1, q0, q1⟩ (fun hHeld => ?_)
    clear hK K
    try simp only [Act.put, List.setIfInBounds_toArray, List.set_cons_zero, List.set_cons_succ]
    generalize ((v2.setCell ⟨mb + 1, 0, none⟩ (.int .u64 (ta : Nat))).setCell ⟨mb + 1, 1, none⟩ (.int .u64 (ua : Nat))) = v3 at *
    have f0 := g1 0
    have f1 := g1 1
    refine wpAnyH_ready (rs := [17]) (by kernel_rfl) (by simp) ?_
    refine AllReadyH.cons (o := ⟨_, _, _, _, _, _⟩) rfl (fun K hK => ?_) AllReadyH.nil
    go_simp
    obtain ⟨l0, l1⟩ := set2W (.int .u64 (tb : Nat)) (.int .u64 (ub : Nat)) m0 m1
    have ko : Only (mb) (mb + 1) v3 ((v3.setCell ⟨mb, 0, none⟩ (.int .u64 (tb : Nat))).setCell ⟨mb, 1, none⟩ (.int .u64 (ub : Nat))) := (Only.set v3 ⟨mb, 0, none⟩ (.int .u64 (tb : Nat)) (Nat.le_refl _) (Nat.lt_succ_self _)).trans (Only.set _ ⟨mb, 1, none⟩ (.int .u64 (ub : Nat)) (Nat.le_refl _) (Nat.lt_succ_self _))
    replace x0 := (ko.cell _ (by show xb < _; omega) (Or.inl (by show xb < _; omega))).trans x0
    replace c1 := (ko.cell _ (by show wb < _; omega) (Or.inl (by show wb < _; omega))).trans c1
    replace p0 := (ko.cell _ (by show ab < _; omega) (Or.inl (by show ab < _; omega))).trans p0
    replace p1 := (ko.cell _ (by show ab < _; omega) (Or.inl (by show ab < _; omega))).trans p1
    replace q0 := (ko.cell _ (by show ab < _; omega) (Or.inl (by show ab < _; omega))).trans q0
    replace q1 := (ko.cell _ (by show ab < _; omega) (Or.inl (by show ab < _; omega))).trans q1
    replace n0 := (ko.cell ⟨mb + 1, 0, none⟩ (by show mb + 1 < _; omega) (Or.inr (Nat.le_refl _))).trans n0
    replace n1 := (ko.cell ⟨mb + 1, 1, none⟩ (by show mb + 1 < _; omega) (Or.inr (Nat.le_refl _))).trans n1
    have G4 : Hid (GR w ((v3.setCell ⟨mb, 0, none⟩ (.int .u64 (tb : Nat))).setCell ⟨mb, 1, none⟩ (.int .u64 (ub : Nat)))) := Lib.hid ((G3.out.set (mb) 0 _ (by have := hw0.out; omega)).set (mb) 1 _ (by have := hw0.out; omega))
    clear ko m0 m1 f0 f1 g1 G3 hs3
    refine hK.out _ _ ⟨x0, c1, p0, p1, q0, q1⟩ (fun hHeld => ?_)
    clear hK K
    try simp only [Act.put, List.setIfInBounds_toArray, List.set_cons_zero, List.set_cons_succ]
    generalize ((v3.setCell ⟨mb, 0, none⟩ (.int .u64 (tb : Nat))).setCell ⟨mb, 1, none⟩ (.int .u64 (ub : Nat))) = v4 at *
    refine wpAnyH_done (by kernel_rfl) ?_ _
    clear x0 c1 p0 p1 q0 q1
    go_wp2_with fail
    have G5 : Hid (GR w v4.drew) := Lib.hid G4.out.drew
    refine wp_region_held_drew (S := fun x => x.cell? ⟨mb + 1, 0, none⟩ = some (.int .u64 (ta : Nat)) ∧ x.cell? ⟨mb + 1, 1, none⟩ = some (.int .u64 (ua : Nat)) ∧ x.cell? ⟨mb, 0, none⟩ = some (.int .u64 (tb : Nat)) ∧ x.cell? ⟨mb, 1, none⟩ = some (.int .u64 (ub : Nat))) (by kernel_rfl) ⟨n0, n1, l0, l1⟩ (fun hHeld => ?_)
    replace n0 : v4.drew.cell? ⟨mb + 1, 0, none⟩ = some (.int .u64 (ta : Nat)) := n0
    replace n1 : v4.drew.cell? ⟨mb + 1, 1, none⟩ = some (.int .u64 (ua : Nat)) := n1
    replace l0 : v4.drew.cell? ⟨mb, 0, none⟩ = some (.int .u64 (tb : Nat)) := l0
    replace l1 : v4.drew.cell? ⟨mb, 1, none⟩ = some (.int .u64 (ub : Nat)) := l1
    clear G4
    generalize v4.drew = v5 at *
    refine wpAnyH_take (i := 0) (oi := ⟨_, _, _, _, _, _⟩) (v := ?_) rfl (by kernel_rfl) (by kernel_rfl) (by kernel_rfl) (fun _ _ _ h => h) (Or.inl ⟨by rfl, ?_⟩) (by assumption) ?_
    rotate_left
    · intro wz hSw
      try dsimp only at hSw
      go_simp
      try with_reducible rfl
    simp only [Act.put, List.setIfInBounds_toArray, List.set_cons_zero, List.set_cons_succ]
    refine wpAnyH_take (i := 1) (oi := ⟨_, _, _, _, _, _⟩) (v := ?_) rfl (by kernel_rfl) (by kernel_rfl) (by kernel_rfl) (fun _ _ _ h => h) (Or.inl ⟨by rfl, ?_⟩) (by assumption) ?_
    rotate_left
    · intro wz hSw
      try dsimp only at hSw
      go_simp
      try with_reducible rfl
    simp only [Act.put, List.setIfInBounds_toArray, List.set_cons_zero, List.set_cons_succ]
    refine wpAnyH_take (i := 2) (oi := ⟨_, _, _, _, _, _⟩) (v := ?_) rfl (by kernel_rfl) (by kernel_rfl) (by kernel_rfl) (fun _ _ _ h => h) (Or.inl ⟨by rfl, ?_⟩) (by assumption) ?_
    rotate_left
    · intro wz hSw
      try dsimp only at hSw
      go_simp
      try with_reducible rfl
    simp only [Act.put, List.setIfInBounds_toArray, List.set_cons_zero, List.set_cons_succ]
    refine wpAnyH_take (i := 3) (oi := ⟨_, _, _, _, _, _⟩) (v := ?_) rfl (by kernel_rfl) (by kernel_rfl) (by kernel_rfl) (fun _ _ _ h => h) (Or.inl ⟨by rfl, ?_⟩) (by assumption) ?_
    rotate_left
    · intro wz hSw
      try dsimp only at hSw
      go_simp
      try with_reducible rfl
    simp only [Act.put, List.setIfInBounds_toArray, List.set_cons_zero, List.set_cons_succ]
    refine wpAnyH_take (i := 5) (oi := ⟨_, _, _, _, _, _⟩) (v := ?_) rfl (by kernel_rfl) (by kernel_rfl) (by kernel_rfl) (fun _ _ _ h => h) (Or.inl ⟨by rfl, ?_⟩) (by assumption) ?_
    rotate_left
    · intro wz hSw
      try dsimp only at hSw
      go_simp
      try with_reducible rfl
    simp only [Act.put, List.setIfInBounds_toArray, List.set_cons_zero, List.set_cons_succ]
    refine wpAnyH_take (i := 6) (oi := ⟨_, _, _, _, _, _⟩) (v := ?_) rfl (by kernel_rfl) (by kernel_rfl) (by kernel_rfl) (fun _ _ _ h => h) (Or.inl ⟨by rfl, ?_⟩) (by assumption) ?_
    rotate_left
    · intro wz hSw
      try dsimp only at hSw
      go_simp
      try with_reducible rfl
    simp only [Act.put, List.setIfInBounds_toArray, List.set_cons_zero, List.set_cons_succ]
    refine wpAnyH_take (i := 7) (oi := ⟨_, _, _, _, _, _⟩) (v := ?_) rfl (by kernel_rfl) (by kernel_rfl) (by kernel_rfl) (fun _ _ _ h => h) (Or.inl ⟨by rfl, ?_⟩) (by assumption) ?_
    rotate_left
    · intro wz hSw
      try dsimp only at hSw
      go_simp
      try with_reducible rfl
    simp only [Act.put, List.setIfInBounds_toArray, List.set_cons_zero, List.set_cons_succ]
    refine wpAnyH_take (i := 8) (oi := ⟨_, _, _, _, _, _⟩) (v := ?_) rfl (by kernel_rfl) (by kernel_rfl) (by kernel_rfl) (fun _ _ _ h => h) (Or.inl ⟨by rfl, ?_⟩) (by assumption) ?_
    rotate_left
    · intro wz hSw
      try dsimp only at hSw
      go_simp
      try with_reducible rfl
    simp only [Act.put, List.setIfInBounds_toArray, List.set_cons_zero, List.set_cons_succ]
    refine wpAnyH_take (i := 10) (oi := ⟨_, _, _, _, _, _⟩) (v := ?_) rfl (by kernel_rfl) (by kernel_rfl) (by kernel_rfl) (fun _ _ _ h => h) (Or.inl ⟨by rfl, ?_⟩) (by assumption) ?_
    rotate_left
    · intro wz hSw
      try dsimp only at hSw
      go_simp
      try with_reducible rfl
    simp only [Act.put, List.setIfInBounds_toArray, List.set_cons_zero, List.set_cons_succ]
    refine wpAnyH_take (i := 11) (oi := ⟨_, _, _, _, _, _⟩) (v := ?_) rfl (by kernel_rfl) (by kernel_rfl) (by kernel_rfl) (fun _ _ _ h => h) (Or.inl ⟨by rfl, ?_⟩) (by assumption) ?_
    rotate_left
    · intro wz hSw
      try dsimp only at hSw
      go_simp
      try with_reducible rfl
    simp only [Act.put, List.setIfInBounds_toArray, List.set_cons_zero, List.set_cons_succ]
    refine wpAnyH_ready (rs := [4]) (by kernel_rfl) (by simp) ?_
    refine AllReadyH.cons (o := ⟨_, _, _, _, _, _⟩) rfl (fun K hK => ?_) AllReadyH.nil
    go_simp
    refine (cmp_u64 ta tb _).mono ?_
    rintro e w' ⟨rfl, rfl⟩
    refine hK.out _ _ hHeld (fun hHeld => ?_)
    clear hK K
    try simp only [Act.put, List.setIfInBounds_toArray, List.set_cons_zero, List.set_cons_succ]
    refine wpAnyH_ready (rs := [9]) (by kernel_rfl) (by simp) ?_
    refine AllReadyH.cons (o := ⟨_, _, _, _, _, _⟩) rfl (fun K hK => ?_) AllReadyH.nil
    go_simp
    refine (cmp_u64 ua ub _).mono ?_
    rintro e w' ⟨rfl, rfl⟩
    refine hK.out _ _ hHeld (fun hHeld => ?_)
    clear hK K
    try simp only [Act.put, List.setIfInBounds_toArray, List.set_cons_zero, List.set_cons_succ]
    refine wpAnyH_ready (rs := [12]) (by kernel_rfl) (by simp) ?_
    refine AllReadyH.cons (o := ⟨_, _, _, _, _, _⟩) rfl (fun K hK => ?_) AllReadyH.nil
    go_simp
    refine (cmp_int a b _).mono ?_
    rintro e w' ⟨rfl, rfl⟩
    refine hK.out _ _ hHeld (fun hHeld => ?_)
    clear hK K
    try simp only [Act.put, List.setIfInBounds_toArray, List.set_cons_zero, List.set_cons_succ]
    obtain ⟨o1, ho1⟩ : ∃ z, cmpI ta tb = z := ⟨_, rfl⟩
    obtain ⟨o2, ho2⟩ : ∃ z, cmpI ua ub = z := ⟨_, rfl⟩
    obtain ⟨o3, ho3⟩ : ∃ z, cmpI a b = z := ⟨_, rfl⟩
    rw [ho1, ho2, ho3] at HS
    rw [ho1, ho2, ho3]
    clear ho1 ho2 ho3
    refine wpAnyH_ready (rs := [13]) (by kernel_rfl) (by simp) ?_
    refine AllReadyH.cons (o := ⟨_, _, _, _, _, _⟩) rfl (fun K hK => ?_) AllReadyH.nil
    go_simp
    have kr := World.grownBy_alloc v5 (.cells #[.int .i64 o1, .int .i64 o2, .int .i64 o3] 3) none
    have G6 : Hid (GR w (v5.alloc (.cells #[.int .i64 o1, .int .i64 o2, .int .i64 o3] 3))) := Lib.hid (G5.out.alloc _)
    have COR := Lib.hid (or_three o1 o2 o3 v5.heap.size (v5.alloc (.cells #[.int .i64 o1, .int .i64 o2, .int .i64 o3] 3)) (World.cell?_alloc_at _ _ _ 0 rfl) (World.cell?_alloc_at _ _ _ 1 rfl) (World.cell?_alloc_at _ _ _ 2 rfl))
    rw [HS.out] at COR
    replace n0 := kr.cell n0 (by simp)
    replace n1 := kr.cell n1 (by simp)
    replace l0 := kr.cell l0 (by simp)
    replace l1 := kr.cell l1 (by simp)
    refine hK.out _ _ ⟨n0, n1, l0, l1⟩ (fun hHeld => ?_)
    clear hK K
    try simp only [Act.put, List.setIfInBounds_toArray, List.set_cons_zero, List.set_cons_succ]
    clear kr G5
    refine wpAnyH_ready (rs := [14]) (by kernel_rfl) (by simp) ?_
    refine AllReadyH.cons (o := ⟨_, _, _, _, _, _⟩) rfl (fun K hK => ?_) AllReadyH.nil
    go_simp
    refine COR.out.mono ?_
    rintro e w' ⟨rfl, rfl⟩
    refine hK.out _ _ hHeld (fun hHeld => ?_)
    clear hK K
    try simp only [Act.put, List.setIfInBounds_toArray, List.set_cons_zero, List.set_cons_succ]
    refine wpAnyH_ready (rs := [15]) (by kernel_rfl) (by simp) ?_
    refine AllReadyH.cons (o := ⟨_, _, _, _, _, _⟩) rfl (fun K hK => ?_) AllReadyH.nil
    go_simp
    refine hK.out _ _ hHeld (fun hHeld => ?_)
    clear hK K
    try simp only [Act.put, List.setIfInBounds_toArray, List.set_cons_zero, List.set_cons_succ]
    refine wpAnyH_done (by kernel_rfl) ?_ _
    go_wp2
    go_ret
    exact ⟨rfl, G6.out.grow⟩
end
end Go.Proofs.YtkkodhjolgcokaaDoor
/-
  The order of alarms is a total one; what the library's sort makes of a row of their numbers.
-/
namespace Go.Proofs.YtkkodhjolgcokaaDoor
open Go.RowKit Go.Lib Go.Sort
set_option linter.unusedVariables false
/-- An alarm stands ahead of another one. -/
def ltA (A : Nat → Nat × Nat) (a b : Nat) : Prop := (A a).1 < (A b).1 ∨ ((A a).1 = (A b).1 ∧ ((A a).2 < (A b).2 ∨ ((A a).2 = (A b).2 ∧ a < b)))
theorem ord_neg (A : Nat → Nat × Nat) (a b : Nat) : ordA A a b < 0 ↔ ltA A a b := by
  unfold ordA ltA orI cmpI
  by_cases h1 : (A a).1 < (A b).1
  · rw [if_pos (show ((A a).1 : Int) < (A b).1 by omega)]; simp; omega
  · rw [if_neg (show ¬ ((A a).1 : Int) < (A b).1 by omega)]
    by_cases h2 : (A b).1 < (A a).1
    · rw [if_pos (show ((A b).1 : Int) < (A a).1 by omega)]; simp; omega
    · rw [if_neg (show ¬ ((A b).1 : Int) < (A a).1 by omega)]
      by_cases h3 : (A a).2 < (A b).2
      · rw [if_pos (show ((A a).2 : Int) < (A b).2 by omega)]; simp; omega
      · rw [if_neg (show ¬ ((A a).2 : Int) < (A b).2 by omega)]
        by_cases h4 : (A b).2 < (A a).2
        · rw [if_pos (show ((A b).2 : Int) < (A a).2 by omega)]; simp; omega
        · rw [if_neg (show ¬ ((A b).2 : Int) < (A a).2 by omega)]
          by_cases h5 : a < b
          · rw [if_pos (show (a : Int) < b by omega)]; simp; omega
          · rw [if_neg (show ¬ (a : Int) < b by omega)]
            by_cases h6 : b < a
            · rw [if_pos (show (b : Int) < a by omega)]; simp; omega
            · rw [if_neg (show ¬ (b : Int) < a by omega)]; simp; omega
/-- The alarms' numbers as values. -/
def encF (n : Nat) (x : Fin n) : Value := .int .i64 (x.val : Int)
def cfF (A : Nat → Nat × Nat) (n : Nat) (x y : Fin n) : Int := ordA A x.val y.val
theorem lt_F (A : Nat → Nat × Nat) (n : Nat) (x y : Fin n) : Go.Proofs.ltOf (cfF A n) x y = true ↔ ltA A x.val y.val := by
  unfold Go.Proofs.ltOf cfF
  rw [decide_eq_true_iff]
  exact ord_neg A x.val y.val
theorem lt_F' (A : Nat → Nat × Nat) (n : Nat) (x y : Fin n) : Go.Proofs.ltOf (cfF A n) x y = false ↔ ¬ ltA A x.val y.val := by
  rw [← lt_F A n x y]
  simp
theorem swo_F (A : Nat → Nat × Nat) (n : Nat) : SWO (Go.Proofs.ltOf (cfF A n)) where
  irrefl x := by rw [lt_F']; unfold ltA; omega
  trans x y z h1 h2 := by rw [lt_F] at *; unfold ltA at *; omega
  ntrans x y z h1 h2 := by rw [lt_F'] at *; unfold ltA at *; omega
theorem tot_F (A : Nat → Nat × Nat) (n : Nat) (x y : Fin n) (h1 : Go.Proofs.ltOf (cfF A n) x y = false) (h2 : Go.Proofs.ltOf (cfF A n) y x = false) : x = y := by
  rw [lt_F'] at *
  unfold ltA at *
  apply Fin.ext
  omega
/-- A list of numbers below n, as such. -/
def finL (n : Nat) (l : List Nat) (h : ∀ k ∈ l, k < n) : List (Fin n) := l.attach.map fun k => ⟨k.1, h k.1 k.2⟩
theorem finL_val (n : Nat) (l : List Nat) (h : ∀ k ∈ l, k < n) : (finL n l h).map Fin.val = l := by
  unfold finL
  rw [List.map_map]
  exact List.attach_map_subtype_val l
/-- The numbers in their order. -/
def ordered (A : Nat → Nat × Nat) (n : Nat) (l : List Nat) (h : ∀ k ∈ l, k < n) : List Nat := ((finL n l h).mergeSort fun x y => !(Go.Proofs.ltOf (cfF A n)) y x).map Fin.val
theorem ordered_perm (A : Nat → Nat × Nat) (n : Nat) (l : List Nat) (h : ∀ k ∈ l, k < n) : (ordered A n l h).Perm l := by
  unfold ordered
  have := (List.mergeSort_perm (finL n l h) fun x y => !(Go.Proofs.ltOf (cfF A n)) y x).map Fin.val
  rwa [finL_val] at this
theorem ordered_sorted (A : Nat → Nat × Nat) (n : Nat) (l : List Nat) (h : ∀ k ∈ l, k < n) : (ordered A n l h).Pairwise fun a b => ¬ ltA A b a := by
  unfold ordered
  rw [List.pairwise_map]
  have := List.pairwise_mergeSort (le := fun x y : Fin n => !(Go.Proofs.ltOf (cfF A n)) y x) (fun a b c h1 h2 => by
    simp only [Bool.not_eq_true'] at *
    rw [lt_F'] at *
    unfold ltA at *
    omega) (fun a b => by
    by_cases hh : ltA A b.val a.val
    · have : ¬ ltA A a.val b.val := by unfold ltA at *; omega
      rw [(lt_F' A n a b).2 this]; simp
    · rw [(lt_F' A n b a).2 hh]; simp) (finL n l h)
  refine this.imp ?_
  intro a b hab
  simp only [Bool.not_eq_true'] at hab
  exact (lt_F' A n b a).1 hab
end Go.Proofs.YtkkodhjolgcokaaDoor
/-
  The sort of a row of alarms' numbers: what it leaves in memory; the call.
-/
namespace Go.Proofs.YtkkodhjolgcokaaDoor
open Go.RowKit Go.Lib Go.Sort Go.Shelf
set_option linter.unusedVariables false
theorem putCells_F {n : Nat} [Inhabited (Fin n)] (D : List (Fin n)) : putCells (encF n) 0 D.toArray = putCells (Value.int .i64) 0 (D.map fun x => (x.val : Int)).toArray := by
  funext c
  unfold putCells
  congr 1
  funext k x
  have e : (D.map fun x => (x.val : Int)).toArray.size = D.toArray.size := by simp
  rw [e]
  by_cases h : 0 ≤ k ∧ k < 0 + D.toArray.size
  · rw [if_pos h, if_pos h]
    have hk : k < D.length := by simpa using h.2
    simp only [Nat.sub_zero]
    rw [getElem!_pos D.toArray k (by simpa using hk), getElem!_pos (D.map fun x => (x.val : Int)).toArray k (by simpa using hk)]
    simp [encF]
  · rw [if_neg h, if_neg h]
theorem sorted_row {w : World} {B r cp m n : Nat} [Inhabited (Fin n)] {l : List Nat} (A : Nat → Nat × Nat) (h : ∀ k ∈ l, k < n) (hr : RowOf w B r cp l) (os : Array Obj) :
    RowOf (Go.Proofs.sortWorld (encF n) w r 0 m ((finL n l h).mergeSort fun x y => !(Go.Proofs.ltOf (cfF A n)) y x).toArray os) B r cp (ordered A n l h) ∧ w.grownBy (Go.Proofs.sortWorld (encF n) w r 0 m ((finL n l h).mergeSort fun x y => !(Go.Proofs.ltOf (cfF A n)) y x).toArray os) (some r) := by
  obtain ⟨_, hr2⟩ := hr
  rcases hr2 with ⟨h0, _⟩ | ⟨g, cap, cur, hv, hb, hg, hn, hm, hsz, ht⟩
  · cases h0
  injection hv with e1 _ e3
  injection e1 with e1
  injection e1 with e1
  subst e1
  subst e3
  unfold Go.Proofs.sortWorld putRow
  rw [putCells_F]
  have hl : (ordered A n l h).length = l.length := (ordered_perm A n l h).length_eq
  have hL : (((finL n l h).mergeSort fun x y => !(Go.Proofs.ltOf (cfF A n)) y x).map fun x => (x.val : Int)).length = (l.map (fun k : Nat => (k : Int))).length := by
    have : (((finL n l h).mergeSort fun x y => !(Go.Proofs.ltOf (cfF A n)) y x).map Fin.val).length = l.length := hl
    simpa using this
  refine ⟨?_, grownBy_sortedI _⟩
  have := ownsRow_sortedI (w := w) (base := B) (g := r) (cap := cp) (n := m) (e := 3) (os := os) (cur := cur) (ss := l.map (fun k : Nat => (k : Int))) hL hb hg (by simpa using hn) hm hsz
  unfold RowOf
  rw [hl]
  have ei : ints (ordered A n l h) = (((finL n l h).mergeSort fun x y => !(Go.Proofs.ltOf (cfF A n)) y x).map fun x => (x.val : Int)).map (Value.int .i64) := by
    unfold ints ordered
    rw [List.map_map, List.map_map]
    rfl
  rw [ei]
  rw [List.length_map] at this
  exact this
/-- The sort's call, over a row of alarms' numbers. -/
theorem sort_call {w : World} {B r cp n wb ab xb : Nat} {l : List Nat} (A : Nat → Nat × Nat) (h : ∀ k ∈ l, k < n) (hn : n ≤ 4096) (hr : RowOf w B r cp l) (hf : ∀ j, w.frozen? ⟨r, j, none⟩ = false) (hx : xb ≠ r) (hw : wb ≠ r) (ha : ab ≠ r)
    (x0 : w.cell? ⟨xb, 0, none⟩ = some (.pointer (some ⟨wb, 0, none⟩))) (c1 : w.cell? ⟨wb, 1, none⟩ = some (.slice (some ⟨ab, 0, none⟩) n n))
    (hA : ∀ k, k < n → w.cell? ⟨ab, k * 2, none⟩ = some (.int .u64 ((A k).1 : Nat)) ∧ w.cell? ⟨ab, k * 2 + 1, none⟩ = some (.int .u64 ((A k).2 : Nat))) (hll : l.length ≤ 4096) :
    Calls Tryd.prog 48 #[.slice (some ⟨r, 0, none⟩) l.length cp, .func (.func 49) #[] #[.pointer (some ⟨xb, 0, none⟩)]] w fun e w' => e = .returned (.tuple #[]) ∧ RowOf w' B r cp (ordered A n l h) ∧ w.grownBy w' (some r) := by
  by_cases hn0 : n = 0
  · subst hn0
    have hl0 : l = [] := List.eq_nil_iff_forall_not_mem.2 fun k hk => by have := h k hk; omega
    subst hl0
    refine (Go.Proofs.Tryd.slices_SortFunc_none (α := Nat) _ cp _ w).mono fun e w' ⟨h1, h2⟩ => ⟨h1, ?_, ?_⟩
    · subst h2
      rw [show ordered A 0 [] h = [] from List.length_eq_zero_iff.1 (ordered_perm A 0 [] h).length_eq]
      exact hr
    · subst h2
      exact World.grownBy.refl _ _
  · have hin : Inhabited (Fin n) := ⟨⟨0, by omega⟩⟩
    have eg : ∀ args w, (callFunc 49 args).run Tryd.prog w = .ok (.enter 49 args) w := enters_of Tryd.func49 (by kernel_rfl) rfl
    have hsz : (finL n l h).toArray.size = l.length := by simp [finL]
    have key := Go.Proofs.Tryd.slices_SortFunc_total (encF n) (fun _ => rfl) (cfF A n) (swo_F A n) 49 #[.pointer (some ⟨xb, 0, none⟩)] r 0 cp (finL n l h).toArray w eg
      (fun m os dk hs x y => by
        have hxl := World.block_lt_of_cell? _ ⟨xb, 0, none⟩ x0
        have hwl := World.block_lt_of_cell? _ ⟨wb, 1, none⟩ c1
        have old : ∀ (a : Addr) (v : Value), a.block ≠ r → w.cell? a = some v → (Go.Proofs.sortWorld (encF n) w r 0 m dk os).cell? a = some v := fun a v hne hc => by
          unfold Go.Proofs.sortWorld
          rw [cell?_grow _ _ _ (by simpa using World.block_lt_of_cell? _ a hc), cell?_putRow_other _ _ _ _ _ _ (Or.inl hne)]
          exact hc
        exact to1_any (A := A) (old _ _ hx x0) (old _ _ hw c1) (fun k hk => ⟨old _ _ ha (hA k hk).1, old _ _ ha (hA k hk).2⟩) x.val y.val hn x.2 y.2)
      (fun j hj => by
        have hj' : j < l.length := by rwa [hsz] at hj
        refine ⟨?_, hf _⟩
        rw [Nat.zero_add, hr.cell j hj', getElem!_pos _ j hj]
        have e : ((finL n l h).map Fin.val)[j]? = l[j]? := by rw [finL_val]
        have hj2 : j < (finL n l h).length := by simpa using hj
        rw [List.getElem?_map, List.getElem?_eq_getElem hj2, List.getElem?_eq_getElem hj'] at e
        simp only [Option.map_some] at e
        injection e with e
        simp [encF, e])
      hr.lt.2 (by rw [hsz]; omega) (tot_F A n)
    rw [hsz] at key
    refine key.mono fun e w' ⟨h1, m, os, h2⟩ => ⟨h1, ?_⟩
    subst h2
    exact sorted_row A h hr os
end Go.Proofs.YtkkodhjolgcokaaDoor
