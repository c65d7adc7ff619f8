/-
  A queue as an object: Pop, New.
-/
import Derived.Test.YtpnipmjjhiaieaaQueue4
namespace Go.Proofs.Ytpnipmjjhiaieaa
open Go.RowKit Go.Lib
set_option maxRecDepth 100000
set_option linter.unusedVariables false
section
variable {w w' : World} {lo hi qb lb T D d : Nat} {M : Int} {Q : List Nat}
theorem _root_.Go.Proofs.Ytpnipmjjhiaieaa.Only.above {a b : World} (k : Only lo hi a b) {q : Nat} (hq : a.heap.size ≤ q) (o : Nat) (u : Value) : Only lo hi a (b.setCell ⟨q, o, none⟩ u) :=
  ⟨k.os, k.tape, k.output, by have := k.size; simp [World.setCell]; omega, fun i hi hr => (Below.heap_setCell b ⟨q, o, none⟩ u i (by show i ≠ q; omega)).trans (k.block i hi hr)⟩
theorem Qu.above (H : Qu w lo hi qb T D M Q) {q : Nat} (hq : hi ≤ q) (o : Nat) (u : Value) : Qu (w.setCell ⟨q, o, none⟩ u) lo hi qb T D M Q :=
  H.only (Only.set w ⟨q, o, none⟩ u (Nat.le_refl q) (Nat.lt_succ_self q)) (Or.inl hq)
theorem set2 {w : World} {b : Nat} {u0 v0 : Value} (u v : Value) (h0 : w.cell? ⟨b, 0, none⟩ = some u0) (h1 : w.cell? ⟨b, 1, none⟩ = some v0) : ((w.setCell ⟨b, 0, none⟩ u).setCell ⟨b, 1, none⟩ v).cell? ⟨b, 0, none⟩ = some u ∧ ((w.setCell ⟨b, 0, none⟩ u).setCell ⟨b, 1, none⟩ v).cell? ⟨b, 1, none⟩ = some v :=
  ⟨(World.cell?_setCell_other _ ⟨b, 1, none⟩ ⟨b, 0, none⟩ _ (by simp)).trans (World.cell?_setCell_same _ _ _ h0), World.cell?_setCell_same _ _ _ ((World.cell?_setCell_other _ ⟨b, 0, none⟩ ⟨b, 1, none⟩ _ (by simp)).trans h1)⟩
set_option maxHeartbeats 4000000 in
theorem qu_pop_none (H : Qu w lo hi qb T D M []) :
    Calls Try.prog 18 #[.pointer (some ⟨qb, 0, none⟩)] w fun e w' => e = .returned (.tuple #[.agg #[.int .i64 0, .int .i64 0], .bool false]) ∧ w.grownBy w' none := by
  have kA := World.grownBy_alloc w (.cells #[.int .i64 0, .int .i64 0] 46) none
  have HA := H.kept kA
  obtain ⟨lb, HM, h1, h2, h3⟩ := HA
  have CF : Hid (Calls Try.prog 45 #[.pointer (some ⟨lb + 4, 0, none⟩), .int .i64 0] (w.alloc (.cells #[.int .i64 0, .int .i64 0] 46)) _) := Lib.hid (first_none 0 HM.ln (Or.inr (Or.inr rfl)))
  have c0 := HM.c0
  obtain ⟨⟨b0, b1⟩, g0⟩ := box2 w (.int .i64 0) (.int .i64 0) 46 0
  have b0 : (w.alloc (.cells #[.int .i64 0, .int .i64 0] 46)).cell? ⟨w.heap.size, 0, none⟩ = some (.int .i64 0) := b0
  have b1 : (w.alloc (.cells #[.int .i64 0, .int .i64 0] 46)).cell? ⟨w.heap.size, 1, none⟩ = some (.int .i64 0) := b1
  have KA := Lib.hid kA
  clear H HM kA g0
  go_enter Try.func18, Try.ntmps18
  go_wp2_with fail
  refine CF.out.mono ?_
  rintro e w2 ⟨rfl, k2⟩
  have d0 := k2.cell b0 (by simp)
  have d1 := k2.cell b1 (by simp)
  have f0 : w2.frozen? ⟨w.heap.size, 0, none⟩ = false := (k2.frozen_far ⟨w.heap.size, 0, none⟩ (by rw [World.size_alloc]; show w.heap.size < _; omega) (by simp)).trans (by simp [go_sem])
  have f1 : w2.frozen? ⟨w.heap.size, 1, none⟩ = false := (k2.frozen_far ⟨w.heap.size, 1, none⟩ (by rw [World.size_alloc]; show w.heap.size < _; omega) (by simp)).trans (by simp [go_sem])
  have K2 := Lib.hid (KA.out.trans k2)
  clear k2 b0 b1 c0
  go_wp2
  obtain ⟨x0, x1⟩ := set2 (.int .i64 0) (.int .i64 0) d0 d1
  exact bodyPost_ret (v := .tuple #[.agg #[.int .i64 0, .int .i64 0], .bool false]) (by simp [results, Try.results18, go_sem, x0, x1]) rfl ⟨rfl, grown_above (grown_above K2.out (Nat.le_refl _) 0 _) (Nat.le_refl _) 1 _⟩

set_option maxHeartbeats 4000000 in
theorem qu_pop_some (j : Nat) (r : List Nat) (H : Qu w lo hi qb T D M (j :: r)) :
    Calls Try.prog 18 #[.pointer (some ⟨qb, 0, none⟩)] w fun e w' => e = .returned (.tuple #[.agg #[.int .i64 (thK T j), .int .i64 (thI T j)], .bool true]) ∧ Only lo hi w w' ∧ Qu w' lo hi qb T D M r := by
  have kA := World.grownBy_alloc w (.cells #[.int .i64 0, .int .i64 0] 46) none
  have HA := H.kept kA
  have hjb := H.bound j (by simp)
  have HQ0 := Lib.hid H
  obtain ⟨lb, HM, h1, h2, h3⟩ := HA
  have CF : Hid (Calls Try.prog 45 #[.pointer (some ⟨lb + 4, 0, none⟩), .int .i64 0] (w.alloc (.cells #[.int .i64 0, .int .i64 0] 46)) _) := Lib.hid (first_some 0 j r HM.ln (by omega) rfl)
  have CT : Hid (∀ v, w.grownBy v none → Calls Try.prog 46 #[.pointer (some ⟨qb, 0, none⟩), .int .i64 (j : Nat)] v fun e w' => e = .returned (.agg #[.int .i64 (thK T j), .int .i64 (thI T j)]) ∧ v.grownBy w' none) := Lib.hid fun v kv => by
    obtain ⟨lb, H, h1, h2, h3⟩ := HQ0.out.kept kv
    exact qthing_any H j hjb
  have c0 := HM.c0
  have hsz := HM.sz
  have hlsz := HM.ln.sz
  rw [World.size_alloc] at hsz hlsz
  obtain ⟨⟨b0, b1⟩, g0⟩ := box2 w (.int .i64 0) (.int .i64 0) 46 0
  have b0 : (w.alloc (.cells #[.int .i64 0, .int .i64 0] 46)).cell? ⟨w.heap.size, 0, none⟩ = some (.int .i64 0) := b0
  have b1 : (w.alloc (.cells #[.int .i64 0, .int .i64 0] 46)).cell? ⟨w.heap.size, 1, none⟩ = some (.int .i64 0) := b1
  have KA := Lib.hid kA
  have hqi : inQ T D (j :: r) (thK T j) (thI T j) = some j := by unfold inQ; rw [numT_th hjb]; simp
  have HQI := Lib.hid hqi
  clear H HM kA g0 hqi
  go_enter Try.func18, Try.ntmps18
  go_wp2_with fail
  refine CF.out.mono ?_
  rintro e w2 ⟨rfl, k2⟩
  have d0 := k2.cell b0 (by simp)
  have d1 := k2.cell b1 (by simp)
  have f0 : w2.frozen? ⟨w.heap.size, 0, none⟩ = false := (k2.frozen_far ⟨w.heap.size, 0, none⟩ (by rw [World.size_alloc]; show w.heap.size < _; omega) (by simp)).trans (by simp [go_sem])
  have f1 : w2.frozen? ⟨w.heap.size, 1, none⟩ = false := (k2.frozen_far ⟨w.heap.size, 1, none⟩ (by rw [World.size_alloc]; show w.heap.size < _; omega) (by simp)).trans (by simp [go_sem])
  have hs2 : w.heap.size < w2.heap.size := by have := k2.size; rw [World.size_alloc] at this; omega
  have K2 := Lib.hid (KA.out.trans k2)
  clear k2 b0 b1 c0 CF
  go_wp2_with fail
  refine (CT.out w2 K2.out).mono ?_
  rintro e w3 ⟨rfl, k3⟩
  have e0 := k3.cell d0 (by simp)
  have e1 := k3.cell d1 (by simp)
  have g0 : w3.frozen? ⟨w.heap.size, 0, none⟩ = false := (k3.frozen_far ⟨w.heap.size, 0, none⟩ hs2 (by simp)).trans f0
  have g1 : w3.frozen? ⟨w.heap.size, 1, none⟩ = false := (k3.frozen_far ⟨w.heap.size, 1, none⟩ hs2 (by simp)).trans f1
  have hs3 : w.heap.size < w3.heap.size := Nat.lt_of_lt_of_le hs2 k3.size
  have K3 := Lib.hid (K2.out.trans k3)
  obtain ⟨x, hx⟩ : ∃ x, thK T j = x := ⟨_, rfl⟩
  obtain ⟨y, hy⟩ : ∃ y, thI T j = y := ⟨_, rfl⟩
  rw [hx, hy] at HQI
  rw [hx, hy]
  have HX := Lib.hid hx
  have HY2 := Lib.hid hy
  clear k3 d0 d1 f0 f1 CT K2 hs2 hx hy
  go_wp2_with fail
  have ka := World.grownBy_alloc w3 (.cells #[.int .i64 x, .int .i64 y] 46) none
  obtain ⟨⟨x0, x1⟩, _⟩ := box2 w3 (.int .i64 x) (.int .i64 y) 46 0
  have x0 : (w3.alloc (.cells #[.int .i64 x, .int .i64 y] 46)).cell? ⟨w3.heap.size, 0, none⟩ = some (.int .i64 x) := x0
  have x1 : (w3.alloc (.cells #[.int .i64 x, .int .i64 y] 46)).cell? ⟨w3.heap.size, 1, none⟩ = some (.int .i64 y) := x1
  replace e0 := ka.cell e0 (by simp)
  replace e1 := ka.cell e1 (by simp)
  replace g0 : (w3.alloc (.cells #[.int .i64 x, .int .i64 y] 46)).frozen? ⟨w.heap.size, 0, none⟩ = false := (ka.frozen_far ⟨w.heap.size, 0, none⟩ hs3 (by simp)).trans g0
  replace g1 : (w3.alloc (.cells #[.int .i64 x, .int .i64 y] 46)).frozen? ⟨w.heap.size, 1, none⟩ = false := (ka.frozen_far ⟨w.heap.size, 1, none⟩ hs3 (by simp)).trans g1
  have K4 := Lib.hid (K3.out.trans ka)
  clear ka K3
  generalize hY : w3.heap.size = Y at *
  have hsY : Y < (w3.alloc (.cells #[.int .i64 x, .int .i64 y] 46)).heap.size := by rw [World.size_alloc]; omega
  generalize w3.alloc (.cells #[.int .i64 x, .int .i64 y] 46) = w4 at *
  have HQ4 := Lib.hid (HQ0.out.kept K4.out)
  have KD := Lib.hid ((Only.of_none (lo := lo) (hi := hi) K4.out).trans (Only.drew lo hi w4))
  have hDc : Hid (∀ v, Qu v lo hi qb T D M (j :: r) → Calls Try.prog 30 #[.pointer (some ⟨qb, 0, none⟩), .agg #[.int .i64 x, .int .i64 y]] v fun e w' => e = .returned (.bool true) ∧ Only lo hi v w' ∧ Qu w' lo hi qb T D M r) := Lib.hid fun v hv => by
    have := qu_drop_yes hv x y j HQI.out
    rwa [List.erase_cons_head] at this
  have hb0 : w4.drew.cell? ⟨Y, 0, none⟩ = some (.int .i64 x) := x0
  have hb1 : w4.drew.cell? ⟨Y, 1, none⟩ = some (.int .i64 y) := x1
  refine wp_region_held_drew (S := fun w' => w'.cell? ⟨Y, 0, none⟩ = some (.int .i64 x) ∧ w'.cell? ⟨Y, 1, none⟩ = some (.int .i64 y)) (by kernel_rfl) ⟨hb0, hb1⟩ (fun hHeld => ?_)
  refine wpAnyH_take (i := 0) (oi := ⟨_, _, _, _, _, _⟩) (v := ?_) rfl (by kernel_rfl) (by kernel_rfl) (by kernel_rfl) (fun _ _ _ h => h) (Or.inl ⟨by rfl, ?_⟩) (by assumption) ?_
  rotate_left
  · intro wz hSw
    try dsimp only at hSw
    go_simp
    try with_reducible rfl
  simp only [Act.put, List.setIfInBounds_toArray, List.set_cons_zero, List.set_cons_succ]
  refine wpAnyH_take (i := 1) (oi := ⟨_, _, _, _, _, _⟩) (v := ?_) rfl (by kernel_rfl) (by kernel_rfl) (by kernel_rfl) (fun _ _ _ h => h) (Or.inl ⟨by rfl, ?_⟩) (by assumption) ?_
  rotate_left
  · intro wz hSw
    try dsimp only at hSw
    go_simp
    try with_reducible rfl
  simp only [Act.put, List.setIfInBounds_toArray, List.set_cons_zero, List.set_cons_succ]
  refine wpAnyH_take (i := 2) (oi := ⟨_, _, _, _, _, _⟩) (v := ?_) rfl (by kernel_rfl) (by kernel_rfl) (by kernel_rfl) (fun _ _ _ h => h) (Or.inl ⟨by rfl, ?_⟩) (by assumption) ?_
  rotate_left
  · intro wz hSw
    try dsimp only at hSw
    go_simp
    try with_reducible rfl
  simp only [Act.put, List.setIfInBounds_toArray, List.set_cons_zero, List.set_cons_succ]
  have kd : w4.grownBy w4.drew none := gd (World.grownBy.refl _ _)
  have eY : hi ≤ Y := by have := HQ0.out.hs; omega
  have eX : hi ≤ w.heap.size := HQ0.out.hs
  have HQD := Lib.hid (HQ4.out.kept kd)
  have e0d : w4.drew.cell? ⟨w.heap.size, 0, none⟩ = some (.int .i64 0) := e0
  have e1d : w4.drew.cell? ⟨w.heap.size, 1, none⟩ = some (.int .i64 0) := e1
  have g0d : w4.drew.frozen? ⟨w.heap.size, 0, none⟩ = false := g0
  have g1d : w4.drew.frozen? ⟨w.heap.size, 1, none⟩ = false := g1
  have hsd : w.heap.size < w4.drew.heap.size := Nat.lt_trans (hY ▸ hs3) hsY
  have hsYd : Y < w4.drew.heap.size := hsY
  clear e0 e1 g0 g1 x0 x1 hsY HQ4 HQI K4 kd
  generalize w4.drew = w4 at *
  refine wpAnyH_ready (rs := [3]) (by kernel_rfl) (by simp) ?_
  refine AllReadyH.cons (o := ⟨_, _, _, _, _, _⟩) rfl (fun K hK => ?_) AllReadyH.nil
  go_simp
  refine (hDc.out _ HQD.out).mono ?_
  rintro e w5 ⟨rfl, k5, H5⟩
  have y0 := (k5.cell ⟨Y, 0, none⟩ hsYd (Or.inr eY)).trans hb0
  have y1 := (k5.cell ⟨Y, 1, none⟩ hsYd (Or.inr eY)).trans hb1
  have z0 := (k5.cell ⟨w.heap.size, 0, none⟩ hsd (Or.inr eX)).trans e0d
  have z1 := (k5.cell ⟨w.heap.size, 1, none⟩ hsd (Or.inr eX)).trans e1d
  have u0 := (k5.frozen ⟨w.heap.size, 0, none⟩ hsd (Or.inr eX)).trans g0d
  have u1 := (k5.frozen ⟨w.heap.size, 1, none⟩ hsd (Or.inr eX)).trans g1d
  have KK := Lib.hid (KD.out.trans k5)
  have HH := Lib.hid H5
  have hYX : w.heap.size ≠ Y := by omega
  refine hK.out _ _ ⟨y0, y1⟩ (fun hHeld => ?_)
  clear hK K
  try simp only [Act.put, List.setIfInBounds_toArray, List.set_cons_zero, List.set_cons_succ]
  clear k5 H5 hb0 hb1 e0d e1d g0d g1d hDc HQD KD
  refine wpAnyH_ready (rs := [4]) (by kernel_rfl) (by simp) ?_
  refine AllReadyH.cons (o := ⟨_, _, _, _, _, _⟩) rfl (fun K hK => ?_) AllReadyH.nil
  go_simp
  obtain ⟨x0, x1⟩ := set2 (.int .i64 x) (.int .i64 y) z0 z1
  have t0 : ((w5.setCell ⟨w.heap.size, 0, none⟩ (.int .i64 x)).setCell ⟨w.heap.size, 1, none⟩ (.int .i64 y)).cell? ⟨Y, 0, none⟩ = some (.int .i64 x) := (World.cell?_setCell_far _ ⟨w.heap.size, 1, none⟩ ⟨Y, 0, none⟩ _ hYX).trans ((World.cell?_setCell_far _ ⟨w.heap.size, 0, none⟩ ⟨Y, 0, none⟩ _ hYX).trans y0)
  have t1 : ((w5.setCell ⟨w.heap.size, 0, none⟩ (.int .i64 x)).setCell ⟨w.heap.size, 1, none⟩ (.int .i64 y)).cell? ⟨Y, 1, none⟩ = some (.int .i64 y) := (World.cell?_setCell_far _ ⟨w.heap.size, 1, none⟩ ⟨Y, 1, none⟩ _ hYX).trans ((World.cell?_setCell_far _ ⟨w.heap.size, 0, none⟩ ⟨Y, 1, none⟩ _ hYX).trans y1)
  refine hK.out _ _ ⟨t0, t1⟩ (fun hHeld => ?_)
  clear hK K
  try simp only [Act.put, List.setIfInBounds_toArray, List.set_cons_zero, List.set_cons_succ]
  refine wpAnyH_ready (rs := [5]) (by kernel_rfl) (by simp) ?_
  refine AllReadyH.cons (o := ⟨_, _, _, _, _, _⟩) rfl (fun K hK => ?_) AllReadyH.nil
  go_simp
  refine hK.out _ _ ⟨t0, t1⟩ (fun hHeld => ?_)
  clear hK K
  try simp only [Act.put, List.setIfInBounds_toArray, List.set_cons_zero, List.set_cons_succ]
  refine wpAnyH_done (by kernel_rfl) ?_ _
  go_wp2
  exact bodyPost_ret (v := .tuple #[.agg #[.int .i64 x, .int .i64 y], .bool true]) (by simp [results, Try.results18, go_sem, x0, x1]) rfl ⟨by rw [HX.out, HY2.out], (KK.out.above (Nat.le_refl _) 0 _).above (Nat.le_refl _) 1 _, (HH.out.above eX 0 _).above eX 1 _⟩

/-- A bound by what there may be. -/
def clamp3 (z : Int) : Nat := (max 0 (min z 300)).toNat
set_option maxHeartbeats 4000000 in
theorem qu_new (t d m : Int) (T D : Nat) (hT : clamp3 t = T) (hD : clamp3 d = D) (w : World) :
    Calls Try.prog 8 #[.int .i64 t, .int .i64 d, .int .i64 m] w fun e w' => ∃ qb, e = .returned (.pointer (some ⟨qb, 0, none⟩)) ∧ w.grownBy w' none ∧ Qu w' w.heap.size w'.heap.size qb T D m [] := by
  have c1 := clamp_any t 0 300 w
  have c2 := clamp_any d 0 300 w
  have e1 : max 0 (min t 300) = (T : Int) := by subst hT; unfold clamp3; omega
  have e2 : max 0 (min d 300) = (D : Int) := by subst hD; unfold clamp3; omega
  have b1 : T ≤ 300 := by omega
  have b2 : D ≤ 300 := by omega
  have c3 := new_any ((T : Int) + (D : Int)) 1 w
  have e3 : clampN ((T : Int) + (D : Int)) = T + D := by unfold clampN; omega
  have e4 : clampN 1 = 1 := by decide
  rw [e3, e4] at c3
  rw [e1] at c1
  rw [e2] at c2
  have C1 := Lib.hid c1
  have C2 := Lib.hid c2
  have C3 := Lib.hid c3
  clear c1 c2 c3 e1 e2 e3 e4 hT hD
  go_enter Try.func8, Try.ntmps8
  go_wp2_with fail
  refine C1.out.mono ?_
  rintro e w1 ⟨rfl, rfl⟩
  go_wp2_with fail
  refine C2.out.mono ?_
  rintro e w1 ⟨rfl, rfl⟩
  go_wp2_with fail
  refine C3.out.mono ?_
  rintro e w1 ⟨rfl, k1, L⟩
  have KK := Lib.hid k1
  have LL := Lib.hid L
  clear k1 L
  go_wp2
  go_ret
  have ka := World.grownBy_alloc w1 (.cells #[.pointer (some ⟨w.heap.size + 4, 0, none⟩), .int .i64 (T : Nat), .int .i64 m, .int .i64 0] 62) none
  have L2 := LL.out.kept (Only.of_none (lo := 0) (hi := 0) ka) (Or.inr (Nat.zero_le _))
  have hs := LL.out.sz
  have hsz : (w1.alloc (.cells #[.pointer (some ⟨w.heap.size + 4, 0, none⟩), .int .i64 (T : Nat), .int .i64 m, .int .i64 0] 62)).heap.size = w1.heap.size + 1 := World.size_alloc ..
  refine ⟨w1.heap.size, rfl, KK.out.trans ka, w.heap.size, ⟨L2, World.cell?_alloc_at _ _ _ 0 rfl, World.cell?_alloc_at _ _ _ 1 rfl, World.cell?_alloc_at _ _ _ 2 rfl, World.cell?_alloc_at _ _ _ 3 rfl, ?_, Or.inr hs, by omega, b1, b2⟩, by omega, by omega, Nat.le_refl _⟩
  simp [go_sem]
end
end Go.Proofs.Ytpnipmjjhiaieaa
