/-
  The law's 'same' of queue: a queue is the document's, asked for a thing.
-/
import Derived.Test.YtmmpnfkfieikcaaRef12e
import Derived.Test.YtmmpnfkfieikcaaRef12f
namespace Go.Proofs.Ytmmpnfkfieikcaa
open Go.RowKit Go.Lib
set_option maxRecDepth 100000
set_option linter.unusedVariables false
theorem thQ_mem {T D : Nat} {Q : List Nat} {k i : Int} (hb : ∀ q ∈ Q, q < T + D) : (k, i) ∈ thQ T Q ↔ ∃ j, inQ T D Q k i = some j := by
  constructor
  · intro h
    unfold thQ at h
    obtain ⟨q, hq, e⟩ := List.mem_map.1 h
    injection e with e1 e2
    refine ⟨q, ?_⟩
    unfold inQ
    rw [← e1, ← e2, numT_th (hb q hq)]
    simp [hq]
  · rintro ⟨j, hj⟩
    obtain ⟨h1, h2⟩ := inQ_some hj
    obtain ⟨e1, e2, _⟩ := numT_th2 h1
    unfold thQ
    exact List.mem_map.2 ⟨j, h2, by rw [e1, e2]⟩
theorem thQ_yes {T D : Nat} {Q : List Nat} {k i : Int} {j : Nat} (hb : ∀ q ∈ Q, q < T + D) (h : inQ T D Q k i = some j) : (k, i) ∈ thQ T Q := (thQ_mem hb).2 ⟨j, h⟩
theorem thQ_no {T D : Nat} {Q : List Nat} {k i : Int} (hb : ∀ q ∈ Q, q < T + D) (h : inQ T D Q k i = none) : (k, i) ∉ thQ T Q := fun hm => by
  obtain ⟨j, hj⟩ := (thQ_mem (D := D) hb).1 hm
  rw [h] at hj
  cases hj
theorem held_thQ (T : Nat) (Q : List Nat) : heldF (thQ T Q) = devN T Q := by
  unfold heldF thQ devN
  induction Q with
  | nil => rfl
  | cons a l ih =>
    by_cases h : a < T
    · have h2 : ¬ T ≤ a := by omega
      simp [thK, h, h2, List.filter_cons] at ih ⊢
      exact ih
    · have h2 : T ≤ a := by omega
      simp [thK, h, h2, List.filter_cons] at ih ⊢
      exact ih
theorem isT_num (T D : Nat) (k i : Int) : isT T D k i = (numT T D k i).isSome := by
  unfold isT numT
  by_cases h1 : k = 1 ∧ 0 ≤ i ∧ i < T
  · rw [if_pos h1]; simp; omega
  · rw [if_neg h1]
    by_cases h2 : k = 2 ∧ 0 ≤ i ∧ i < D
    · rw [if_pos h2]; simp; omega
    · rw [if_neg h2]; simp; omega
theorem but_thQ {T D : Nat} {Q : List Nat} {k i : Int} {j : Nat} (hn : Q.Nodup) (hb : ∀ q ∈ Q, q < T + D) (h : numT T D k i = some j) : butT (thQ T Q) k i = thQ T (Q.erase j) := by
  obtain ⟨e1, e2, _⟩ := numT_th2 h
  rw [List.Nodup.erase_eq_filter hn]
  unfold butT thQ
  rw [List.filter_map]
  congr 1
  refine List.filter_congr fun q hq => ?_
  have hb := hb q hq
  by_cases e : q = j
  · subst e
    simp [e1, e2]
  · have : ¬ (thK T q = k ∧ thI T q = i) := fun ⟨h1, h2⟩ => by
      have := numT_th hb
      rw [h1, h2, h] at this
      injection this with this
      exact e this.symm
    have hne : (thK T q, thI T q) ≠ (k, i) := fun h => by injection h with h1 h2; exact this ⟨h1, h2⟩
    show decide ((thK T q, thI T q) ≠ (k, i)) = (q != j)
    rw [decide_eq_true hne]
    simp [e]
section
variable {w w' : World} {lo hi qb T D B : Nat} {M : Int} {Q : List Nat} {v : Value}
set_option maxRecDepth 100000 in
set_option maxHeartbeats 16000000 in
theorem qsame (H : Qu w lo hi qb T D M Q) (X Y Z k i : Int) (hv : w.ownsRow B 35 2 v (thQ T Q).length (cellsP (thQ T Q))) :
    Calls Try.prog 14 #[.pointer (some ⟨qb, 0, none⟩), .agg #[.int .i64 X, .int .i64 Y, .int .i64 Z, v], .agg #[.int .i64 k, .int .i64 i]] w fun e w' => e = .returned (.bool true) ∧ w.grownBy w' none := by
  obtain ⟨sa, cap, rfl, _, _⟩ := own_formP hv
  have hl := thQ_len T Q
  have hfew : Q.length ≤ 600 := by have h1 := H.few; have h2 := H.tb; omega
  have s1 : (w.alloc (.cells #[.int .i64 X, .int .i64 Y, .int .i64 Z, .slice sa (thQ T Q).length cap] 30)).heap.size = w.heap.size + 1 := World.size_alloc ..
  have k1 := World.grownBy_alloc (w.alloc (.cells #[.int .i64 X, .int .i64 Y, .int .i64 Z, .slice sa (thQ T Q).length cap] 30)) (.cells #[.int .i64 k, .int .i64 i] 24) none
  have K0 : Hid (w.grownBy ((w.alloc (.cells #[.int .i64 X, .int .i64 Y, .int .i64 Z, .slice sa (thQ T Q).length cap] 30)).alloc (.cells #[.int .i64 k, .int .i64 i] 24)) none) := Lib.hid (ga _ (World.grownBy_alloc w _ none))
  have HC : Hid (∀ x, ((w.alloc (.cells #[.int .i64 X, .int .i64 Y, .int .i64 Z, .slice sa (thQ T Q).length cap] 30)).alloc (.cells #[.int .i64 k, .int .i64 i] 24)).grownBy x none → x.cell? ⟨w.heap.size, 0, none⟩ = some (.int .i64 X) ∧ x.cell? ⟨w.heap.size, 1, none⟩ = some (.int .i64 Y) ∧ x.cell? ⟨w.heap.size, 2, none⟩ = some (.int .i64 Z) ∧ x.cell? ⟨w.heap.size, 3, none⟩ = some (.slice sa Q.length cap) ∧ x.cell? ⟨w.heap.size + 1, 0, none⟩ = some (.int .i64 k) ∧ x.cell? ⟨w.heap.size + 1, 1, none⟩ = some (.int .i64 i)) := Lib.hid fun x kx => by
    have ka := k1.trans kx
    have b0 : ((w.alloc (.cells #[.int .i64 X, .int .i64 Y, .int .i64 Z, .slice sa (thQ T Q).length cap] 30)).alloc (.cells #[.int .i64 k, .int .i64 i] 24)).cell? ⟨w.heap.size + 1, 0, none⟩ = some (.int .i64 k) := by rw [← s1]; exact World.cell?_alloc_at _ _ _ 0 rfl
    have b1 : ((w.alloc (.cells #[.int .i64 X, .int .i64 Y, .int .i64 Z, .slice sa (thQ T Q).length cap] 30)).alloc (.cells #[.int .i64 k, .int .i64 i] 24)).cell? ⟨w.heap.size + 1, 1, none⟩ = some (.int .i64 i) := by rw [← s1]; exact World.cell?_alloc_at _ _ _ 1 rfl
    have a3 : x.cell? ⟨w.heap.size, 3, none⟩ = some (.slice sa (thQ T Q).length cap) := ka.cell (World.cell?_alloc_at _ _ _ 3 rfl) (by simp)
    rw [hl] at a3
    exact ⟨ka.cell (World.cell?_alloc_at _ _ _ 0 rfl) (by simp), ka.cell (World.cell?_alloc_at _ _ _ 1 rfl) (by simp), ka.cell (World.cell?_alloc_at _ _ _ 2 rfl) (by simp), a3, kx.cell b0 (by simp), kx.cell b1 (by simp)⟩
  have HO : Hid (∀ x, w.grownBy x none → x.ownsRow B 35 2 (.slice sa (thQ T Q).length cap) (thQ T Q).length (cellsP (thQ T Q))) := Lib.hid fun x kx => own_keepP hv kx
  have HQ : Hid (∀ x, w.grownBy x none → Qu x lo hi qb T D M Q) := Lib.hid fun x kx => H.kept kx
  clear s1 k1 H hv
  rw [thQ_len]
  have HOF := HO
  rw [hl] at K0 HC
  clear HO hl
  have CA := Lib.hid (qu_all (HQ.out _ K0.out))
  go_enter Try.func14, Try.ntmps14
  go_wp2_with fail
  generalize (w.alloc (.cells #[.int .i64 X, .int .i64 Y, .int .i64 Z, .slice sa Q.length cap] 30)).alloc (.cells #[.int .i64 k, .int .i64 i] 24) = u0 at *
  refine CA.out.mono ?_
  rintro e u1 ⟨⟨va, rfl, ha⟩, k1⟩
  obtain ⟨sl, cl, rfl, _, _⟩ := own_formP ha
  have HA := Lib.hid ha
  have G1 : Hid (u0.grownBy u1 none) := Lib.hid k1
  clear k1 ha CA
  go_wp2_with fail
  have GD : Hid (u0.grownBy u1.drew none) := Lib.hid (gd G1.out)
  have HAD : Hid (∀ x, u1.drew.grownBy x none → x.ownsRow u0.heap.size 24 2 (.slice sl Q.length cl) Q.length (cellsP (thQ T Q))) := Lib.hid fun x kx => own_keepP HA.out ((gd (World.grownBy.refl u1 none)).trans kx)
  have hS := HC.out _ GD.out
  clear HA G1
  generalize hu2 : u1.drew = u2 at *
  refine wp_region_held_drew (S := fun x => x.cell? ⟨w.heap.size, 0, none⟩ = some (.int .i64 X) ∧ x.cell? ⟨w.heap.size, 1, none⟩ = some (.int .i64 Y) ∧ x.cell? ⟨w.heap.size, 2, none⟩ = some (.int .i64 Z) ∧ x.cell? ⟨w.heap.size, 3, none⟩ = some (.slice sa Q.length cap) ∧ x.cell? ⟨w.heap.size + 1, 0, none⟩ = some (.int .i64 k) ∧ x.cell? ⟨w.heap.size + 1, 1, none⟩ = some (.int .i64 i)) (by kernel_rfl) (by rw [hu2]; exact hS) (fun hHeld => ?_)
  rw [hu2]
  rw [hu2] at hHeld
  clear hu2 hS
  refine wpAnyH_take (i := 0) (oi := ⟨_, _, _, _, _, _⟩) (v := ?_) rfl (by kernel_rfl) (by kernel_rfl) (by kernel_rfl) (fun _ _ _ h => h) (Or.inl ⟨by rfl, ?_⟩) (by assumption) ?_
  rotate_left
  · intro wz hSw
    try dsimp only at hSw
    go_simp
    try with_reducible rfl
  simp only [Act.put, List.setIfInBounds_toArray, List.set_cons_zero, List.set_cons_succ]
  refine wpAnyH_take (i := 1) (oi := ⟨_, _, _, _, _, _⟩) (v := ?_) rfl (by kernel_rfl) (by kernel_rfl) (by kernel_rfl) (fun _ _ _ h => h) (Or.inl ⟨by rfl, ?_⟩) (by assumption) ?_
  rotate_left
  · intro wz hSw
    try dsimp only at hSw
    go_simp
    try with_reducible rfl
  simp only [Act.put, List.setIfInBounds_toArray, List.set_cons_zero, List.set_cons_succ]
  refine wpAnyH_take (i := 2) (oi := ⟨_, _, _, _, _, _⟩) (v := ?_) rfl (by kernel_rfl) (by kernel_rfl) (by kernel_rfl) (fun _ _ _ h => h) (Or.inl ⟨by rfl, ?_⟩) (by assumption) ?_
  rotate_left
  · intro wz hSw
    try dsimp only at hSw
    go_simp
    try with_reducible rfl
  simp only [Act.put, List.setIfInBounds_toArray, List.set_cons_zero, List.set_cons_succ]
  refine wpAnyH_take (i := 3) (oi := ⟨_, _, _, _, _, _⟩) (v := ?_) rfl (by kernel_rfl) (by kernel_rfl) (by kernel_rfl) (fun _ _ _ h => h) (Or.inl ⟨by rfl, ?_⟩) (by assumption) ?_
  rotate_left
  · intro wz hSw
    try dsimp only at hSw
    go_simp
    try with_reducible rfl
  simp only [Act.put, List.setIfInBounds_toArray, List.set_cons_zero, List.set_cons_succ]
  refine wpAnyH_take (i := 4) (oi := ⟨_, _, _, _, _, _⟩) (v := ?_) rfl (by kernel_rfl) (by kernel_rfl) (by kernel_rfl) (fun _ _ _ h => h) (Or.inl ⟨by rfl, ?_⟩) (by assumption) ?_
  rotate_left
  · intro wz hSw
    try dsimp only at hSw
    go_simp
    try with_reducible rfl
  simp only [Act.put, List.setIfInBounds_toArray, List.set_cons_zero, List.set_cons_succ]
  refine wpAnyH_take (i := 5) (oi := ⟨_, _, _, _, _, _⟩) (v := ?_) rfl (by kernel_rfl) (by kernel_rfl) (by kernel_rfl) (fun _ _ _ h => h) (Or.inl ⟨by rfl, ?_⟩) (by assumption) ?_
  rotate_left
  · intro wz hSw
    try dsimp only at hSw
    go_simp
    try with_reducible rfl
  simp only [Act.put, List.setIfInBounds_toArray, List.set_cons_zero, List.set_cons_succ]
  refine wpAnyH_take (i := 6) (oi := ⟨_, _, _, _, _, _⟩) (v := ?_) rfl (by kernel_rfl) (by kernel_rfl) (by kernel_rfl) (fun _ _ _ h => h) (Or.inl ⟨by rfl, ?_⟩) (by assumption) ?_
  rotate_left
  · intro wz hSw
    try dsimp only at hSw
    go_simp
    try with_reducible rfl
  simp only [Act.put, List.setIfInBounds_toArray, List.set_cons_zero, List.set_cons_succ]
  refine wpAnyH_take (i := 7) (oi := ⟨_, _, _, _, _, _⟩) (v := ?_) rfl (by kernel_rfl) (by kernel_rfl) (by kernel_rfl) (fun _ _ _ h => h) (Or.inl ⟨by rfl, ?_⟩) (by assumption) ?_
  rotate_left
  · intro wz hSw
    try dsimp only at hSw
    go_simp
    try with_reducible rfl
  simp only [Act.put, List.setIfInBounds_toArray, List.set_cons_zero, List.set_cons_succ]
  refine wpAnyH_take (i := 9) (oi := ⟨_, _, _, _, _, _⟩) (v := ?_) rfl (by kernel_rfl) (by kernel_rfl) (by kernel_rfl) (fun _ _ _ h => h) (Or.inl ⟨by rfl, ?_⟩) (by assumption) ?_
  rotate_left
  · intro wz hSw
    try dsimp only at hSw
    go_simp
    try with_reducible rfl
  simp only [Act.put, List.setIfInBounds_toArray, List.set_cons_zero, List.set_cons_succ]
  refine wpAnyH_take (i := 10) (oi := ⟨_, _, _, _, _, _⟩) (v := ?_) rfl (by kernel_rfl) (by kernel_rfl) (by kernel_rfl) (fun _ _ _ h => h) (Or.inl ⟨by rfl, ?_⟩) (by assumption) ?_
  rotate_left
  · intro wz hSw
    try dsimp only at hSw
    go_simp
    try with_reducible rfl
  simp only [Act.put, List.setIfInBounds_toArray, List.set_cons_zero, List.set_cons_succ]
  refine wpAnyH_take (i := 11) (oi := ⟨_, _, _, _, _, _⟩) (v := ?_) rfl (by kernel_rfl) (by kernel_rfl) (by kernel_rfl) (fun _ _ _ h => h) (Or.inl ⟨by rfl, ?_⟩) (by assumption) ?_
  rotate_left
  · intro wz hSw
    try dsimp only at hSw
    go_simp
    try with_reducible rfl
  simp only [Act.put, List.setIfInBounds_toArray, List.set_cons_zero, List.set_cons_succ]
  refine wpAnyH_ready (rs := [8]) (by kernel_rfl) (by simp) ?_
  refine AllReadyH.cons (o := ⟨_, _, _, _, _, _⟩) rfl (fun K hK => ?_) AllReadyH.nil
  go_simp
  refine (qu_len (HQ.out _ (K0.out.trans (GD.out.trans (World.grownBy.refl u2 none))))).mono ?_
  rintro e w' ⟨rfl, rfl⟩
  refine hK.out _ _ hHeld (fun hHeld => ?_)
  clear hK K
  try simp only [Act.put, List.setIfInBounds_toArray, List.set_cons_zero, List.set_cons_succ]
  refine wpAnyH_take (i := 12) (oi := ⟨_, _, _, _, _, _⟩) (v := ?_) rfl (by kernel_rfl) (by kernel_rfl) (by kernel_rfl) (fun _ _ _ h => h) (Or.inl ⟨by rfl, ?_⟩) (by assumption) ?_
  rotate_left
  · intro wz hSw
    try dsimp only at hSw
    go_simp
    try with_reducible rfl
  simp only [Act.put, List.setIfInBounds_toArray, List.set_cons_zero, List.set_cons_succ]
  refine wpAnyH_take (i := 13) (oi := ⟨_, _, _, _, _, _⟩) (v := ?_) rfl (by kernel_rfl) (by kernel_rfl) (by kernel_rfl) (fun _ _ _ h => h) (Or.inl ⟨by rfl, ?_⟩) (by assumption) ?_
  rotate_left
  · intro wz hSw
    try dsimp only at hSw
    go_simp
    try with_reducible rfl
  simp only [Act.put, List.setIfInBounds_toArray, List.set_cons_zero, List.set_cons_succ]
  refine wpAnyH_take (i := 14) (oi := ⟨_, _, _, _, _, _⟩) (v := ?_) rfl (by kernel_rfl) (by kernel_rfl) (by kernel_rfl) (fun _ _ _ h => h) (Or.inl ⟨by rfl, ?_⟩) (by assumption) ?_
  rotate_left
  · intro wz hSw
    try dsimp only at hSw
    go_simp
    try with_reducible rfl
  simp only [Act.put, List.setIfInBounds_toArray, List.set_cons_zero, List.set_cons_succ]
  refine wpAnyH_take (i := 15) (oi := ⟨_, _, _, _, _, _⟩) (v := ?_) rfl (by kernel_rfl) (by kernel_rfl) (by kernel_rfl) (fun _ _ _ h => h) (Or.inl ⟨by rfl, ?_⟩) (by assumption) ?_
  rotate_left
  · intro wz hSw
    try dsimp only at hSw
    go_simp
    try with_reducible rfl
  simp only [Act.put, List.setIfInBounds_toArray, List.set_cons_zero, List.set_cons_succ]
  refine wpAnyH_take (i := 17) (oi := ⟨_, _, _, _, _, _⟩) (v := ?_) rfl (by kernel_rfl) (by kernel_rfl) (by kernel_rfl) (fun _ _ _ h => h) (Or.inl ⟨by rfl, ?_⟩) (by assumption) ?_
  rotate_left
  · intro wz hSw
    try dsimp only at hSw
    go_simp
    try with_reducible rfl
  simp only [Act.put, List.setIfInBounds_toArray, List.set_cons_zero, List.set_cons_succ]
  refine wpAnyH_ready (rs := [16]) (by kernel_rfl) (by simp) ?_
  refine AllReadyH.cons (o := ⟨_, _, _, _, _, _⟩) rfl (fun K hK => ?_) AllReadyH.nil
  go_simp
  refine (qu_devs (HQ.out _ (K0.out.trans (GD.out.trans (World.grownBy.refl u2 none))))).mono ?_
  rintro e w' ⟨rfl, rfl⟩
  refine hK.out _ _ hHeld (fun hHeld => ?_)
  clear hK K
  try simp only [Act.put, List.setIfInBounds_toArray, List.set_cons_zero, List.set_cons_succ]
  have CE := Lib.hid (ref_held X Y Z (HOF.out u2 (K0.out.trans GD.out)) (by rw [thQ_len]; omega))
  rw [thQ_len, held_thQ] at CE
  refine wpAnyH_ready (rs := [18]) (by kernel_rfl) (by simp) ?_
  refine AllReadyH.cons (o := ⟨_, _, _, _, _, _⟩) rfl (fun K hK => ?_) AllReadyH.nil
  go_simp
  refine (CE.out).mono ?_
  rintro e y1 ⟨rfl, kk⟩
  have G1 := Lib.hid ((World.grownBy.refl u2 none).trans kk)
  have hS := HC.out _ (GD.out.trans G1.out)
  clear kk
  refine hK.out _ _ hS (fun hHeld => ?_)
  clear hK K
  try simp only [Act.put, List.setIfInBounds_toArray, List.set_cons_zero, List.set_cons_succ]
  clear hS
  refine wpAnyH_take (i := 19) (oi := ⟨_, _, _, _, _, _⟩) (v := ?_) rfl (by kernel_rfl) (by kernel_rfl) (by kernel_rfl) (fun _ _ _ h => h) (Or.inl ⟨by rfl, ?_⟩) (by assumption) ?_
  rotate_left
  · intro wz hSw
    try dsimp only at hSw
    go_simp
    try with_reducible rfl
  simp only [Act.put, List.setIfInBounds_toArray, List.set_cons_zero, List.set_cons_succ]
  refine wpAnyH_take (i := 20) (oi := ⟨_, _, _, _, _, _⟩) (v := ?_) rfl (by kernel_rfl) (by kernel_rfl) (by kernel_rfl) (fun _ _ _ h => h) (Or.inl ⟨by rfl, ?_⟩) (by assumption) ?_
  rotate_left
  · intro wz hSw
    try dsimp only at hSw
    go_simp
    try with_reducible rfl
  simp only [Act.put, List.setIfInBounds_toArray, List.set_cons_zero, List.set_cons_succ]
  refine wpAnyH_take (i := 21) (oi := ⟨_, _, _, _, _, _⟩) (v := ?_) rfl (by kernel_rfl) (by kernel_rfl) (by kernel_rfl) (fun _ _ _ h => h) (Or.inl ⟨by rfl, ?_⟩) (by assumption) ?_
  rotate_left
  · intro wz hSw
    try dsimp only at hSw
    go_simp
    try with_reducible rfl
  simp only [Act.put, List.setIfInBounds_toArray, List.set_cons_zero, List.set_cons_succ]
  refine wpAnyH_take (i := 22) (oi := ⟨_, _, _, _, _, _⟩) (v := ?_) rfl (by kernel_rfl) (by kernel_rfl) (by kernel_rfl) (fun _ _ _ h => h) (Or.inl ⟨by rfl, ?_⟩) (by assumption) ?_
  rotate_left
  · intro wz hSw
    try dsimp only at hSw
    go_simp
    try with_reducible rfl
  simp only [Act.put, List.setIfInBounds_toArray, List.set_cons_zero, List.set_cons_succ]
  refine wpAnyH_take (i := 23) (oi := ⟨_, _, _, _, _, _⟩) (v := ?_) rfl (by kernel_rfl) (by kernel_rfl) (by kernel_rfl) (fun _ _ _ h => h) (Or.inl ⟨by rfl, ?_⟩) (by assumption) ?_
  rotate_left
  · intro wz hSw
    try dsimp only at hSw
    go_simp
    try with_reducible rfl
  simp only [Act.put, List.setIfInBounds_toArray, List.set_cons_zero, List.set_cons_succ]
  refine wpAnyH_take (i := 25) (oi := ⟨_, _, _, _, _, _⟩) (v := ?_) rfl (by kernel_rfl) (by kernel_rfl) (by kernel_rfl) (fun _ _ _ h => h) (Or.inl ⟨by rfl, ?_⟩) (by assumption) ?_
  rotate_left
  · intro wz hSw
    try dsimp only at hSw
    go_simp
    try with_reducible rfl
  simp only [Act.put, List.setIfInBounds_toArray, List.set_cons_zero, List.set_cons_succ]
  refine wpAnyH_take (i := 26) (oi := ⟨_, _, _, _, _, _⟩) (v := ?_) rfl (by kernel_rfl) (by kernel_rfl) (by kernel_rfl) (fun _ _ _ h => h) (Or.inl ⟨by rfl, ?_⟩) (by assumption) ?_
  rotate_left
  · intro wz hSw
    try dsimp only at hSw
    go_simp
    try with_reducible rfl
  simp only [Act.put, List.setIfInBounds_toArray, List.set_cons_zero, List.set_cons_succ]
  obtain ⟨b, hb1, hb2⟩ : ∃ b : Bool, (∀ x, w.grownBy x none → Calls Try.prog 17 #[.pointer (some ⟨qb, 0, none⟩), .agg #[.int .i64 k, .int .i64 i]] x fun e w' => e = .returned (.bool b) ∧ x.grownBy w' none) ∧ (∀ x, w.grownBy x none → Calls Try.prog 22 #[.agg #[.int .i64 X, .int .i64 Y, .int .i64 Z, .slice sa Q.length cap], .agg #[.int .i64 k, .int .i64 i]] x fun e w' => e = .returned (.bool b) ∧ x.grownBy w' none) := by
    have hbd := (HQ.out w (World.grownBy.refl _ _)).bound
    cases hin : inQ T D Q k i with
    | none =>
      refine ⟨false, fun x kx => qu_has_no (HQ.out x kx) k i hin, fun x kx => ?_⟩
      have := ref_has X Y Z k i (HOF.out x kx) (by rw [thQ_len]; omega)
      rwa [thQ_len, decide_eq_false (thQ_no hbd hin)] at this
    | some j =>
      refine ⟨true, fun x kx => qu_has_yes (HQ.out x kx) k i j hin, fun x kx => ?_⟩
      have := ref_has X Y Z k i (HOF.out x kx) (by rw [thQ_len]; omega)
      rwa [thQ_len, decide_eq_true (thQ_yes hbd hin)] at this
  have HB1 := Lib.hid hb1
  have HB2 := Lib.hid hb2
  clear hb1 hb2
  refine wpAnyH_ready (rs := [24]) (by kernel_rfl) (by simp) ?_
  refine AllReadyH.cons (o := ⟨_, _, _, _, _, _⟩) rfl (fun K hK => ?_) AllReadyH.nil
  go_simp
  refine (HB1.out _ (K0.out.trans (GD.out.trans G1.out))).mono ?_
  rintro e y2 ⟨rfl, kk⟩
  have G2 := Lib.hid (G1.out.trans kk)
  have hS := HC.out _ (GD.out.trans G2.out)
  clear kk
  refine hK.out _ _ hS (fun hHeld => ?_)
  clear hK K
  try simp only [Act.put, List.setIfInBounds_toArray, List.set_cons_zero, List.set_cons_succ]
  clear hS
  refine wpAnyH_ready (rs := [27]) (by kernel_rfl) (by simp) ?_
  refine AllReadyH.cons (o := ⟨_, _, _, _, _, _⟩) rfl (fun K hK => ?_) AllReadyH.nil
  go_simp
  refine (HB2.out _ (K0.out.trans (GD.out.trans G2.out))).mono ?_
  rintro e y3 ⟨rfl, kk⟩
  have G3 := Lib.hid (G2.out.trans kk)
  have hS := HC.out _ (GD.out.trans G3.out)
  clear kk
  refine hK.out _ _ hS (fun hHeld => ?_)
  clear hK K
  try simp only [Act.put, List.setIfInBounds_toArray, List.set_cons_zero, List.set_cons_succ]
  clear hS
  refine wpAnyH_take (i := 28) (oi := ⟨_, _, _, _, _, _⟩) (v := ?_) rfl (by kernel_rfl) (by kernel_rfl) (by kernel_rfl) (fun _ _ _ h => h) (Or.inl ⟨by rfl, ?_⟩) (by assumption) ?_
  rotate_left
  · intro wz hSw
    try dsimp only at hSw
    go_simp
    try with_reducible rfl
  simp only [Act.put, List.setIfInBounds_toArray, List.set_cons_zero, List.set_cons_succ]
  refine wpAnyH_take (i := 29) (oi := ⟨_, _, _, _, _, _⟩) (v := ?_) rfl (by kernel_rfl) (by kernel_rfl) (by kernel_rfl) (fun _ _ _ h => h) (Or.inl ⟨by rfl, ?_⟩) (by assumption) ?_
  rotate_left
  · intro wz hSw
    try dsimp only at hSw
    go_simp
    try with_reducible rfl
  simp only [Act.put, List.setIfInBounds_toArray, List.set_cons_zero, List.set_cons_succ]
  refine wpAnyH_done (by kernel_rfl) ?_ _
  have HG0 : Hid (u2.grownBy y3 none) := Lib.hid G3.out
  clear HB1 HB2 CE hHeld
  go_wp2_with fail
  go_loopw [44] (fun it wr => ∃ m : Nat, m ≤ Q.length ∧ it = .int .i64 m ∧ Hid (u2.grownBy wr none)) (fun it _ => Q.length - (intOf it).toNat)
  case atStart => exact ⟨0, Nat.zero_le _, rfl, HG0⟩
  case round =>
    clear HG0
    obtain ⟨m, hm, rfl, HG⟩ := hrel
    by_cases hlt : m < Q.length
    · have qm : (m : Int) < (Q.length : Int) := by omega
      have hltF : m < (thQ T Q).length := by rw [thQ_len]; exact hlt
      have ka : Hid (∀ xk xi : Int, wr.grownBy (wr.alloc (.cells #[.int .i64 xk, .int .i64 xi] 24)) none) := Lib.hid fun xk xi => World.grownBy_alloc wr _ none
      obtain ⟨g1, hg1, y0, y1, _, _⟩ := own_pair (F := thQ T Q) (by rw [thQ_len]; exact HAD.out wr HG.out) hltF
      obtain ⟨g2, hg2, z0, z1, _, _⟩ := own_pair (HOF.out wr (K0.out.trans (GD.out.trans HG.out))) hltF
      subst hg1
      subst hg2
      obtain ⟨⟨xk, xi⟩, hx⟩ : ∃ x, (thQ T Q)[m] = x := ⟨_, rfl⟩
      rw [hx] at y0 y1 z0 z1
      dsimp only at y0 y1 z0 z1
      obtain ⟨_, _, _, c3, _, _⟩ := HC.out wr (GD.out.trans HG.out)
      replace z0 := (ka.out xk xi).cell z0 (by simp)
      replace z1 := (ka.out xk xi).cell z1 (by simp)
      replace c3 := (ka.out xk xi).cell c3 (by simp)
      have HG2 := Lib.hid (HG.out.trans (ka.out xk xi))
      have eqf : ∀ v : World, (binOp .neq 35 (.agg #[.int .i64 xk, .int .i64 xi]) (.agg #[.int .i64 xk, .int .i64 xi])).run Try.prog v = .ok (.bool false) v := fun v => by rw [neq_thingR]; simp
      clear ka hx
      go_wp2_with fail
      go_quiet (fail)
      go_wp2
      go_roundw
      case rel => exact ⟨m + 1, hlt, by go_num, Lib.hid (gdN _ HG2.out)⟩
      case measure => simp [intOf]; omega
    · obtain rfl : m = Q.length := by omega
      have qm : ¬ (Q.length : Int) < (Q.length : Int) := by omega
      go_wp2
      go_ret
      exact ⟨rfl, K0.out.trans (GD.out.trans HG.out)⟩
end
end Go.Proofs.Ytmmpnfkfieikcaa
