/-
  A queue as an object: Push, Drop, Has, Len, Devs.
-/
import Derived.Test.YtpnipmjjhiaieaaQueue1
import Derived.Deep.RegionHeld3
namespace Go.Proofs.Ytpnipmjjhiaieaa
open Go.RowKit Go.Lib
set_option maxRecDepth 100000
set_option linter.unusedVariables false

theorem devN_push (T : Nat) (Q : List Nat) (j : Nat) : devN T (Q ++ [j]) = devN T Q + if T ≤ j then 1 else 0 := by
  unfold devN; rw [List.filter_append, List.length_append]; by_cases h : T ≤ j <;> simp [h]
theorem devN_erase (T : Nat) (Q : List Nat) (j : Nat) (h : j ∈ Q) : devN T Q = devN T (Q.erase j) + if T ≤ j then 1 else 0 := by
  induction Q with
  | nil => cases h
  | cons x r ih =>
    by_cases e : x = j
    · subst e
      simp only [List.erase_cons_head]
      unfold devN
      by_cases ht : T ≤ x <;> simp [ht]
    · have hj : j ∈ r := by
        rcases List.mem_cons.1 h with h | h
        · exact absurd h.symm e
        · exact h
      have := ih hj
      rw [List.erase_cons_tail (by simpa using e)]
      unfold devN at *
      by_cases ht : T ≤ x <;> simp [List.filter_cons, ht] <;> omega
theorem devN_le (T : Nat) (Q : List Nat) : devN T Q ≤ Q.length := List.length_filter_le _ _

/-- A queue whose blocks lie from lo on, below hi. -/
def Qu (w : World) (lo hi qb T D : Nat) (M : Int) (Q : List Nat) : Prop :=
  ∃ lb, QMem w qb lb T D M (devN T Q) Q ∧ (lo ≤ lb ∧ lb + 5 ≤ hi) ∧ (lo ≤ qb ∧ qb < hi) ∧ hi ≤ w.heap.size

section
variable {w w' : World} {lo hi qb lb T D d : Nat} {M : Int} {Q : List Nat}

theorem Qu.only {l h : Nat} (H : Qu w lo hi qb T D M Q) (k : Only l h w w') (hd : hi ≤ l ∨ h ≤ lo) : Qu w' lo hi qb T D M Q := by
  obtain ⟨lb, H, h1, h2, h3⟩ := H
  exact ⟨lb, H.only k (by omega) (by omega), h1, h2, Nat.le_trans h3 k.size⟩
theorem Qu.hs (H : Qu w lo hi qb T D M Q) : hi ≤ w.heap.size := by obtain ⟨lb, H, h1, h2, h3⟩ := H; exact h3
theorem Qu.kept (H : Qu w lo hi qb T D M Q) (k : w.grownBy w' none) : Qu w' lo hi qb T D M Q := H.only (Only.of_none (lo := 0) (hi := 0) k) (Or.inr (Nat.zero_le _))
theorem Qu.nodup (H : Qu w lo hi qb T D M Q) : Q.Nodup := by obtain ⟨lb, H, _⟩ := H; exact H.ln.nodup 0 (by omega)
theorem Qu.bound (H : Qu w lo hi qb T D M Q) : ∀ k ∈ Q, k < T + D := by obtain ⟨lb, H, _⟩ := H; exact H.ln.bound 0 (by omega)
theorem Qu.few (H : Qu w lo hi qb T D M Q) : Q.length ≤ T + D := by obtain ⟨lb, H, _⟩ := H; exact H.ln.few 0 (by omega)
theorem Qu.tb (H : Qu w lo hi qb T D M Q) : T ≤ 300 ∧ D ≤ 300 := by obtain ⟨lb, H, _⟩ := H; exact H.tb

theorem numT_kind {T D : Nat} {k i : Int} {j : Nat} (h : numT T D k i = some j) : (k = 1 ∧ j < T) ∨ (k = 2 ∧ T ≤ j ∧ j < T + D) := by
  unfold numT at h
  split at h
  · injection h; omega
  · split at h
    · injection h; omega
    · cases h

/-- The queue's count turned, behind what was done on the chain. -/
theorem QMem.set (H : QMem w qb lb T D M d Q) {Q' : List Nat} (k : Only lb (lb + 5) w w') (L : LinksAt w' lb (T + D) 1 (fun _ => Q')) : QMem w' qb lb T D M d Q' :=
  have hd := H.ap
  ⟨L, by rw [k.cell _ H.sz hd]; exact H.c0, by rw [k.cell _ H.sz hd]; exact H.c1, by rw [k.cell _ H.sz hd]; exact H.c2, by rw [k.cell _ H.sz hd]; exact H.c3, by rw [k.frozen _ H.sz hd]; exact H.f3, H.ap, Nat.lt_of_lt_of_le H.sz k.size, H.tb⟩
theorem QMem.setD (H : QMem w qb lb T D M d Q) (z : Nat) : QMem (w.setCell ⟨qb, 3, none⟩ (.int .i64 (z : Nat))) qb lb T D M z Q :=
  have k : Only qb (qb + 1) w (w.setCell ⟨qb, 3, none⟩ (.int .i64 (z : Nat))) := Only.set w ⟨qb, 3, none⟩ _ (Nat.le_refl _) (Nat.lt_succ_self _)
  have hs := H.c3
  ⟨H.ln.kept k (by have := H.ap; omega), (World.cell?_setCell_other _ _ _ _ (by intro e; cases e)).trans H.c0, (World.cell?_setCell_other _ _ _ _ (by intro e; cases e)).trans H.c1, (World.cell?_setCell_other _ _ _ _ (by intro e; cases e)).trans H.c2, World.cell?_setCell_same _ _ _ H.c3, (World.frozen?_setCell ..).trans H.f3, H.ap, Nat.lt_of_lt_of_le H.sz k.size, H.tb⟩
set_option maxHeartbeats 4000000 in
theorem qpush_1 (H : QMem w qb lb T D M d Q) (i : Int) (j : Nat) (hn : numT T D 1 i = some j) (hj : j < T) (hq : j ∉ Q) (hd : d ≤ 600) (h1 : lo ≤ lb ∧ lb + 5 ≤ hi) (h2 : lo ≤ qb ∧ qb < hi) :
    Calls Try.prog 61 #[.pointer (some ⟨qb, 0, none⟩), .agg #[.int .i64 1, .int .i64 i]] w fun e w' => e = .returned (.bool true) ∧ Only lo hi w w' ∧ QMem w' qb lb T D M d (Q ++ [j]) := by
  have C1 := Lib.hid (qnum_some (H.kept (World.grownBy_alloc w (.cells #[.int .i64 1, .int .i64 i] 46) none)) 1 i j hn)
  have HH := Lib.hid H
  have hszq := H.sz
  have hap := H.ap
  have hsl := H.ln.sz
  have hnd := H.ln.nodup 0 (by omega)
  clear H
  go_enter Try.func61, Try.ntmps61
  go_wp2_with fail
  refine C1.out.mono ?_
  rintro e w1 ⟨rfl, g1⟩
  obtain ⟨⟨b0, b1⟩, g0⟩ := box2 w (.int .i64 1) (.int .i64 i) 46 0
  replace b0 := g1.cell b0 (by simp)
  have g2 : w.grownBy w1 none := (World.grownBy_alloc w _ none).trans g1
  have K2 := Lib.hid (Only.of_none (lo := lo) (hi := hi) g2)
  have G2 := Lib.hid g2
  have H1 := HH.out.kept g2
  have c0 := H1.c0
  have c2 := H1.c2
  have c3 := H1.c3
  have hbz : w.heap.size < w1.heap.size := by have := g1.size; rw [World.size_alloc] at this; exact this
  replace b0 : w1.cell? ⟨w.heap.size, 0, none⟩ = some (.int .i64 1) := b0
  have HH1 := Lib.hid H1
  have C2 : Hid (Calls Try.prog 68 #[.pointer (some ⟨lb + 4, 0, none⟩), .int .i64 0, .int .i64 (j : Nat)] w1.drew _) := Lib.hid (push_ok 0 j (H1.kept (gd (World.grownBy.refl _ _))).ln (by omega) (by omega) (fun _ _ => hq))
  have HHD := Lib.hid (H1.kept (gd (World.grownBy.refl _ _)))
  have KD : Hid (Only lo hi w w1.drew) := Lib.hid (K2.out.trans (Only.drew lo hi w1))
  
  clear H1 g2 g0 b1 HH C1 G2 K2 
  generalize hX : w.heap.size = X at *
  go_wp2_with fail
  refine wp_region_held_drew (S := fun w' => w'.cell? ⟨X, 0, none⟩ = some (.int .i64 1) ∧ w'.cell? ⟨qb, 0, none⟩ = some (.pointer (some ⟨lb + 4, 0, none⟩)) ∧ w'.cell? ⟨qb, 2, none⟩ = some (.int .i64 M) ∧ w'.cell? ⟨qb, 3, none⟩ = some (.int .i64 (d : Nat))) (by kernel_rfl) ⟨b0, c0, c2, c3⟩ (fun hHeld => ?_)
  refine wpAnyH_take (i := 0) (oi := ⟨_, _, _, _, _, _⟩) (v := ?_) rfl (by kernel_rfl) (by kernel_rfl) (by kernel_rfl) (fun _ _ _ h => h) (Or.inl ⟨by rfl, ?_⟩) (by assumption) ?_
  rotate_left
  · intro wz hSw
    try dsimp only at hSw
    go_simp
    try with_reducible rfl
  simp only [Act.put, List.setIfInBounds_toArray, List.set_cons_zero, List.set_cons_succ]
  refine wpAnyH_take (i := 1) (oi := ⟨_, _, _, _, _, _⟩) (v := ?_) rfl (by kernel_rfl) (by kernel_rfl) (by kernel_rfl) (fun _ _ _ h => h) (Or.inl ⟨by rfl, ?_⟩) (by assumption) ?_
  rotate_left
  · intro wz hSw
    try dsimp only at hSw
    go_simp
    try with_reducible rfl
  simp only [Act.put, List.setIfInBounds_toArray, List.set_cons_zero, List.set_cons_succ]
  refine wpAnyH_take (i := 2) (oi := ⟨_, _, _, _, _, _⟩) (v := ?_) rfl (by kernel_rfl) (by kernel_rfl) (by kernel_rfl) (fun _ _ _ h => h) (Or.inl ⟨by rfl, ?_⟩) (by assumption) ?_
  rotate_left
  · intro wz hSw
    try dsimp only at hSw
    go_simp
    try with_reducible rfl
  simp only [Act.put, List.setIfInBounds_toArray, List.set_cons_zero, List.set_cons_succ]
  refine wpAnyH_take (i := 3) (oi := ⟨_, _, _, _, _, _⟩) (v := ?_) rfl (by kernel_rfl) (by kernel_rfl) (by kernel_rfl) (fun _ _ _ h => h) (Or.inl ⟨by rfl, ?_⟩) (by assumption) ?_
  rotate_left
  · intro wz hSw
    try dsimp only at hSw
    go_simp
    try with_reducible rfl
  simp only [Act.put, List.setIfInBounds_toArray, List.set_cons_zero, List.set_cons_succ]
  refine wpAnyH_take (i := 4) (oi := ⟨_, _, _, _, _, _⟩) (v := ?_) rfl (by kernel_rfl) (by kernel_rfl) (by kernel_rfl) (fun _ _ _ h => h) (Or.inl ⟨by rfl, ?_⟩) (by assumption) ?_
  rotate_left
  · intro wz hSw
    try dsimp only at hSw
    go_simp
    try with_reducible rfl
  simp only [Act.put, List.setIfInBounds_toArray, List.set_cons_zero, List.set_cons_succ]
  refine wpAnyH_take (i := 5) (oi := ⟨_, _, _, _, _, _⟩) (v := ?_) rfl (by kernel_rfl) (by kernel_rfl) (by kernel_rfl) (fun _ _ _ h => h) (Or.inl ⟨by rfl, ?_⟩) (by assumption) ?_
  rotate_left
  · intro wz hSw
    try dsimp only at hSw
    go_simp
    try with_reducible rfl
  simp only [Act.put, List.setIfInBounds_toArray, List.set_cons_zero, List.set_cons_succ]
  refine wpAnyH_take (i := 6) (oi := ⟨_, _, _, _, _, _⟩) (v := ?_) rfl (by kernel_rfl) (by kernel_rfl) (by kernel_rfl) (fun _ _ _ h => h) (Or.inl ⟨by rfl, ?_⟩) (by assumption) ?_
  rotate_left
  · intro wz hSw
    try dsimp only at hSw
    go_simp
    try with_reducible rfl
  simp only [Act.put, List.setIfInBounds_toArray, List.set_cons_zero, List.set_cons_succ]
  refine wpAnyH_take (i := 7) (oi := ⟨_, _, _, _, _, _⟩) (v := undef) rfl (by kernel_rfl) (by kernel_rfl) (by kernel_rfl) (fun _ _ _ h => h) (Or.inr ⟨by rfl, rfl⟩) (by assumption) ?_
  simp only [Act.put, List.setIfInBounds_toArray, List.set_cons_zero, List.set_cons_succ]
  refine wpAnyH_take (i := 8) (oi := ⟨_, _, _, _, _, _⟩) (v := undef) rfl (by kernel_rfl) (by kernel_rfl) (by kernel_rfl) (fun _ _ _ h => h) (Or.inr ⟨by rfl, rfl⟩) (by assumption) ?_
  simp only [Act.put, List.setIfInBounds_toArray, List.set_cons_zero, List.set_cons_succ]
  refine wpAnyH_take (i := 9) (oi := ⟨_, _, _, _, _, _⟩) (v := undef) rfl (by kernel_rfl) (by kernel_rfl) (by kernel_rfl) (fun _ _ _ h => h) (Or.inr ⟨by rfl, rfl⟩) (by assumption) ?_
  simp only [Act.put, List.setIfInBounds_toArray, List.set_cons_zero, List.set_cons_succ]
  refine wpAnyH_take (i := 10) (oi := ⟨_, _, _, _, _, _⟩) (v := undef) rfl (by kernel_rfl) (by kernel_rfl) (by kernel_rfl) (fun _ _ _ h => h) (Or.inr ⟨by rfl, rfl⟩) (by assumption) ?_
  simp only [Act.put, List.setIfInBounds_toArray, List.set_cons_zero, List.set_cons_succ]
  refine wpAnyH_take (i := 11) (oi := ⟨_, _, _, _, _, _⟩) (v := undef) rfl (by kernel_rfl) (by kernel_rfl) (by kernel_rfl) (fun _ _ _ h => h) (Or.inr ⟨by rfl, rfl⟩) (by assumption) ?_
  simp only [Act.put, List.setIfInBounds_toArray, List.set_cons_zero, List.set_cons_succ]
  refine wpAnyH_take (i := 12) (oi := ⟨_, _, _, _, _, _⟩) (v := undef) rfl (by kernel_rfl) (by kernel_rfl) (by kernel_rfl) (fun _ _ _ h => h) (Or.inr ⟨by rfl, rfl⟩) (by assumption) ?_
  simp only [Act.put, List.setIfInBounds_toArray, List.set_cons_zero, List.set_cons_succ]
  refine wpAnyH_take (i := 13) (oi := ⟨_, _, _, _, _, _⟩) (v := undef) rfl (by kernel_rfl) (by kernel_rfl) (by kernel_rfl) (fun _ _ _ h => h) (Or.inr ⟨by rfl, rfl⟩) (by assumption) ?_
  simp only [Act.put, List.setIfInBounds_toArray, List.set_cons_zero, List.set_cons_succ]
  refine wpAnyH_take (i := 14) (oi := ⟨_, _, _, _, _, _⟩) (v := undef) rfl (by kernel_rfl) (by kernel_rfl) (by kernel_rfl) (fun _ _ _ h => h) (Or.inr ⟨by rfl, rfl⟩) (by assumption) ?_
  simp only [Act.put, List.setIfInBounds_toArray, List.set_cons_zero, List.set_cons_succ]
  refine wpAnyH_take (i := 15) (oi := ⟨_, _, _, _, _, _⟩) (v := undef) rfl (by kernel_rfl) (by kernel_rfl) (by kernel_rfl) (fun _ _ _ h => h) (Or.inr ⟨by rfl, rfl⟩) (by assumption) ?_
  simp only [Act.put, List.setIfInBounds_toArray, List.set_cons_zero, List.set_cons_succ]
  refine wpAnyH_take (i := 16) (oi := ⟨_, _, _, _, _, _⟩) (v := ?_) rfl (by kernel_rfl) (by kernel_rfl) (by kernel_rfl) (fun _ _ _ h => h) (Or.inl ⟨by rfl, ?_⟩) (by assumption) ?_
  rotate_left
  · intro wz hSw
    try dsimp only at hSw
    go_simp
    try with_reducible rfl
  simp only [Act.put, List.setIfInBounds_toArray, List.set_cons_zero, List.set_cons_succ]
  refine wpAnyH_take (i := 17) (oi := ⟨_, _, _, _, _, _⟩) (v := ?_) rfl (by kernel_rfl) (by kernel_rfl) (by kernel_rfl) (fun _ _ _ h => h) (Or.inl ⟨by rfl, ?_⟩) (by assumption) ?_
  rotate_left
  · intro wz hSw
    try dsimp only at hSw
    go_simp
    try with_reducible rfl
  simp only [Act.put, List.setIfInBounds_toArray, List.set_cons_zero, List.set_cons_succ]
  refine wpAnyH_take (i := 18) (oi := ⟨_, _, _, _, _, _⟩) (v := ?_) rfl (by kernel_rfl) (by kernel_rfl) (by kernel_rfl) (fun _ _ _ h => h) (Or.inl ⟨by rfl, ?_⟩) (by assumption) ?_
  rotate_left
  · intro wz hSw
    try dsimp only at hSw
    go_simp
    try with_reducible rfl
  simp only [Act.put, List.setIfInBounds_toArray, List.set_cons_zero, List.set_cons_succ]
  refine wpAnyH_take (i := 19) (oi := ⟨_, _, _, _, _, _⟩) (v := ?_) rfl (by kernel_rfl) (by kernel_rfl) (by kernel_rfl) (fun _ _ _ h => h) (Or.inl ⟨by rfl, ?_⟩) (by assumption) ?_
  rotate_left
  · intro wz hSw
    try dsimp only at hSw
    go_simp
    try with_reducible rfl
  simp only [Act.put, List.setIfInBounds_toArray, List.set_cons_zero, List.set_cons_succ]
  refine wpAnyH_take (i := 20) (oi := ⟨_, _, _, _, _, _⟩) (v := ?_) rfl (by kernel_rfl) (by kernel_rfl) (by kernel_rfl) (fun _ _ _ h => h) (Or.inl ⟨by rfl, ?_⟩) (by assumption) ?_
  rotate_left
  · intro wz hSw
    try dsimp only at hSw
    go_simp
    try with_reducible rfl
  simp only [Act.put, List.setIfInBounds_toArray, List.set_cons_zero, List.set_cons_succ]
  refine wpAnyH_take (i := 21) (oi := ⟨_, _, _, _, _, _⟩) (v := ?_) rfl (by kernel_rfl) (by kernel_rfl) (by kernel_rfl) (fun _ _ _ h => h) (Or.inl ⟨by rfl, ?_⟩) (by assumption) ?_
  rotate_left
  · intro wz hSw
    try dsimp only at hSw
    go_simp
    try with_reducible rfl
  simp only [Act.put, List.setIfInBounds_toArray, List.set_cons_zero, List.set_cons_succ]
  refine wpAnyH_take (i := 22) (oi := ⟨_, _, _, _, _, _⟩) (v := ?_) rfl (by kernel_rfl) (by kernel_rfl) (by kernel_rfl) (fun _ _ _ h => h) (Or.inl ⟨by rfl, ?_⟩) (by assumption) ?_
  rotate_left
  · intro wz hSw
    try dsimp only at hSw
    go_simp
    try with_reducible rfl
  simp only [Act.put, List.setIfInBounds_toArray, List.set_cons_zero, List.set_cons_succ]
  refine wpAnyH_take (i := 23) (oi := ⟨_, _, _, _, _, _⟩) (v := ?_) rfl (by kernel_rfl) (by kernel_rfl) (by kernel_rfl) (fun _ _ _ h => h) (Or.inl ⟨by rfl, ?_⟩) (by assumption) ?_
  rotate_left
  · intro wz hSw
    try dsimp only at hSw
    go_simp
    try with_reducible rfl
  simp only [Act.put, List.setIfInBounds_toArray, List.set_cons_zero, List.set_cons_succ]
  refine wpAnyH_ready (rs := [24]) (by kernel_rfl) (by simp) ?_
  refine AllReadyH.cons (o := ⟨_, _, _, _, _, _⟩) rfl (fun K hK => ?_) AllReadyH.nil
  go_simp
  refine C2.out.mono ?_
  rintro e w2 ⟨rfl, k2, L2⟩
  have H2 := HHD.out.set k2 (L2.congr (L' := fun _ => Q ++ [j]) fun z hz => by obtain rfl : z = 0 := (by omega); simp [upL])
  have b0' : w2.cell? ⟨X, 0, none⟩ = some (.int .i64 1) := (by rw [k2.cell _ (show X < w1.drew.heap.size from hbz) (Or.inr (by show _ ≤ X; omega))]; exact b0)
  have KK2 := Lib.hid (KD.out.trans (k2.wider h1.1 h1.2))
  have HH2 := Lib.hid H2
  have c0' := H2.c0
  have c2' := H2.c2
  have c3' := H2.c3
  have f3' := H2.f3
  clear H2 k2 L2
  refine hK.out _ _ ⟨b0', c0', c2', c3'⟩ (fun hHeld => ?_)
  clear hK K
  try simp only [Act.put, List.setIfInBounds_toArray, List.set_cons_zero, List.set_cons_succ]
  refine wpAnyH_take (i := 25) (oi := ⟨_, _, _, _, _, _⟩) (v := ?_) rfl (by kernel_rfl) (by kernel_rfl) (by kernel_rfl) (fun _ _ _ h => h) (Or.inl ⟨by rfl, ?_⟩) (by assumption) ?_
  rotate_left
  · intro wz hSw
    try dsimp only at hSw
    go_simp
    try with_reducible rfl
  simp only [Act.put, List.setIfInBounds_toArray, List.set_cons_zero, List.set_cons_succ]
  refine wpAnyH_take (i := 26) (oi := ⟨_, _, _, _, _, _⟩) (v := ?_) rfl (by kernel_rfl) (by kernel_rfl) (by kernel_rfl) (fun _ _ _ h => h) (Or.inl ⟨by rfl, ?_⟩) (by assumption) ?_
  rotate_left
  · intro wz hSw
    try dsimp only at hSw
    go_simp
    try with_reducible rfl
  simp only [Act.put, List.setIfInBounds_toArray, List.set_cons_zero, List.set_cons_succ]
  refine wpAnyH_done (by kernel_rfl) ?_ _
  clear hHeld c0 c2 c3 b0 HHD HH1 C2 KD
  go_wp2
  go_ret
  exact ⟨rfl, KK2.out, HH2.out⟩
set_option maxHeartbeats 4000000 in
theorem qpush_2 (H : QMem w qb lb T D M d Q) (i : Int) (j : Nat) (hn : numT T D 2 i = some j) (hT : T ≤ j) (hj : j < T + D) (hm : (d : Int) < M) (hq : j ∉ Q) (hd : d ≤ 600) (h1 : lo ≤ lb ∧ lb + 5 ≤ hi) (h2 : lo ≤ qb ∧ qb < hi) :
    Calls Try.prog 61 #[.pointer (some ⟨qb, 0, none⟩), .agg #[.int .i64 2, .int .i64 i]] w fun e w' => e = .returned (.bool true) ∧ Only lo hi w w' ∧ QMem w' qb lb T D M (d + 1) (Q ++ [j]) := by
  have C1 := Lib.hid (qnum_some (H.kept (World.grownBy_alloc w (.cells #[.int .i64 2, .int .i64 i] 46) none)) 2 i j hn)
  have HH := Lib.hid H
  have hszq := H.sz
  have hap := H.ap
  have hsl := H.ln.sz
  have hnd := H.ln.nodup 0 (by omega)
  clear H
  go_enter Try.func61, Try.ntmps61
  go_wp2_with fail
  refine C1.out.mono ?_
  rintro e w1 ⟨rfl, g1⟩
  obtain ⟨⟨b0, b1⟩, g0⟩ := box2 w (.int .i64 2) (.int .i64 i) 46 0
  replace b0 := g1.cell b0 (by simp)
  have g2 : w.grownBy w1 none := (World.grownBy_alloc w _ none).trans g1
  have K2 := Lib.hid (Only.of_none (lo := lo) (hi := hi) g2)
  have G2 := Lib.hid g2
  have H1 := HH.out.kept g2
  have c0 := H1.c0
  have c2 := H1.c2
  have c3 := H1.c3
  have hbz : w.heap.size < w1.heap.size := by have := g1.size; rw [World.size_alloc] at this; exact this
  replace b0 : w1.cell? ⟨w.heap.size, 0, none⟩ = some (.int .i64 2) := b0
  have HH1 := Lib.hid H1
  have C2 : Hid (Calls Try.prog 68 #[.pointer (some ⟨lb + 4, 0, none⟩), .int .i64 0, .int .i64 (j : Nat)] w1.drew _) := Lib.hid (push_ok 0 j (H1.kept (gd (World.grownBy.refl _ _))).ln (by omega) (by omega) (fun _ _ => hq))
  have HHD := Lib.hid (H1.kept (gd (World.grownBy.refl _ _)))
  have KD : Hid (Only lo hi w w1.drew) := Lib.hid (K2.out.trans (Only.drew lo hi w1))
  have hm2 : decide (M ≤ (d : Int)) = false := by rw [decide_eq_false_iff_not]; omega
  clear H1 g2 g0 b1 HH C1 G2 K2 hm
  generalize hX : w.heap.size = X at *
  go_wp2_with fail
  refine wp_region_held_drew (S := fun w' => w'.cell? ⟨X, 0, none⟩ = some (.int .i64 2) ∧ w'.cell? ⟨qb, 0, none⟩ = some (.pointer (some ⟨lb + 4, 0, none⟩)) ∧ w'.cell? ⟨qb, 2, none⟩ = some (.int .i64 M) ∧ w'.cell? ⟨qb, 3, none⟩ = some (.int .i64 (d : Nat))) (by kernel_rfl) ⟨b0, c0, c2, c3⟩ (fun hHeld => ?_)
  refine wpAnyH_take (i := 0) (oi := ⟨_, _, _, _, _, _⟩) (v := ?_) rfl (by kernel_rfl) (by kernel_rfl) (by kernel_rfl) (fun _ _ _ h => h) (Or.inl ⟨by rfl, ?_⟩) (by assumption) ?_
  rotate_left
  · intro wz hSw
    try dsimp only at hSw
    go_simp
    try with_reducible rfl
  simp only [Act.put, List.setIfInBounds_toArray, List.set_cons_zero, List.set_cons_succ]
  refine wpAnyH_take (i := 1) (oi := ⟨_, _, _, _, _, _⟩) (v := ?_) rfl (by kernel_rfl) (by kernel_rfl) (by kernel_rfl) (fun _ _ _ h => h) (Or.inl ⟨by rfl, ?_⟩) (by assumption) ?_
  rotate_left
  · intro wz hSw
    try dsimp only at hSw
    go_simp
    try with_reducible rfl
  simp only [Act.put, List.setIfInBounds_toArray, List.set_cons_zero, List.set_cons_succ]
  refine wpAnyH_take (i := 2) (oi := ⟨_, _, _, _, _, _⟩) (v := ?_) rfl (by kernel_rfl) (by kernel_rfl) (by kernel_rfl) (fun _ _ _ h => h) (Or.inl ⟨by rfl, ?_⟩) (by assumption) ?_
  rotate_left
  · intro wz hSw
    try dsimp only at hSw
    go_simp
    try with_reducible rfl
  simp only [Act.put, List.setIfInBounds_toArray, List.set_cons_zero, List.set_cons_succ]
  refine wpAnyH_take (i := 3) (oi := ⟨_, _, _, _, _, _⟩) (v := ?_) rfl (by kernel_rfl) (by kernel_rfl) (by kernel_rfl) (fun _ _ _ h => h) (Or.inl ⟨by rfl, ?_⟩) (by assumption) ?_
  rotate_left
  · intro wz hSw
    try dsimp only at hSw
    go_simp
    try with_reducible rfl
  simp only [Act.put, List.setIfInBounds_toArray, List.set_cons_zero, List.set_cons_succ]
  refine wpAnyH_take (i := 4) (oi := ⟨_, _, _, _, _, _⟩) (v := ?_) rfl (by kernel_rfl) (by kernel_rfl) (by kernel_rfl) (fun _ _ _ h => h) (Or.inl ⟨by rfl, ?_⟩) (by assumption) ?_
  rotate_left
  · intro wz hSw
    try dsimp only at hSw
    go_simp
    try with_reducible rfl
  simp only [Act.put, List.setIfInBounds_toArray, List.set_cons_zero, List.set_cons_succ]
  refine wpAnyH_take (i := 5) (oi := ⟨_, _, _, _, _, _⟩) (v := ?_) rfl (by kernel_rfl) (by kernel_rfl) (by kernel_rfl) (fun _ _ _ h => h) (Or.inl ⟨by rfl, ?_⟩) (by assumption) ?_
  rotate_left
  · intro wz hSw
    try dsimp only at hSw
    go_simp
    try with_reducible rfl
  simp only [Act.put, List.setIfInBounds_toArray, List.set_cons_zero, List.set_cons_succ]
  refine wpAnyH_take (i := 6) (oi := ⟨_, _, _, _, _, _⟩) (v := ?_) rfl (by kernel_rfl) (by kernel_rfl) (by kernel_rfl) (fun _ _ _ h => h) (Or.inl ⟨by rfl, ?_⟩) (by assumption) ?_
  rotate_left
  · intro wz hSw
    try dsimp only at hSw
    go_simp
    try with_reducible rfl
  simp only [Act.put, List.setIfInBounds_toArray, List.set_cons_zero, List.set_cons_succ]
  refine wpAnyH_take (i := 7) (oi := ⟨_, _, _, _, _, _⟩) (v := ?_) rfl (by kernel_rfl) (by kernel_rfl) (by kernel_rfl) (fun _ _ _ h => h) (Or.inl ⟨by rfl, ?_⟩) (by assumption) ?_
  rotate_left
  · intro wz hSw
    try dsimp only at hSw
    go_simp
    try with_reducible rfl
  simp only [Act.put, List.setIfInBounds_toArray, List.set_cons_zero, List.set_cons_succ]
  refine wpAnyH_take (i := 8) (oi := ⟨_, _, _, _, _, _⟩) (v := ?_) rfl (by kernel_rfl) (by kernel_rfl) (by kernel_rfl) (fun _ _ _ h => h) (Or.inl ⟨by rfl, ?_⟩) (by assumption) ?_
  rotate_left
  · intro wz hSw
    try dsimp only at hSw
    go_simp
    try with_reducible rfl
  simp only [Act.put, List.setIfInBounds_toArray, List.set_cons_zero, List.set_cons_succ]
  refine wpAnyH_take (i := 9) (oi := ⟨_, _, _, _, _, _⟩) (v := ?_) rfl (by kernel_rfl) (by kernel_rfl) (by kernel_rfl) (fun _ _ _ h => h) (Or.inl ⟨by rfl, ?_⟩) (by assumption) ?_
  rotate_left
  · intro wz hSw
    try dsimp only at hSw
    go_simp
    try with_reducible rfl
  simp only [Act.put, List.setIfInBounds_toArray, List.set_cons_zero, List.set_cons_succ]
  refine wpAnyH_take (i := 10) (oi := ⟨_, _, _, _, _, _⟩) (v := ?_) rfl (by kernel_rfl) (by kernel_rfl) (by kernel_rfl) (fun _ _ _ h => h) (Or.inl ⟨by rfl, ?_⟩) (by assumption) ?_
  rotate_left
  · intro wz hSw
    try dsimp only at hSw
    go_simp
    try with_reducible rfl
  simp only [Act.put, List.setIfInBounds_toArray, List.set_cons_zero, List.set_cons_succ]
  refine wpAnyH_take (i := 11) (oi := ⟨_, _, _, _, _, _⟩) (v := ?_) rfl (by kernel_rfl) (by kernel_rfl) (by kernel_rfl) (fun _ _ _ h => h) (Or.inl ⟨by rfl, ?_⟩) (by assumption) ?_
  rotate_left
  · intro wz hSw
    try dsimp only at hSw
    go_simp
    try with_reducible rfl
  simp only [Act.put, List.setIfInBounds_toArray, List.set_cons_zero, List.set_cons_succ]
  refine wpAnyH_take (i := 12) (oi := ⟨_, _, _, _, _, _⟩) (v := ?_) rfl (by kernel_rfl) (by kernel_rfl) (by kernel_rfl) (fun _ _ _ h => h) (Or.inl ⟨by rfl, ?_⟩) (by assumption) ?_
  rotate_left
  · intro wz hSw
    try dsimp only at hSw
    go_simp
    try with_reducible rfl
  simp only [Act.put, List.setIfInBounds_toArray, List.set_cons_zero, List.set_cons_succ]
  refine wpAnyH_take (i := 13) (oi := ⟨_, _, _, _, _, _⟩) (v := ?_) rfl (by kernel_rfl) (by kernel_rfl) (by kernel_rfl) (fun _ _ _ h => h) (Or.inl ⟨by rfl, ?_⟩) (by assumption) ?_
  rotate_left
  · intro wz hSw
    try dsimp only at hSw
    go_simp
    try with_reducible rfl
  simp only [Act.put, List.setIfInBounds_toArray, List.set_cons_zero, List.set_cons_succ]
  refine wpAnyH_take (i := 14) (oi := ⟨_, _, _, _, _, _⟩) (v := ?_) rfl (by kernel_rfl) (by kernel_rfl) (by kernel_rfl) (fun _ _ _ h => h) (Or.inl ⟨by rfl, ?_⟩) (by assumption) ?_
  rotate_left
  · intro wz hSw
    try dsimp only at hSw
    go_simp
    try with_reducible rfl
  simp only [Act.put, List.setIfInBounds_toArray, List.set_cons_zero, List.set_cons_succ]
  refine wpAnyH_take (i := 15) (oi := ⟨_, _, _, _, _, _⟩) (v := ?_) rfl (by kernel_rfl) (by kernel_rfl) (by kernel_rfl) (fun _ _ _ h => h) (Or.inl ⟨by rfl, ?_⟩) (by assumption) ?_
  rotate_left
  · intro wz hSw
    try dsimp only at hSw
    go_simp
    try with_reducible rfl
  simp only [Act.put, List.setIfInBounds_toArray, List.set_cons_zero, List.set_cons_succ]
  refine wpAnyH_take (i := 16) (oi := ⟨_, _, _, _, _, _⟩) (v := ?_) rfl (by kernel_rfl) (by kernel_rfl) (by kernel_rfl) (fun _ _ _ h => h) (Or.inl ⟨by rfl, ?_⟩) (by assumption) ?_
  rotate_left
  · intro wz hSw
    try dsimp only at hSw
    go_simp
    try with_reducible rfl
  simp only [Act.put, List.setIfInBounds_toArray, List.set_cons_zero, List.set_cons_succ]
  refine wpAnyH_take (i := 17) (oi := ⟨_, _, _, _, _, _⟩) (v := ?_) rfl (by kernel_rfl) (by kernel_rfl) (by kernel_rfl) (fun _ _ _ h => h) (Or.inl ⟨by rfl, ?_⟩) (by assumption) ?_
  rotate_left
  · intro wz hSw
    try dsimp only at hSw
    go_simp
    try with_reducible rfl
  simp only [Act.put, List.setIfInBounds_toArray, List.set_cons_zero, List.set_cons_succ]
  refine wpAnyH_take (i := 18) (oi := ⟨_, _, _, _, _, _⟩) (v := ?_) rfl (by kernel_rfl) (by kernel_rfl) (by kernel_rfl) (fun _ _ _ h => h) (Or.inl ⟨by rfl, ?_⟩) (by assumption) ?_
  rotate_left
  · intro wz hSw
    try dsimp only at hSw
    go_simp
    try with_reducible rfl
  simp only [Act.put, List.setIfInBounds_toArray, List.set_cons_zero, List.set_cons_succ]
  refine wpAnyH_take (i := 19) (oi := ⟨_, _, _, _, _, _⟩) (v := ?_) rfl (by kernel_rfl) (by kernel_rfl) (by kernel_rfl) (fun _ _ _ h => h) (Or.inl ⟨by rfl, ?_⟩) (by assumption) ?_
  rotate_left
  · intro wz hSw
    try dsimp only at hSw
    go_simp
    try with_reducible rfl
  simp only [Act.put, List.setIfInBounds_toArray, List.set_cons_zero, List.set_cons_succ]
  refine wpAnyH_take (i := 20) (oi := ⟨_, _, _, _, _, _⟩) (v := ?_) rfl (by kernel_rfl) (by kernel_rfl) (by kernel_rfl) (fun _ _ _ h => h) (Or.inl ⟨by rfl, ?_⟩) (by assumption) ?_
  rotate_left
  · intro wz hSw
    try dsimp only at hSw
    go_simp
    try with_reducible rfl
  simp only [Act.put, List.setIfInBounds_toArray, List.set_cons_zero, List.set_cons_succ]
  refine wpAnyH_take (i := 21) (oi := ⟨_, _, _, _, _, _⟩) (v := ?_) rfl (by kernel_rfl) (by kernel_rfl) (by kernel_rfl) (fun _ _ _ h => h) (Or.inl ⟨by rfl, ?_⟩) (by assumption) ?_
  rotate_left
  · intro wz hSw
    try dsimp only at hSw
    go_simp
    try with_reducible rfl
  simp only [Act.put, List.setIfInBounds_toArray, List.set_cons_zero, List.set_cons_succ]
  refine wpAnyH_take (i := 22) (oi := ⟨_, _, _, _, _, _⟩) (v := ?_) rfl (by kernel_rfl) (by kernel_rfl) (by kernel_rfl) (fun _ _ _ h => h) (Or.inl ⟨by rfl, ?_⟩) (by assumption) ?_
  rotate_left
  · intro wz hSw
    try dsimp only at hSw
    go_simp
    try with_reducible rfl
  simp only [Act.put, List.setIfInBounds_toArray, List.set_cons_zero, List.set_cons_succ]
  refine wpAnyH_take (i := 23) (oi := ⟨_, _, _, _, _, _⟩) (v := ?_) rfl (by kernel_rfl) (by kernel_rfl) (by kernel_rfl) (fun _ _ _ h => h) (Or.inl ⟨by rfl, ?_⟩) (by assumption) ?_
  rotate_left
  · intro wz hSw
    try dsimp only at hSw
    go_simp
    try with_reducible rfl
  simp only [Act.put, List.setIfInBounds_toArray, List.set_cons_zero, List.set_cons_succ]
  refine wpAnyH_ready (rs := [24]) (by kernel_rfl) (by simp) ?_
  refine AllReadyH.cons (o := ⟨_, _, _, _, _, _⟩) rfl (fun K hK => ?_) AllReadyH.nil
  go_simp
  refine C2.out.mono ?_
  rintro e w2 ⟨rfl, k2, L2⟩
  have H2 := HHD.out.set k2 (L2.congr (L' := fun _ => Q ++ [j]) fun z hz => by obtain rfl : z = 0 := (by omega); simp [upL])
  have b0' : w2.cell? ⟨X, 0, none⟩ = some (.int .i64 2) := (by rw [k2.cell _ (show X < w1.drew.heap.size from hbz) (Or.inr (by show _ ≤ X; omega))]; exact b0)
  have KK2 := Lib.hid (KD.out.trans (k2.wider h1.1 h1.2))
  have HH2 := Lib.hid H2
  have c0' := H2.c0
  have c2' := H2.c2
  have c3' := H2.c3
  have f3' := H2.f3
  clear H2 k2 L2
  refine hK.out _ _ ⟨b0', c0', c2', c3'⟩ (fun hHeld => ?_)
  clear hK K
  try simp only [Act.put, List.setIfInBounds_toArray, List.set_cons_zero, List.set_cons_succ]
  refine wpAnyH_take (i := 25) (oi := ⟨_, _, _, _, _, _⟩) (v := ?_) rfl (by kernel_rfl) (by kernel_rfl) (by kernel_rfl) (fun _ _ _ h => h) (Or.inl ⟨by rfl, ?_⟩) (by assumption) ?_
  rotate_left
  · intro wz hSw
    try dsimp only at hSw
    go_simp
    try with_reducible rfl
  simp only [Act.put, List.setIfInBounds_toArray, List.set_cons_zero, List.set_cons_succ]
  refine wpAnyH_take (i := 26) (oi := ⟨_, _, _, _, _, _⟩) (v := ?_) rfl (by kernel_rfl) (by kernel_rfl) (by kernel_rfl) (fun _ _ _ h => h) (Or.inl ⟨by rfl, ?_⟩) (by assumption) ?_
  rotate_left
  · intro wz hSw
    try dsimp only at hSw
    go_simp
    try with_reducible rfl
  simp only [Act.put, List.setIfInBounds_toArray, List.set_cons_zero, List.set_cons_succ]
  refine wpAnyH_done (by kernel_rfl) ?_ _
  clear hHeld c0 c2 c3 b0 HHD HH1 C2 KD
  go_wp2
  go_ret
  refine ⟨rfl, KK2.out.trans (Only.set _ ⟨qb, 3, none⟩ _ h2.1 h2.2), ?_⟩
  have := HH2.out.setD (d + 1)
  simpa using this
set_option maxHeartbeats 4000000 in
theorem qpush_n1 (H : QMem w qb lb T D M d Q) (k i : Int) (hn : numT T D k i = none) :
    Calls Try.prog 61 #[.pointer (some ⟨qb, 0, none⟩), .agg #[.int .i64 k, .int .i64 i]] w fun e w' => e = .returned (.bool false) ∧ w.grownBy w' none := by
  obtain ⟨lo, hi⟩ : Nat × Nat := (0, 0)
  have C1 := Lib.hid (qnum_none (H.kept (World.grownBy_alloc w (.cells #[.int .i64 k, .int .i64 i] 46) none)) k i hn)
  have HH := Lib.hid H
  have hszq := H.sz
  have hap := H.ap
  have hsl := H.ln.sz
  have hnd := H.ln.nodup 0 (by omega)
  clear H
  go_enter Try.func61, Try.ntmps61
  go_wp2_with fail
  refine C1.out.mono ?_
  rintro e w1 ⟨rfl, g1⟩
  obtain ⟨⟨b0, b1⟩, g0⟩ := box2 w (.int .i64 k) (.int .i64 i) 46 0
  replace b0 := g1.cell b0 (by simp)
  have g2 : w.grownBy w1 none := (World.grownBy_alloc w _ none).trans g1
  have K2 := Lib.hid (Only.of_none (lo := lo) (hi := hi) g2)
  have G2 := Lib.hid g2
  have H1 := HH.out.kept g2
  have c0 := H1.c0
  have c2 := H1.c2
  have c3 := H1.c3
  have hbz : w.heap.size < w1.heap.size := by have := g1.size; rw [World.size_alloc] at this; exact this
  replace b0 : w1.cell? ⟨w.heap.size, 0, none⟩ = some (.int .i64 k) := b0
  have HH1 := Lib.hid H1
  have hbq : w.heap.size ≠ qb := by omega
  clear H1 g2 g0 b1 HH C1 K2 HH1
  go_wp2_with fail
  go_quiet (fail)
  go_wp2
  go_ret
  exact ⟨rfl, gdN _ G2.out⟩
set_option maxHeartbeats 4000000 in
theorem qpush_n2 (H : QMem w qb lb T D M d Q) (i : Int) (j : Nat) (hn : numT T D 2 i = some j) (hm : M ≤ (d : Int)) :
    Calls Try.prog 61 #[.pointer (some ⟨qb, 0, none⟩), .agg #[.int .i64 2, .int .i64 i]] w fun e w' => e = .returned (.bool false) ∧ w.grownBy w' none := by
  obtain ⟨lo, hi⟩ : Nat × Nat := (0, 0)
  have C1 := Lib.hid (qnum_some (H.kept (World.grownBy_alloc w (.cells #[.int .i64 2, .int .i64 i] 46) none)) 2 i j hn)
  have HH := Lib.hid H
  have hszq := H.sz
  have hap := H.ap
  have hsl := H.ln.sz
  have hnd := H.ln.nodup 0 (by omega)
  clear H
  go_enter Try.func61, Try.ntmps61
  go_wp2_with fail
  refine C1.out.mono ?_
  rintro e w1 ⟨rfl, g1⟩
  obtain ⟨⟨b0, b1⟩, g0⟩ := box2 w (.int .i64 2) (.int .i64 i) 46 0
  replace b0 := g1.cell b0 (by simp)
  have g2 : w.grownBy w1 none := (World.grownBy_alloc w _ none).trans g1
  have K2 := Lib.hid (Only.of_none (lo := lo) (hi := hi) g2)
  have G2 := Lib.hid g2
  have H1 := HH.out.kept g2
  have c0 := H1.c0
  have c2 := H1.c2
  have c3 := H1.c3
  have hbz : w.heap.size < w1.heap.size := by have := g1.size; rw [World.size_alloc] at this; exact this
  replace b0 : w1.cell? ⟨w.heap.size, 0, none⟩ = some (.int .i64 2) := b0
  have HH1 := Lib.hid H1
  have hm2 : decide (M ≤ (d : Int)) = true := by rw [decide_eq_true_iff]; omega
  clear H1 g2 g0 b1 HH C1 K2 HH1 hm
  go_wp2_with fail
  go_quiet (fail)
  go_wp2
  go_ret
  exact ⟨rfl, gdN _ G2.out⟩
set_option maxHeartbeats 4000000 in
theorem qpush_m1 (H : QMem w qb lb T D M d Q) (i : Int) (j : Nat) (hn : numT T D 1 i = some j)  (hq : j ∈ Q) :
    Calls Try.prog 61 #[.pointer (some ⟨qb, 0, none⟩), .agg #[.int .i64 1, .int .i64 i]] w fun e w' => e = .returned (.bool false) ∧ w.grownBy w' none := by
  obtain ⟨lo, hi⟩ : Nat × Nat := (0, 0)
  have C1 := Lib.hid (qnum_some (H.kept (World.grownBy_alloc w (.cells #[.int .i64 1, .int .i64 i] 46) none)) 1 i j hn)
  have HH := Lib.hid H
  have hszq := H.sz
  have hap := H.ap
  have hsl := H.ln.sz
  have hnd := H.ln.nodup 0 (by omega)
  clear H
  go_enter Try.func61, Try.ntmps61
  go_wp2_with fail
  refine C1.out.mono ?_
  rintro e w1 ⟨rfl, g1⟩
  obtain ⟨⟨b0, b1⟩, g0⟩ := box2 w (.int .i64 1) (.int .i64 i) 46 0
  replace b0 := g1.cell b0 (by simp)
  have g2 : w.grownBy w1 none := (World.grownBy_alloc w _ none).trans g1
  have K2 := Lib.hid (Only.of_none (lo := lo) (hi := hi) g2)
  have G2 := Lib.hid g2
  have H1 := HH.out.kept g2
  have c0 := H1.c0
  have c2 := H1.c2
  have c3 := H1.c3
  have hbz : w.heap.size < w1.heap.size := by have := g1.size; rw [World.size_alloc] at this; exact this
  replace b0 : w1.cell? ⟨w.heap.size, 0, none⟩ = some (.int .i64 1) := b0
  have HH1 := Lib.hid H1
  have C2 : Hid (∀ v, w1.grownBy v none → Calls Try.prog 68 #[.pointer (some ⟨lb + 4, 0, none⟩), .int .i64 0, .int .i64 (j : Nat)] v fun e w' => e = .returned (.bool false) ∧ v = w') := Lib.hid fun v k => push_no 0 j (HH1.out.kept k).ln (Or.inr (Or.inr ⟨0, by omega, by simpa using hq⟩))
  
  clear H1 g2 g0 b1 HH C1 K2 HH1 
  go_wp2_with fail
  go_quiet ((go_at_call 68; exact Calls.quiet_of_same ((C2.out _ (gdN _ (World.grownBy.refl _ _))).mono fun _ _ ⟨a, c⟩ => ⟨a, c.symm⟩)))
  go_wp2
  go_ret
  exact ⟨rfl, gdN _ G2.out⟩
set_option maxHeartbeats 4000000 in
theorem qpush_m2 (H : QMem w qb lb T D M d Q) (i : Int) (j : Nat) (hn : numT T D 2 i = some j) (hm : (d : Int) < M) (hq : j ∈ Q) :
    Calls Try.prog 61 #[.pointer (some ⟨qb, 0, none⟩), .agg #[.int .i64 2, .int .i64 i]] w fun e w' => e = .returned (.bool false) ∧ w.grownBy w' none := by
  obtain ⟨lo, hi⟩ : Nat × Nat := (0, 0)
  have C1 := Lib.hid (qnum_some (H.kept (World.grownBy_alloc w (.cells #[.int .i64 2, .int .i64 i] 46) none)) 2 i j hn)
  have HH := Lib.hid H
  have hszq := H.sz
  have hap := H.ap
  have hsl := H.ln.sz
  have hnd := H.ln.nodup 0 (by omega)
  clear H
  go_enter Try.func61, Try.ntmps61
  go_wp2_with fail
  refine C1.out.mono ?_
  rintro e w1 ⟨rfl, g1⟩
  obtain ⟨⟨b0, b1⟩, g0⟩ := box2 w (.int .i64 2) (.int .i64 i) 46 0
  replace b0 := g1.cell b0 (by simp)
  have g2 : w.grownBy w1 none := (World.grownBy_alloc w _ none).trans g1
  have K2 := Lib.hid (Only.of_none (lo := lo) (hi := hi) g2)
  have G2 := Lib.hid g2
  have H1 := HH.out.kept g2
  have c0 := H1.c0
  have c2 := H1.c2
  have c3 := H1.c3
  have hbz : w.heap.size < w1.heap.size := by have := g1.size; rw [World.size_alloc] at this; exact this
  replace b0 : w1.cell? ⟨w.heap.size, 0, none⟩ = some (.int .i64 2) := b0
  have HH1 := Lib.hid H1
  have C2 : Hid (∀ v, w1.grownBy v none → Calls Try.prog 68 #[.pointer (some ⟨lb + 4, 0, none⟩), .int .i64 0, .int .i64 (j : Nat)] v fun e w' => e = .returned (.bool false) ∧ v = w') := Lib.hid fun v k => push_no 0 j (HH1.out.kept k).ln (Or.inr (Or.inr ⟨0, by omega, by simpa using hq⟩))
  have hm2 : decide (M ≤ (d : Int)) = false := by rw [decide_eq_false_iff_not]; omega
  clear H1 g2 g0 b1 HH C1 K2 HH1 hm
  go_wp2_with fail
  go_quiet ((go_at_call 68; exact Calls.quiet_of_same ((C2.out _ (gdN _ (World.grownBy.refl _ _))).mono fun _ _ ⟨a, c⟩ => ⟨a, c.symm⟩)))
  go_wp2
  go_ret
  exact ⟨rfl, gdN _ G2.out⟩

/-- The number that a thing comes by, if it may be put in. -/
def canP (T D : Nat) (M : Int) (Q : List Nat) (k i : Int) : Option Nat :=
  match numT T D k i with
  | none => none
  | some j => if j ∈ Q ∨ (k = 2 ∧ M ≤ (devN T Q : Int)) then none else some j
theorem qu_push_yes (H : Qu w lo hi qb T D M Q) (k i : Int) (j : Nat) (h : canP T D M Q k i = some j) :
    Calls Try.prog 61 #[.pointer (some ⟨qb, 0, none⟩), .agg #[.int .i64 k, .int .i64 i]] w fun e w' => e = .returned (.bool true) ∧ Only lo hi w w' ∧ Qu w' lo hi qb T D M (Q ++ [j]) := by
  unfold canP at h
  split at h
  · cases h
  · rename_i j' hn
    split at h
    · cases h
    · rename_i hq
      injection h with h
      subst h
      have hdl := devN_le T Q
      have hfew := H.few
      have htb := H.tb
      obtain ⟨lb, H, h1, h2, h3⟩ := H
      rcases numT_kind hn with ⟨rfl, hj⟩ | ⟨rfl, hT, hj⟩
      · refine (qpush_1 H i _ hn hj (fun h => hq (Or.inl h)) (by omega) h1 h2).mono fun e w' ⟨a, b, c⟩ => ⟨a, b, lb, ?_, h1, h2, Nat.le_trans h3 b.size⟩
        rw [devN_push, if_neg (by omega)]
        exact c
      · refine (qpush_2 H i _ hn hT hj (by have := fun h => hq (Or.inr ⟨rfl, h⟩); omega) (fun h => hq (Or.inl h)) (by omega) h1 h2).mono fun e w' ⟨a, b, c⟩ => ⟨a, b, lb, ?_, h1, h2, Nat.le_trans h3 b.size⟩
        rw [devN_push, if_pos hT]
        exact c
theorem qu_push_no (H : Qu w lo hi qb T D M Q) (k i : Int) (h : canP T D M Q k i = none) :
    Calls Try.prog 61 #[.pointer (some ⟨qb, 0, none⟩), .agg #[.int .i64 k, .int .i64 i]] w fun e w' => e = .returned (.bool false) ∧ w.grownBy w' none := by
  obtain ⟨lb, H, h1, h2, h3⟩ := H
  unfold canP at h
  split at h
  · rename_i hn
    exact qpush_n1 H k i hn
  · rename_i j hn
    split at h
    · rename_i hq
      rcases numT_kind hn with ⟨rfl, hj⟩ | ⟨rfl, hT, hj⟩
      · exact qpush_m1 H i j hn (by rcases hq with h | ⟨h, _⟩; exact h; omega)
      · by_cases hm : M ≤ (devN T Q : Int)
        · exact qpush_n2 H i j hn hm
        · exact qpush_m2 H i j hn (by omega) (by rcases hq with h | ⟨_, h⟩; exact h; omega)
    · cases h
end
end Go.Proofs.Ytpnipmjjhiaieaa
