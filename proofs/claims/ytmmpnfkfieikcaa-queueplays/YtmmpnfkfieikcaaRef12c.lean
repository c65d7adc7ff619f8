/-
  The document's answers for queue (nightjarref12): Push of a timer.
-/
import Derived.Test.YtmmpnfkfieikcaaRef12b
namespace Go.Proofs.Ytmmpnfkfieikcaa
open Go.RowKit Go.Lib
set_option maxRecDepth 100000
set_option linter.unusedVariables false
section
variable {w w' : World} {B : Nat} {v : Value} {F : List (Int × Int)}
set_option maxHeartbeats 8000000 in
theorem ref_push_yes1 (T D M k i : Int) (h : w.ownsRow B 35 2 v F.length (cellsP F)) (hF : F.length ≤ 100000) (hI : isT T D k i = true) (hH : (k, i) ∉ F) (hk : (k == 2) = false):
    Calls Try.prog 8 #[.agg #[.int .i64 T, .int .i64 D, .int .i64 M, v], .agg #[.int .i64 k, .int .i64 i]] w fun e w' => (∃ v', e = .returned (.tuple #[.agg #[.int .i64 T, .int .i64 D, .int .i64 M, v'], .bool true]) ∧ w'.ownsRow w.heap.size 35 2 v' (F ++ [(k, i)]).length (cellsP (F ++ [(k, i)]))) ∧ w.grownBy w' none := by
  obtain ⟨sa, cap, rfl, _, _⟩ := own_formP h
  have HC := Lib.hid (facts12 T D M k i sa F.length cap w)
  have K0 : Hid (w.grownBy (((w.alloc (.cells #[.int .i64 T, .int .i64 D, .int .i64 M, .slice sa F.length cap] 30)).alloc (.cells #[.int .i64 k, .int .i64 i] 35)).alloc (.cells #[.int .i64 0, .int .i64 0, .int .i64 0, .slice none 0 0] 30)) none) := Lib.hid (ga _ (ga _ (World.grownBy_alloc w _ none)))
  have HO : Hid (∀ x, (((w.alloc (.cells #[.int .i64 T, .int .i64 D, .int .i64 M, .slice sa F.length cap] 30)).alloc (.cells #[.int .i64 k, .int .i64 i] 35)).alloc (.cells #[.int .i64 0, .int .i64 0, .int .i64 0, .slice none 0 0] 30)).grownBy x none → x.ownsRow B 35 2 (.slice sa F.length cap) F.length (cellsP F)) := Lib.hid fun x kx => own_keepP h (K0.out.trans kx)
  have G0 : Hid ((((w.alloc (.cells #[.int .i64 T, .int .i64 D, .int .i64 M, .slice sa F.length cap] 30)).alloc (.cells #[.int .i64 k, .int .i64 i] 35)).alloc (.cells #[.int .i64 0, .int .i64 0, .int .i64 0, .slice none 0 0] 30)).grownBy (((w.alloc (.cells #[.int .i64 T, .int .i64 D, .int .i64 M, .slice sa F.length cap] 30)).alloc (.cells #[.int .i64 k, .int .i64 i] 35)).alloc (.cells #[.int .i64 0, .int .i64 0, .int .i64 0, .slice none 0 0] 30)).drew none) := Lib.hid (gd (World.grownBy.refl _ _))
  have CI : Hid (∀ v, Calls Try.prog 21 #[.agg #[.int .i64 T, .int .i64 D, .int .i64 M, .slice sa F.length cap], .agg #[.int .i64 k, .int .i64 i]] v fun e w' => e = .returned (.bool true) ∧ v.grownBy w' none) := Lib.hid fun v => by rw [← hI]; exact ref_is T D M k i _ rfl v
  have CH : Hid (∀ x, (((w.alloc (.cells #[.int .i64 T, .int .i64 D, .int .i64 M, .slice sa F.length cap] 30)).alloc (.cells #[.int .i64 k, .int .i64 i] 35)).alloc (.cells #[.int .i64 0, .int .i64 0, .int .i64 0, .slice none 0 0] 30)).grownBy x none → Calls Try.prog 22 #[.agg #[.int .i64 T, .int .i64 D, .int .i64 M, .slice sa F.length cap], .agg #[.int .i64 k, .int .i64 i]] x fun e w' => e = .returned (.bool false) ∧ x.grownBy w' none) := Lib.hid fun x kx => by
    have := ref_has T D M k i (HO.out x kx) hF
    rwa [decide_eq_false hH] at this
  go_enter Try.func8, Try.ntmps8
  go_wp2_with fail
  obtain ⟨hS, _, _⟩ := HC.out _ G0.out
  clear h hI hH
  have hus : Hid ((((w.alloc (.cells #[.int .i64 T, .int .i64 D, .int .i64 M, .slice sa F.length cap] 30)).alloc (.cells #[.int .i64 k, .int .i64 i] 35)).alloc (.cells #[.int .i64 0, .int .i64 0, .int .i64 0, .slice none 0 0] 30)).heap.size = w.heap.size + 3) := Lib.hid (by rw [World.size_alloc, World.size_alloc, World.size_alloc])
  generalize (((w.alloc (.cells #[.int .i64 T, .int .i64 D, .int .i64 M, .slice sa F.length cap] 30)).alloc (.cells #[.int .i64 k, .int .i64 i] 35)).alloc (.cells #[.int .i64 0, .int .i64 0, .int .i64 0, .slice none 0 0] 30)) = u0 at *
  refine wp_region_held_drew (S := fun x => x.cell? ⟨w.heap.size, 0, none⟩ = some (.int .i64 T) ∧ x.cell? ⟨w.heap.size, 1, none⟩ = some (.int .i64 D) ∧ x.cell? ⟨w.heap.size, 2, none⟩ = some (.int .i64 M) ∧ x.cell? ⟨w.heap.size, 3, none⟩ = some (.slice sa F.length cap) ∧ x.cell? ⟨w.heap.size + 1, 0, none⟩ = some (.int .i64 k) ∧ x.cell? ⟨w.heap.size + 1, 1, none⟩ = some (.int .i64 i)) (by kernel_rfl) hS (fun hHeld => ?_)
  clear hS
  refine wpAnyH_take (i := 0) (oi := ⟨_, _, _, _, _, _⟩) (v := ?_) rfl (by kernel_rfl) (by kernel_rfl) (by kernel_rfl) (fun _ _ _ h => h) (Or.inl ⟨by rfl, ?_⟩) (by assumption) ?_
  rotate_left
  · intro wz hSw
    try dsimp only at hSw
    go_simp
    try with_reducible rfl
  simp only [Act.put, List.setIfInBounds_toArray, List.set_cons_zero, List.set_cons_succ]
  refine wpAnyH_take (i := 1) (oi := ⟨_, _, _, _, _, _⟩) (v := ?_) rfl (by kernel_rfl) (by kernel_rfl) (by kernel_rfl) (fun _ _ _ h => h) (Or.inl ⟨by rfl, ?_⟩) (by assumption) ?_
  rotate_left
  · intro wz hSw
    try dsimp only at hSw
    go_simp
    try with_reducible rfl
  simp only [Act.put, List.setIfInBounds_toArray, List.set_cons_zero, List.set_cons_succ]
  refine wpAnyH_ready (rs := [2]) (by kernel_rfl) (by simp) ?_
  refine AllReadyH.cons (o := ⟨_, _, _, _, _, _⟩) rfl (fun K hK => ?_) AllReadyH.nil
  go_simp
  refine (CI.out _).mono ?_
  rintro e u1 ⟨rfl, kk⟩
  have G1 := Lib.hid (G0.out.trans kk)
  obtain ⟨hS, _, _⟩ := HC.out _ G1.out
  clear kk G0
  refine hK.out _ _ hS (fun hHeld => ?_)
  clear hK K
  try simp only [Act.put, List.setIfInBounds_toArray, List.set_cons_zero, List.set_cons_succ]
  clear hS
  refine wpAnyH_take (i := 3) (oi := ⟨_, _, _, _, _, _⟩) (v := ?_) rfl (by kernel_rfl) (by kernel_rfl) (by kernel_rfl) (fun _ _ _ h => h) (Or.inl ⟨by rfl, ?_⟩) (by assumption) ?_
  rotate_left
  · intro wz hSw
    try dsimp only at hSw
    go_simp
    try with_reducible rfl
  simp only [Act.put, List.setIfInBounds_toArray, List.set_cons_zero, List.set_cons_succ]
  refine wpAnyH_take (i := 4) (oi := ⟨_, _, _, _, _, _⟩) (v := ?_) rfl (by kernel_rfl) (by kernel_rfl) (by kernel_rfl) (fun _ _ _ h => h) (Or.inl ⟨by rfl, ?_⟩) (by assumption) ?_
  rotate_left
  · intro wz hSw
    try dsimp only at hSw
    go_simp
    try with_reducible rfl
  simp only [Act.put, List.setIfInBounds_toArray, List.set_cons_zero, List.set_cons_succ]
  refine wpAnyH_take (i := 5) (oi := ⟨_, _, _, _, _, _⟩) (v := ?_) rfl (by kernel_rfl) (by kernel_rfl) (by kernel_rfl) (fun _ _ _ h => h) (Or.inl ⟨by rfl, ?_⟩) (by assumption) ?_
  rotate_left
  · intro wz hSw
    try dsimp only at hSw
    go_simp
    try with_reducible rfl
  simp only [Act.put, List.setIfInBounds_toArray, List.set_cons_zero, List.set_cons_succ]
  refine wpAnyH_take (i := 6) (oi := ⟨_, _, _, _, _, _⟩) (v := ?_) rfl (by kernel_rfl) (by kernel_rfl) (by kernel_rfl) (fun _ _ _ h => h) (Or.inl ⟨by rfl, ?_⟩) (by assumption) ?_
  rotate_left
  · intro wz hSw
    try dsimp only at hSw
    go_simp
    try with_reducible rfl
  simp only [Act.put, List.setIfInBounds_toArray, List.set_cons_zero, List.set_cons_succ]
  refine wpAnyH_ready (rs := [7]) (by kernel_rfl) (by simp) ?_
  refine AllReadyH.cons (o := ⟨_, _, _, _, _, _⟩) rfl (fun K hK => ?_) AllReadyH.nil
  go_simp
  refine (CH.out _ G1.out).mono ?_
  rintro e u2 ⟨rfl, kk⟩
  have G2 := Lib.hid (G1.out.trans kk)
  obtain ⟨hS, _, _⟩ := HC.out _ G2.out
  clear kk G1
  refine hK.out _ _ hS (fun hHeld => ?_)
  clear hK K
  try simp only [Act.put, List.setIfInBounds_toArray, List.set_cons_zero, List.set_cons_succ]
  clear hS
  refine wpAnyH_take (i := 8) (oi := ⟨_, _, _, _, _, _⟩) (v := ?_) rfl (by kernel_rfl) (by kernel_rfl) (by kernel_rfl) (fun _ _ _ h => h) (Or.inl ⟨by rfl, ?_⟩) (by assumption) ?_
  rotate_left
  · intro wz hSw
    try dsimp only at hSw
    go_simp
    try with_reducible rfl
  simp only [Act.put, List.setIfInBounds_toArray, List.set_cons_zero, List.set_cons_succ]
  refine wpAnyH_take (i := 9) (oi := ⟨_, _, _, _, _, _⟩) (v := ?_) rfl (by kernel_rfl) (by kernel_rfl) (by kernel_rfl) (fun _ _ _ h => h) (Or.inl ⟨by rfl, ?_⟩) (by assumption) ?_
  rotate_left
  · intro wz hSw
    try dsimp only at hSw
    go_simp
    try with_reducible rfl
  simp only [Act.put, List.setIfInBounds_toArray, List.set_cons_zero, List.set_cons_succ]
  refine wpAnyH_take (i := 10) (oi := ⟨_, _, _, _, _, _⟩) (v := ?_) rfl (by kernel_rfl) (by kernel_rfl) (by kernel_rfl) (fun _ _ _ h => h) (Or.inl ⟨by rfl, ?_⟩) (by assumption) ?_
  rotate_left
  · intro wz hSw
    try dsimp only at hSw
    go_simp
    try with_reducible rfl
  simp only [Act.put, List.setIfInBounds_toArray, List.set_cons_zero, List.set_cons_succ]
  refine wpAnyH_take (i := 11) (oi := ⟨_, _, _, _, _, _⟩) (v := ?_) rfl (by kernel_rfl) (by kernel_rfl) (by kernel_rfl) (fun _ _ _ h => h) (Or.inl ⟨by rfl, ?_⟩) (by assumption) ?_
  rotate_left
  · intro wz hSw
    try dsimp only at hSw
    go_simp
    try with_reducible rfl
  simp only [Act.put, List.setIfInBounds_toArray, List.set_cons_zero, List.set_cons_succ]
  refine wpAnyH_take (i := 12) (oi := ⟨_, _, _, _, _, _⟩) (v := ?_) rfl (by kernel_rfl) (by kernel_rfl) (by kernel_rfl) (fun _ _ _ h => h) (Or.inl ⟨by rfl, ?_⟩) (by assumption) ?_
  rotate_left
  · intro wz hSw
    try dsimp only at hSw
    go_simp
    try with_reducible rfl
  simp only [Act.put, List.setIfInBounds_toArray, List.set_cons_zero, List.set_cons_succ]
  refine wpAnyH_take (i := 13) (oi := ⟨_, _, _, _, _, _⟩) (v := ?_) rfl (by kernel_rfl) (by kernel_rfl) (by kernel_rfl) (fun _ _ _ h => h) (Or.inl ⟨by rfl, ?_⟩) (by assumption) ?_
  rotate_left
  · intro wz hSw
    try dsimp only at hSw
    go_simp
    try with_reducible rfl
  simp only [Act.put, List.setIfInBounds_toArray, List.set_cons_zero, List.set_cons_succ]
  refine wpAnyH_take (i := 14) (oi := ⟨_, _, _, _, _, _⟩) (v := undef) rfl (by kernel_rfl) (by kernel_rfl) (by kernel_rfl) (fun _ _ _ h => h) (Or.inr ⟨by rfl, rfl⟩) (by assumption) ?_
  simp only [Act.put, List.setIfInBounds_toArray, List.set_cons_zero, List.set_cons_succ]
  refine wpAnyH_take (i := 15) (oi := ⟨_, _, _, _, _, _⟩) (v := undef) rfl (by kernel_rfl) (by kernel_rfl) (by kernel_rfl) (fun _ _ _ h => h) (Or.inr ⟨by rfl, rfl⟩) (by assumption) ?_
  simp only [Act.put, List.setIfInBounds_toArray, List.set_cons_zero, List.set_cons_succ]
  refine wpAnyH_take (i := 16) (oi := ⟨_, _, _, _, _, _⟩) (v := undef) rfl (by kernel_rfl) (by kernel_rfl) (by kernel_rfl) (fun _ _ _ h => h) (Or.inr ⟨by rfl, rfl⟩) (by assumption) ?_
  simp only [Act.put, List.setIfInBounds_toArray, List.set_cons_zero, List.set_cons_succ]
  refine wpAnyH_take (i := 17) (oi := ⟨_, _, _, _, _, _⟩) (v := undef) rfl (by kernel_rfl) (by kernel_rfl) (by kernel_rfl) (fun _ _ _ h => h) (Or.inr ⟨by rfl, rfl⟩) (by assumption) ?_
  simp only [Act.put, List.setIfInBounds_toArray, List.set_cons_zero, List.set_cons_succ]
  refine wpAnyH_take (i := 18) (oi := ⟨_, _, _, _, _, _⟩) (v := undef) rfl (by kernel_rfl) (by kernel_rfl) (by kernel_rfl) (fun _ _ _ h => h) (Or.inr ⟨by rfl, rfl⟩) (by assumption) ?_
  simp only [Act.put, List.setIfInBounds_toArray, List.set_cons_zero, List.set_cons_succ]
  refine wpAnyH_take (i := 19) (oi := ⟨_, _, _, _, _, _⟩) (v := ?_) rfl (by kernel_rfl) (by kernel_rfl) (by kernel_rfl) (fun _ _ _ h => h) (Or.inl ⟨by rfl, ?_⟩) (by assumption) ?_
  rotate_left
  · intro wz hSw
    try dsimp only at hSw
    go_simp
    try with_reducible rfl
  simp only [Act.put, List.setIfInBounds_toArray, List.set_cons_zero, List.set_cons_succ]
  refine wpAnyH_take (i := 20) (oi := ⟨_, _, _, _, _, _⟩) (v := ?_) rfl (by kernel_rfl) (by kernel_rfl) (by kernel_rfl) (fun _ _ _ h => h) (Or.inl ⟨by rfl, ?_⟩) (by assumption) ?_
  rotate_left
  · intro wz hSw
    try dsimp only at hSw
    go_simp
    try with_reducible rfl
  simp only [Act.put, List.setIfInBounds_toArray, List.set_cons_zero, List.set_cons_succ]
  refine wpAnyH_done (by kernel_rfl) ?_ _
  clear CI CH
  go_wp2_with fail
  have GD : Hid (u0.grownBy u2.drew none) := Lib.hid (gd G2.out)
  obtain ⟨⟨_, _, _, c3, c4, c5⟩, _, _⟩ := HC.out _ GD.out
  obtain ⟨i0, hi0, hi1, hi2, hi3⟩ := thingR_info
  have I0 := Lib.hid hi0
  have I1 := Lib.hid hi1
  have I2 := Lib.hid hi2
  have I3 := Lib.hid hi3
  clear hi0 hi1 hi2 hi3
  refine wp_region_held_drew (S := fun x => x.cell? ⟨w.heap.size + 1, 0, none⟩ = some (.int .i64 k) ∧ x.cell? ⟨w.heap.size + 1, 1, none⟩ = some (.int .i64 i)) (by kernel_rfl) ⟨c4, c5⟩ (fun hHeld => ?_)
  generalize u2.drew = u at *
  clear c3 c4 c5
  refine wpAnyH_take (i := 1) (oi := ⟨_, _, _, _, _, _⟩) (v := ?_) rfl (by kernel_rfl) (by kernel_rfl) (by kernel_rfl) (fun _ _ _ h => h) (Or.inl ⟨by rfl, ?_⟩) (by assumption) ?_
  rotate_left
  · intro wz hSw
    try dsimp only at hSw
    go_simp
    try with_reducible rfl
  simp only [Act.put, List.setIfInBounds_toArray, List.set_cons_zero, List.set_cons_succ]
  refine wpAnyH_take (i := 4) (oi := ⟨_, _, _, _, _, _⟩) (v := ?_) rfl (by kernel_rfl) (by kernel_rfl) (by kernel_rfl) (fun _ _ _ h => h) (Or.inl ⟨by rfl, ?_⟩) (by assumption) ?_
  rotate_left
  · intro wz hSw
    try dsimp only at hSw
    go_simp
    try with_reducible rfl
  simp only [Act.put, List.setIfInBounds_toArray, List.set_cons_zero, List.set_cons_succ]
  refine wpAnyH_ready (rs := [0, 2, 5]) (by kernel_rfl) (by simp) ?_
  refine AllReadyH.cons (o := ⟨_, _, _, _, _, _⟩) rfl (fun K hK => ?_) (AllReadyH.cons (o := ⟨_, _, _, _, _, _⟩) rfl (fun K hK => ?_) (AllReadyH.cons (o := ⟨_, _, _, _, _, _⟩) rfl (fun K hK => ?_) AllReadyH.nil))
  · skip
    go_simp
    have hO0 := Lib.hid (litR u u0.heap.size GD.out.size)
    have G1 : Hid (u0.grownBy (u.alloc (.cells #[] 35)) none) := Lib.hid (ga _ GD.out)
    obtain ⟨zb, hzb⟩ : ∃ zb, u.heap.size = zb := ⟨_, rfl⟩
    have hzs : zb < (u.alloc (.cells #[] 35)).heap.size := by rw [World.size_alloc]; omega
    obtain ⟨⟨_, _, _, c3, c4, c5⟩, _, _⟩ := HC.out _ G1.out
    refine hK.out _ _ ⟨c4, c5⟩ (fun hHeld => ?_)
    clear hK K c3 c4 c5
    try simp only [Act.put, List.setIfInBounds_toArray, List.set_cons_zero, List.set_cons_succ]
    rw [hzb] at hO0 ⊢
    clear hzb
    generalize u.alloc (.cells #[] 35) = y1 at *
    clear GD
    refine wpAnyH_ready (rs := [2, 5]) (by kernel_rfl) (by simp) ?_
    refine AllReadyH.cons (o := ⟨_, _, _, _, _, _⟩) rfl (fun K hK => ?_) (AllReadyH.cons (o := ⟨_, _, _, _, _, _⟩) rfl (fun K hK => ?_) AllReadyH.nil)
    · skip
      obtain ⟨⟨_, _, _, a3, _, _⟩, _, _⟩ := HC.out _ G1.out
      go_simp
      obtain ⟨⟨_, _, _, c3, c4, c5⟩, _, _⟩ := HC.out _ G1.out
      refine hK.out _ _ ⟨c4, c5⟩ (fun hHeld => ?_)
      clear hK K c3 c4 c5
      try simp only [Act.put, List.setIfInBounds_toArray, List.set_cons_zero, List.set_cons_succ]
      clear a3
      refine wpAnyH_ready (rs := [3, 5]) (by kernel_rfl) (by simp) ?_
      refine AllReadyH.cons (o := ⟨_, _, _, _, _, _⟩) rfl (fun K hK => ?_) (AllReadyH.cons (o := ⟨_, _, _, _, _, _⟩) rfl (fun K hK => ?_) AllReadyH.nil)
      · skip
        have hOF := HO.out _ G1.out
        have SF := src_ownP hOF
        obtain ⟨v1, y2, hrun, hown, hgrow, _, hat⟩ := run_append_src Try.prog y1 u0.heap.size 28 28 35 i0 (.agg #[.int .i64 0, .int .i64 0]) 2 16 Try.underlying28 I0.out I1.out I2.out I3.out rfl (by decide) _ _ _ hO0.out _ _ _ SF (by unfold maxLen; omega) (by omega) G1.out.size
        have G2 : Hid (u0.grownBy y2 none) := Lib.hid (grown_row G1.out hO0.out (Nat.le_refl _) hgrow)
        have hO1 : Hid (y2.ownsRow u0.heap.size 35 2 v1 F.length (cellsP F)) := Lib.hid (by simpa [cellsP] using hown)
        refine step_append_run rfl _ _ _ rfl _ _ v1 y2 rfl rfl hrun ?_
        clear hrun hown hgrow hat hOF SF hO0
        obtain ⟨⟨_, _, _, c3, c4, c5⟩, _, _⟩ := HC.out _ G2.out
        refine hK.out _ _ ⟨c4, c5⟩ (fun hHeld => ?_)
        clear hK K c3 c4 c5
        try simp only [Act.put, List.setIfInBounds_toArray, List.set_cons_zero, List.set_cons_succ]
        clear G1
        refine wpAnyH_ready (rs := [5]) (by kernel_rfl) (by simp) ?_
        refine AllReadyH.cons (o := ⟨_, _, _, _, _, _⟩) rfl (fun K hK => ?_) AllReadyH.nil
        go_simp
        obtain ⟨⟨e0, e1⟩, _⟩ := box2 y2 (.int .i64 k) (.int .i64 i) 35 0
        have e0 : (y2.alloc (.cells #[.int .i64 k, .int .i64 i] 35)).cell? ⟨y2.heap.size, 0, none⟩ = some (.int .i64 k) := e0
        have e1 : (y2.alloc (.cells #[.int .i64 k, .int .i64 i] 35)).cell? ⟨y2.heap.size, 1, none⟩ = some (.int .i64 i) := e1
        have hps : y2.heap.size < (y2.alloc (.cells #[.int .i64 k, .int .i64 i] 35)).heap.size := by rw [World.size_alloc]; omega
        have G3 : Hid (u0.grownBy (y2.alloc (.cells #[.int .i64 k, .int .i64 i] 35)) none) := Lib.hid (ga _ G2.out)
        replace hO1 := Lib.hid (own_keepP hO1.out (World.grownBy_alloc y2 (.cells #[.int .i64 k, .int .i64 i] 35) none))
        obtain ⟨⟨_, _, _, c3, c4, c5⟩, _, _⟩ := HC.out _ G3.out
        refine hK.out _ _ ⟨c4, c5⟩ (fun hHeld => ?_)
        clear hK K c3 c4 c5
        try simp only [Act.put, List.setIfInBounds_toArray, List.set_cons_zero, List.set_cons_succ]
        generalize y2.heap.size = pb at *
        generalize y2.alloc (.cells #[.int .i64 k, .int .i64 i] 35) = y3 at *
        clear G2
        refine wpAnyH_ready (rs := [6]) (by kernel_rfl) (by simp) ?_
        refine AllReadyH.cons (o := ⟨_, _, _, _, _, _⟩) rfl (fun K hK => ?_) AllReadyH.nil
        obtain ⟨v2, y6, hrun, hown, hgrow, _, hat⟩ := run_append_src Try.prog y3 u0.heap.size 28 28 35 i0 (.agg #[.int .i64 0, .int .i64 0]) 2 16 Try.underlying28 I0.out I1.out I2.out I3.out rfl (by decide) _ _ _ hO1.out _ _ _ (src_pair e0 e1) (by unfold maxLen; omega) (by omega) G3.out.size
        have G6 : Hid (u0.grownBy y6 none) := Lib.hid (grown_row G3.out hO1.out (Nat.le_refl _) hgrow)
        rw [cellsP_add] at hown
        obtain ⟨sv, cv, hv2, _, _⟩ := own_formP hown
        subst hv2
        have hO2 := Lib.hid hown
        refine step_append_run rfl _ _ _ rfl _ _ _ y6 rfl rfl hrun ?_
        clear hrun hown hgrow hat hO1 e0 e1
        obtain ⟨⟨_, _, _, c3, c4, c5⟩, _, _⟩ := HC.out _ G6.out
        refine hK.out _ _ ⟨c4, c5⟩ (fun hHeld => ?_)
        clear hK K c3 c4 c5
        try simp only [Act.put, List.setIfInBounds_toArray, List.set_cons_zero, List.set_cons_succ]
        clear G3
        refine wpAnyH_take (i := 7) (oi := ⟨_, _, _, _, _, _⟩) (v := ?_) rfl (by kernel_rfl) (by kernel_rfl) (by kernel_rfl) (fun _ _ _ h => h) (Or.inl ⟨by rfl, ?_⟩) (by assumption) ?_
        rotate_left
        · intro wz hSw
          try dsimp only at hSw
          go_simp
          try with_reducible rfl
        simp only [Act.put, List.setIfInBounds_toArray, List.set_cons_zero, List.set_cons_succ]
        refine wpAnyH_ready (rs := [8]) (by kernel_rfl) (by simp) ?_
        refine AllReadyH.cons (o := ⟨_, _, _, _, _, _⟩) rfl (fun K hK => ?_) AllReadyH.nil
        obtain ⟨⟨a0, a1, a2, a3, c4, c5⟩, ⟨r0, r1, r2, r3⟩, f0, f1, f2, f3, f4⟩ := HC.out _ G6.out
        have GW := Lib.hid (K0.out.trans G6.out)
        go_simp
        have far : ∀ (b o : Nat), b ≠ w.heap.size → (y6.setCell ⟨w.heap.size, 3, none⟩ (.slice sv (F.length + 1) cv)).cell? ⟨b, o, none⟩ = y6.cell? ⟨b, o, none⟩ := fun b o hb => World.cell?_setCell_far _ ⟨w.heap.size, 3, none⟩ ⟨b, o, none⟩ _ (by show w.heap.size ≠ b; omega)
        have oth : ∀ o, o ≠ 3 → (y6.setCell ⟨w.heap.size, 3, none⟩ (.slice sv (F.length + 1) cv)).cell? ⟨w.heap.size, o, none⟩ = y6.cell? ⟨w.heap.size, o, none⟩ := fun o ho => World.cell?_setCell_other _ ⟨w.heap.size, 3, none⟩ ⟨w.heap.size, o, none⟩ _ (by simp; try omega)
        have p3 : (y6.setCell ⟨w.heap.size, 3, none⟩ (.slice sv (F.length + 1) cv)).cell? ⟨w.heap.size, 3, none⟩ = some (.slice sv (F.length + 1) cv) := World.cell?_setCell_same _ _ _ a3
        have p0 := (oth 0 (by decide)).trans a0
        have p1 := (oth 1 (by decide)).trans a1
        have p2 := (oth 2 (by decide)).trans a2
        have p4 := (far (w.heap.size + 1) 0 (by omega)).trans c4
        have p5 := (far (w.heap.size + 1) 1 (by omega)).trans c5
        have s0 := (far (w.heap.size + 2) 0 (by omega)).trans r0
        have s1 := (far (w.heap.size + 2) 1 (by omega)).trans r1
        have s2 := (far (w.heap.size + 2) 2 (by omega)).trans r2
        have s3 := (far (w.heap.size + 2) 3 (by omega)).trans r3
        have ff : ∀ o, (y6.setCell ⟨w.heap.size, 3, none⟩ (.slice sv (F.length + 1) cv)).frozen? ⟨w.heap.size + 2, o, none⟩ = y6.frozen? ⟨w.heap.size + 2, o, none⟩ := fun o => World.frozen?_setCell ..
        rw [← ff 0] at f0
        rw [← ff 1] at f1
        rw [← ff 2] at f2
        rw [← ff 3] at f3
        have GV : Hid (w.grownBy (y6.setCell ⟨w.heap.size, 3, none⟩ (.slice sv (F.length + 1) cv)) none) := Lib.hid (grown_above GW.out (Nat.le_refl _) 3 _)
        have hO3 : Hid ((y6.setCell ⟨w.heap.size, 3, none⟩ (.slice sv (F.length + 1) cv)).ownsRow w.heap.size 35 2 (.slice sv (F.length + 1) cv) (F.length + 1) (cellsP (F ++ [(k, i)]))) := Lib.hid (own_mono (own_only2P hO2.out (Only.set (lo := w.heap.size) (hi := w.heap.size + 1) y6 ⟨w.heap.size, 3, none⟩ _ (Nat.le_refl _) (Nat.lt_succ_self _)) (by have := hus.out; omega)) (by have := hus.out; omega))
        have hne : Hid (∀ g, (Value.slice sv (F.length + 1) cv).ownBlock = some g → g ≠ w.heap.size + 2) := Lib.hid (fun g hg => by have := (hO2.out.lt g hg).1; have := hus.out; omega)
        refine hK.out _ _ ⟨p4, p5⟩ (fun hHeld => ?_)
        clear hK K far oth ff a0 a1 a2 a3 c4 c5 r0 r1 r2 r3 f4 hO2 GW G6 HC HO
        try simp only [Act.put, List.setIfInBounds_toArray, List.set_cons_zero, List.set_cons_succ]
        generalize y6.setCell ⟨w.heap.size, 3, none⟩ (.slice sv (F.length + 1) cv) = y7 at *
        refine wpAnyH_done (by kernel_rfl) ?_ _
        go_wp2
        obtain ⟨x0, x1, x2, x3⟩ := set4 (.int .i64 T) (.int .i64 D) (.int .i64 M) (.slice sv (F.length + 1) cv) s0 s1 s2 s3
        refine bodyPost_ret (v := .tuple #[.agg #[.int .i64 T, .int .i64 D, .int .i64 M, .slice sv (F.length + 1) cv], .bool true]) (by simp [results, Try.results8, go_sem, x0, x1, x2, x3]) rfl ⟨⟨_, rfl, ?_⟩, grown_above (grown_above (grown_above (grown_above GV.out (by omega) 0 _) (by omega) 1 _) (by omega) 2 _) (by omega) 3 _⟩
        rw [show (F ++ [(k, i)]).length = F.length + 1 by simp]
        have e : ∀ (z : World) (o : Nat) (u : Value), z.ownsRow w.heap.size 35 2 (.slice sv (F.length + 1) cv) (F.length + 1) (cellsP (F ++ [(k, i)])) → (∀ g, (Value.slice sv (F.length + 1) cv).ownBlock = some g → g ≠ w.heap.size + 2) → (z.setCell ⟨w.heap.size + 2, o, none⟩ u).ownsRow w.heap.size 35 2 (.slice sv (F.length + 1) cv) (F.length + 1) (cellsP (F ++ [(k, i)])) := fun z o u hz hg => own_blkP hz fun g hb => Below.heap_setCell z ⟨w.heap.size + 2, o, none⟩ u g (by show g ≠ w.heap.size + 2; exact hg g hb)
        exact e _ _ _ (e _ _ _ (e _ _ _ (e _ _ _ hO3.out hne.out) hne.out) hne.out) hne.out
      · skip
        go_simp
        obtain ⟨⟨e0, e1⟩, _⟩ := box2 y1 (.int .i64 k) (.int .i64 i) 35 0
        have e0 : (y1.alloc (.cells #[.int .i64 k, .int .i64 i] 35)).cell? ⟨y1.heap.size, 0, none⟩ = some (.int .i64 k) := e0
        have e1 : (y1.alloc (.cells #[.int .i64 k, .int .i64 i] 35)).cell? ⟨y1.heap.size, 1, none⟩ = some (.int .i64 i) := e1
        have hps : y1.heap.size < (y1.alloc (.cells #[.int .i64 k, .int .i64 i] 35)).heap.size := by rw [World.size_alloc]; omega
        have G2 : Hid (u0.grownBy (y1.alloc (.cells #[.int .i64 k, .int .i64 i] 35)) none) := Lib.hid (ga _ G1.out)
        replace hO0 := Lib.hid (own_keepP hO0.out (World.grownBy_alloc y1 (.cells #[.int .i64 k, .int .i64 i] 35) none))
        have hpb : y1.heap.size ≠ zb := by omega
        obtain ⟨⟨_, _, _, c3, c4, c5⟩, _, _⟩ := HC.out _ G2.out
        refine hK.out _ _ ⟨c4, c5⟩ (fun hHeld => ?_)
        clear hK K c3 c4 c5
        try simp only [Act.put, List.setIfInBounds_toArray, List.set_cons_zero, List.set_cons_succ]
        generalize y1.heap.size = pb at *
        generalize y1.alloc (.cells #[.int .i64 k, .int .i64 i] 35) = y2 at *
        clear G1
        refine wpAnyH_ready (rs := [3]) (by kernel_rfl) (by simp) ?_
        refine AllReadyH.cons (o := ⟨_, _, _, _, _, _⟩) rfl (fun K hK => ?_) AllReadyH.nil
        have hOF := HO.out _ G2.out
        have SF := src_ownP hOF
        obtain ⟨v1, y3, hrun, hown, hgrow, _, hat⟩ := run_append_src Try.prog y2 u0.heap.size 28 28 35 i0 (.agg #[.int .i64 0, .int .i64 0]) 2 16 Try.underlying28 I0.out I1.out I2.out I3.out rfl (by decide) _ _ _ hO0.out _ _ _ SF (by unfold maxLen; omega) (by omega) G2.out.size
        have G3 : Hid (u0.grownBy y3 none) := Lib.hid (grown_row G2.out hO0.out (Nat.le_refl _) hgrow)
        have hO1 : Hid (y3.ownsRow u0.heap.size 35 2 v1 F.length (cellsP F)) := Lib.hid (by simpa [cellsP] using hown)
        replace e0 := hgrow.cell e0 (by intro e; injection e with e; exact hpb e)
        replace e1 := hgrow.cell e1 (by intro e; injection e with e; exact hpb e)
        refine step_append_run rfl _ _ _ rfl _ _ v1 y3 rfl rfl hrun ?_
        clear hrun hown hgrow hat hOF SF hO0
        obtain ⟨⟨_, _, _, c3, c4, c5⟩, _, _⟩ := HC.out _ G3.out
        refine hK.out _ _ ⟨c4, c5⟩ (fun hHeld => ?_)
        clear hK K c3 c4 c5
        try simp only [Act.put, List.setIfInBounds_toArray, List.set_cons_zero, List.set_cons_succ]
        clear G2
        refine wpAnyH_ready (rs := [6]) (by kernel_rfl) (by simp) ?_
        refine AllReadyH.cons (o := ⟨_, _, _, _, _, _⟩) rfl (fun K hK => ?_) AllReadyH.nil
        obtain ⟨v2, y6, hrun, hown, hgrow, _, hat⟩ := run_append_src Try.prog y3 u0.heap.size 28 28 35 i0 (.agg #[.int .i64 0, .int .i64 0]) 2 16 Try.underlying28 I0.out I1.out I2.out I3.out rfl (by decide) _ _ _ hO1.out _ _ _ (src_pair e0 e1) (by unfold maxLen; omega) (by omega) G3.out.size
        have G6 : Hid (u0.grownBy y6 none) := Lib.hid (grown_row G3.out hO1.out (Nat.le_refl _) hgrow)
        rw [cellsP_add] at hown
        obtain ⟨sv, cv, hv2, _, _⟩ := own_formP hown
        subst hv2
        have hO2 := Lib.hid hown
        refine step_append_run rfl _ _ _ rfl _ _ _ y6 rfl rfl hrun ?_
        clear hrun hown hgrow hat hO1 e0 e1
        obtain ⟨⟨_, _, _, c3, c4, c5⟩, _, _⟩ := HC.out _ G6.out
        refine hK.out _ _ ⟨c4, c5⟩ (fun hHeld => ?_)
        clear hK K c3 c4 c5
        try simp only [Act.put, List.setIfInBounds_toArray, List.set_cons_zero, List.set_cons_succ]
        clear G3
        refine wpAnyH_take (i := 7) (oi := ⟨_, _, _, _, _, _⟩) (v := ?_) rfl (by kernel_rfl) (by kernel_rfl) (by kernel_rfl) (fun _ _ _ h => h) (Or.inl ⟨by rfl, ?_⟩) (by assumption) ?_
        rotate_left
        · intro wz hSw
          try dsimp only at hSw
          go_simp
          try with_reducible rfl
        simp only [Act.put, List.setIfInBounds_toArray, List.set_cons_zero, List.set_cons_succ]
        refine wpAnyH_ready (rs := [8]) (by kernel_rfl) (by simp) ?_
        refine AllReadyH.cons (o := ⟨_, _, _, _, _, _⟩) rfl (fun K hK => ?_) AllReadyH.nil
        obtain ⟨⟨a0, a1, a2, a3, c4, c5⟩, ⟨r0, r1, r2, r3⟩, f0, f1, f2, f3, f4⟩ := HC.out _ G6.out
        have GW := Lib.hid (K0.out.trans G6.out)
        go_simp
        have far : ∀ (b o : Nat), b ≠ w.heap.size → (y6.setCell ⟨w.heap.size, 3, none⟩ (.slice sv (F.length + 1) cv)).cell? ⟨b, o, none⟩ = y6.cell? ⟨b, o, none⟩ := fun b o hb => World.cell?_setCell_far _ ⟨w.heap.size, 3, none⟩ ⟨b, o, none⟩ _ (by show w.heap.size ≠ b; omega)
        have oth : ∀ o, o ≠ 3 → (y6.setCell ⟨w.heap.size, 3, none⟩ (.slice sv (F.length + 1) cv)).cell? ⟨w.heap.size, o, none⟩ = y6.cell? ⟨w.heap.size, o, none⟩ := fun o ho => World.cell?_setCell_other _ ⟨w.heap.size, 3, none⟩ ⟨w.heap.size, o, none⟩ _ (by simp; try omega)
        have p3 : (y6.setCell ⟨w.heap.size, 3, none⟩ (.slice sv (F.length + 1) cv)).cell? ⟨w.heap.size, 3, none⟩ = some (.slice sv (F.length + 1) cv) := World.cell?_setCell_same _ _ _ a3
        have p0 := (oth 0 (by decide)).trans a0
        have p1 := (oth 1 (by decide)).trans a1
        have p2 := (oth 2 (by decide)).trans a2
        have p4 := (far (w.heap.size + 1) 0 (by omega)).trans c4
        have p5 := (far (w.heap.size + 1) 1 (by omega)).trans c5
        have s0 := (far (w.heap.size + 2) 0 (by omega)).trans r0
        have s1 := (far (w.heap.size + 2) 1 (by omega)).trans r1
        have s2 := (far (w.heap.size + 2) 2 (by omega)).trans r2
        have s3 := (far (w.heap.size + 2) 3 (by omega)).trans r3
        have ff : ∀ o, (y6.setCell ⟨w.heap.size, 3, none⟩ (.slice sv (F.length + 1) cv)).frozen? ⟨w.heap.size + 2, o, none⟩ = y6.frozen? ⟨w.heap.size + 2, o, none⟩ := fun o => World.frozen?_setCell ..
        rw [← ff 0] at f0
        rw [← ff 1] at f1
        rw [← ff 2] at f2
        rw [← ff 3] at f3
        have GV : Hid (w.grownBy (y6.setCell ⟨w.heap.size, 3, none⟩ (.slice sv (F.length + 1) cv)) none) := Lib.hid (grown_above GW.out (Nat.le_refl _) 3 _)
        have hO3 : Hid ((y6.setCell ⟨w.heap.size, 3, none⟩ (.slice sv (F.length + 1) cv)).ownsRow w.heap.size 35 2 (.slice sv (F.length + 1) cv) (F.length + 1) (cellsP (F ++ [(k, i)]))) := Lib.hid (own_mono (own_only2P hO2.out (Only.set (lo := w.heap.size) (hi := w.heap.size + 1) y6 ⟨w.heap.size, 3, none⟩ _ (Nat.le_refl _) (Nat.lt_succ_self _)) (by have := hus.out; omega)) (by have := hus.out; omega))
        have hne : Hid (∀ g, (Value.slice sv (F.length + 1) cv).ownBlock = some g → g ≠ w.heap.size + 2) := Lib.hid (fun g hg => by have := (hO2.out.lt g hg).1; have := hus.out; omega)
        refine hK.out _ _ ⟨p4, p5⟩ (fun hHeld => ?_)
        clear hK K far oth ff a0 a1 a2 a3 c4 c5 r0 r1 r2 r3 f4 hO2 GW G6 HC HO
        try simp only [Act.put, List.setIfInBounds_toArray, List.set_cons_zero, List.set_cons_succ]
        generalize y6.setCell ⟨w.heap.size, 3, none⟩ (.slice sv (F.length + 1) cv) = y7 at *
        refine wpAnyH_done (by kernel_rfl) ?_ _
        go_wp2
        obtain ⟨x0, x1, x2, x3⟩ := set4 (.int .i64 T) (.int .i64 D) (.int .i64 M) (.slice sv (F.length + 1) cv) s0 s1 s2 s3
        refine bodyPost_ret (v := .tuple #[.agg #[.int .i64 T, .int .i64 D, .int .i64 M, .slice sv (F.length + 1) cv], .bool true]) (by simp [results, Try.results8, go_sem, x0, x1, x2, x3]) rfl ⟨⟨_, rfl, ?_⟩, grown_above (grown_above (grown_above (grown_above GV.out (by omega) 0 _) (by omega) 1 _) (by omega) 2 _) (by omega) 3 _⟩
        rw [show (F ++ [(k, i)]).length = F.length + 1 by simp]
        have e : ∀ (z : World) (o : Nat) (u : Value), z.ownsRow w.heap.size 35 2 (.slice sv (F.length + 1) cv) (F.length + 1) (cellsP (F ++ [(k, i)])) → (∀ g, (Value.slice sv (F.length + 1) cv).ownBlock = some g → g ≠ w.heap.size + 2) → (z.setCell ⟨w.heap.size + 2, o, none⟩ u).ownsRow w.heap.size 35 2 (.slice sv (F.length + 1) cv) (F.length + 1) (cellsP (F ++ [(k, i)])) := fun z o u hz hg => own_blkP hz fun g hb => Below.heap_setCell z ⟨w.heap.size + 2, o, none⟩ u g (by show g ≠ w.heap.size + 2; exact hg g hb)
        exact e _ _ _ (e _ _ _ (e _ _ _ (e _ _ _ hO3.out hne.out) hne.out) hne.out) hne.out
    · skip
      go_simp
      obtain ⟨⟨e0, e1⟩, _⟩ := box2 y1 (.int .i64 k) (.int .i64 i) 35 0
      have e0 : (y1.alloc (.cells #[.int .i64 k, .int .i64 i] 35)).cell? ⟨y1.heap.size, 0, none⟩ = some (.int .i64 k) := e0
      have e1 : (y1.alloc (.cells #[.int .i64 k, .int .i64 i] 35)).cell? ⟨y1.heap.size, 1, none⟩ = some (.int .i64 i) := e1
      have hps : y1.heap.size < (y1.alloc (.cells #[.int .i64 k, .int .i64 i] 35)).heap.size := by rw [World.size_alloc]; omega
      have G2 : Hid (u0.grownBy (y1.alloc (.cells #[.int .i64 k, .int .i64 i] 35)) none) := Lib.hid (ga _ G1.out)
      replace hO0 := Lib.hid (own_keepP hO0.out (World.grownBy_alloc y1 (.cells #[.int .i64 k, .int .i64 i] 35) none))
      have hpb : y1.heap.size ≠ zb := by omega
      obtain ⟨⟨_, _, _, c3, c4, c5⟩, _, _⟩ := HC.out _ G2.out
      refine hK.out _ _ ⟨c4, c5⟩ (fun hHeld => ?_)
      clear hK K c3 c4 c5
      try simp only [Act.put, List.setIfInBounds_toArray, List.set_cons_zero, List.set_cons_succ]
      generalize y1.heap.size = pb at *
      generalize y1.alloc (.cells #[.int .i64 k, .int .i64 i] 35) = y2 at *
      clear G1
      refine wpAnyH_ready (rs := [2]) (by kernel_rfl) (by simp) ?_
      refine AllReadyH.cons (o := ⟨_, _, _, _, _, _⟩) rfl (fun K hK => ?_) AllReadyH.nil
      obtain ⟨⟨_, _, _, a3, _, _⟩, _, _⟩ := HC.out _ G2.out
      go_simp
      obtain ⟨⟨_, _, _, c3, c4, c5⟩, _, _⟩ := HC.out _ G2.out
      refine hK.out _ _ ⟨c4, c5⟩ (fun hHeld => ?_)
      clear hK K c3 c4 c5
      try simp only [Act.put, List.setIfInBounds_toArray, List.set_cons_zero, List.set_cons_succ]
      clear a3
      refine wpAnyH_ready (rs := [3]) (by kernel_rfl) (by simp) ?_
      refine AllReadyH.cons (o := ⟨_, _, _, _, _, _⟩) rfl (fun K hK => ?_) AllReadyH.nil
      have hOF := HO.out _ G2.out
      have SF := src_ownP hOF
      obtain ⟨v1, y3, hrun, hown, hgrow, _, hat⟩ := run_append_src Try.prog y2 u0.heap.size 28 28 35 i0 (.agg #[.int .i64 0, .int .i64 0]) 2 16 Try.underlying28 I0.out I1.out I2.out I3.out rfl (by decide) _ _ _ hO0.out _ _ _ SF (by unfold maxLen; omega) (by omega) G2.out.size
      have G3 : Hid (u0.grownBy y3 none) := Lib.hid (grown_row G2.out hO0.out (Nat.le_refl _) hgrow)
      have hO1 : Hid (y3.ownsRow u0.heap.size 35 2 v1 F.length (cellsP F)) := Lib.hid (by simpa [cellsP] using hown)
      replace e0 := hgrow.cell e0 (by intro e; injection e with e; exact hpb e)
      replace e1 := hgrow.cell e1 (by intro e; injection e with e; exact hpb e)
      refine step_append_run rfl _ _ _ rfl _ _ v1 y3 rfl rfl hrun ?_
      clear hrun hown hgrow hat hOF SF hO0
      obtain ⟨⟨_, _, _, c3, c4, c5⟩, _, _⟩ := HC.out _ G3.out
      refine hK.out _ _ ⟨c4, c5⟩ (fun hHeld => ?_)
      clear hK K c3 c4 c5
      try simp only [Act.put, List.setIfInBounds_toArray, List.set_cons_zero, List.set_cons_succ]
      clear G2
      refine wpAnyH_ready (rs := [6]) (by kernel_rfl) (by simp) ?_
      refine AllReadyH.cons (o := ⟨_, _, _, _, _, _⟩) rfl (fun K hK => ?_) AllReadyH.nil
      obtain ⟨v2, y6, hrun, hown, hgrow, _, hat⟩ := run_append_src Try.prog y3 u0.heap.size 28 28 35 i0 (.agg #[.int .i64 0, .int .i64 0]) 2 16 Try.underlying28 I0.out I1.out I2.out I3.out rfl (by decide) _ _ _ hO1.out _ _ _ (src_pair e0 e1) (by unfold maxLen; omega) (by omega) G3.out.size
      have G6 : Hid (u0.grownBy y6 none) := Lib.hid (grown_row G3.out hO1.out (Nat.le_refl _) hgrow)
      rw [cellsP_add] at hown
      obtain ⟨sv, cv, hv2, _, _⟩ := own_formP hown
      subst hv2
      have hO2 := Lib.hid hown
      refine step_append_run rfl _ _ _ rfl _ _ _ y6 rfl rfl hrun ?_
      clear hrun hown hgrow hat hO1 e0 e1
      obtain ⟨⟨_, _, _, c3, c4, c5⟩, _, _⟩ := HC.out _ G6.out
      refine hK.out _ _ ⟨c4, c5⟩ (fun hHeld => ?_)
      clear hK K c3 c4 c5
      try simp only [Act.put, List.setIfInBounds_toArray, List.set_cons_zero, List.set_cons_succ]
      clear G3
      refine wpAnyH_take (i := 7) (oi := ⟨_, _, _, _, _, _⟩) (v := ?_) rfl (by kernel_rfl) (by kernel_rfl) (by kernel_rfl) (fun _ _ _ h => h) (Or.inl ⟨by rfl, ?_⟩) (by assumption) ?_
      rotate_left
      · intro wz hSw
        try dsimp only at hSw
        go_simp
        try with_reducible rfl
      simp only [Act.put, List.setIfInBounds_toArray, List.set_cons_zero, List.set_cons_succ]
      refine wpAnyH_ready (rs := [8]) (by kernel_rfl) (by simp) ?_
      refine AllReadyH.cons (o := ⟨_, _, _, _, _, _⟩) rfl (fun K hK => ?_) AllReadyH.nil
      obtain ⟨⟨a0, a1, a2, a3, c4, c5⟩, ⟨r0, r1, r2, r3⟩, f0, f1, f2, f3, f4⟩ := HC.out _ G6.out
      have GW := Lib.hid (K0.out.trans G6.out)
      go_simp
      have far : ∀ (b o : Nat), b ≠ w.heap.size → (y6.setCell ⟨w.heap.size, 3, none⟩ (.slice sv (F.length + 1) cv)).cell? ⟨b, o, none⟩ = y6.cell? ⟨b, o, none⟩ := fun b o hb => World.cell?_setCell_far _ ⟨w.heap.size, 3, none⟩ ⟨b, o, none⟩ _ (by show w.heap.size ≠ b; omega)
      have oth : ∀ o, o ≠ 3 → (y6.setCell ⟨w.heap.size, 3, none⟩ (.slice sv (F.length + 1) cv)).cell? ⟨w.heap.size, o, none⟩ = y6.cell? ⟨w.heap.size, o, none⟩ := fun o ho => World.cell?_setCell_other _ ⟨w.heap.size, 3, none⟩ ⟨w.heap.size, o, none⟩ _ (by simp; try omega)
      have p3 : (y6.setCell ⟨w.heap.size, 3, none⟩ (.slice sv (F.length + 1) cv)).cell? ⟨w.heap.size, 3, none⟩ = some (.slice sv (F.length + 1) cv) := World.cell?_setCell_same _ _ _ a3
      have p0 := (oth 0 (by decide)).trans a0
      have p1 := (oth 1 (by decide)).trans a1
      have p2 := (oth 2 (by decide)).trans a2
      have p4 := (far (w.heap.size + 1) 0 (by omega)).trans c4
      have p5 := (far (w.heap.size + 1) 1 (by omega)).trans c5
      have s0 := (far (w.heap.size + 2) 0 (by omega)).trans r0
      have s1 := (far (w.heap.size + 2) 1 (by omega)).trans r1
      have s2 := (far (w.heap.size + 2) 2 (by omega)).trans r2
      have s3 := (far (w.heap.size + 2) 3 (by omega)).trans r3
      have ff : ∀ o, (y6.setCell ⟨w.heap.size, 3, none⟩ (.slice sv (F.length + 1) cv)).frozen? ⟨w.heap.size + 2, o, none⟩ = y6.frozen? ⟨w.heap.size + 2, o, none⟩ := fun o => World.frozen?_setCell ..
      rw [← ff 0] at f0
      rw [← ff 1] at f1
      rw [← ff 2] at f2
      rw [← ff 3] at f3
      have GV : Hid (w.grownBy (y6.setCell ⟨w.heap.size, 3, none⟩ (.slice sv (F.length + 1) cv)) none) := Lib.hid (grown_above GW.out (Nat.le_refl _) 3 _)
      have hO3 : Hid ((y6.setCell ⟨w.heap.size, 3, none⟩ (.slice sv (F.length + 1) cv)).ownsRow w.heap.size 35 2 (.slice sv (F.length + 1) cv) (F.length + 1) (cellsP (F ++ [(k, i)]))) := Lib.hid (own_mono (own_only2P hO2.out (Only.set (lo := w.heap.size) (hi := w.heap.size + 1) y6 ⟨w.heap.size, 3, none⟩ _ (Nat.le_refl _) (Nat.lt_succ_self _)) (by have := hus.out; omega)) (by have := hus.out; omega))
      have hne : Hid (∀ g, (Value.slice sv (F.length + 1) cv).ownBlock = some g → g ≠ w.heap.size + 2) := Lib.hid (fun g hg => by have := (hO2.out.lt g hg).1; have := hus.out; omega)
      refine hK.out _ _ ⟨p4, p5⟩ (fun hHeld => ?_)
      clear hK K far oth ff a0 a1 a2 a3 c4 c5 r0 r1 r2 r3 f4 hO2 GW G6 HC HO
      try simp only [Act.put, List.setIfInBounds_toArray, List.set_cons_zero, List.set_cons_succ]
      generalize y6.setCell ⟨w.heap.size, 3, none⟩ (.slice sv (F.length + 1) cv) = y7 at *
      refine wpAnyH_done (by kernel_rfl) ?_ _
      go_wp2
      obtain ⟨x0, x1, x2, x3⟩ := set4 (.int .i64 T) (.int .i64 D) (.int .i64 M) (.slice sv (F.length + 1) cv) s0 s1 s2 s3
      refine bodyPost_ret (v := .tuple #[.agg #[.int .i64 T, .int .i64 D, .int .i64 M, .slice sv (F.length + 1) cv], .bool true]) (by simp [results, Try.results8, go_sem, x0, x1, x2, x3]) rfl ⟨⟨_, rfl, ?_⟩, grown_above (grown_above (grown_above (grown_above GV.out (by omega) 0 _) (by omega) 1 _) (by omega) 2 _) (by omega) 3 _⟩
      rw [show (F ++ [(k, i)]).length = F.length + 1 by simp]
      have e : ∀ (z : World) (o : Nat) (u : Value), z.ownsRow w.heap.size 35 2 (.slice sv (F.length + 1) cv) (F.length + 1) (cellsP (F ++ [(k, i)])) → (∀ g, (Value.slice sv (F.length + 1) cv).ownBlock = some g → g ≠ w.heap.size + 2) → (z.setCell ⟨w.heap.size + 2, o, none⟩ u).ownsRow w.heap.size 35 2 (.slice sv (F.length + 1) cv) (F.length + 1) (cellsP (F ++ [(k, i)])) := fun z o u hz hg => own_blkP hz fun g hb => Below.heap_setCell z ⟨w.heap.size + 2, o, none⟩ u g (by show g ≠ w.heap.size + 2; exact hg g hb)
      exact e _ _ _ (e _ _ _ (e _ _ _ (e _ _ _ hO3.out hne.out) hne.out) hne.out) hne.out
  · skip
    obtain ⟨⟨_, _, _, a3, _, _⟩, _, _⟩ := HC.out _ GD.out
    go_simp
    obtain ⟨⟨_, _, _, c3, c4, c5⟩, _, _⟩ := HC.out _ GD.out
    refine hK.out _ _ ⟨c4, c5⟩ (fun hHeld => ?_)
    clear hK K c3 c4 c5
    try simp only [Act.put, List.setIfInBounds_toArray, List.set_cons_zero, List.set_cons_succ]
    clear a3
    refine wpAnyH_ready (rs := [0, 5]) (by kernel_rfl) (by simp) ?_
    refine AllReadyH.cons (o := ⟨_, _, _, _, _, _⟩) rfl (fun K hK => ?_) (AllReadyH.cons (o := ⟨_, _, _, _, _, _⟩) rfl (fun K hK => ?_) AllReadyH.nil)
    · skip
      go_simp
      have hO0 := Lib.hid (litR u u0.heap.size GD.out.size)
      have G1 : Hid (u0.grownBy (u.alloc (.cells #[] 35)) none) := Lib.hid (ga _ GD.out)
      obtain ⟨zb, hzb⟩ : ∃ zb, u.heap.size = zb := ⟨_, rfl⟩
      have hzs : zb < (u.alloc (.cells #[] 35)).heap.size := by rw [World.size_alloc]; omega
      obtain ⟨⟨_, _, _, c3, c4, c5⟩, _, _⟩ := HC.out _ G1.out
      refine hK.out _ _ ⟨c4, c5⟩ (fun hHeld => ?_)
      clear hK K c3 c4 c5
      try simp only [Act.put, List.setIfInBounds_toArray, List.set_cons_zero, List.set_cons_succ]
      rw [hzb] at hO0 ⊢
      clear hzb
      generalize u.alloc (.cells #[] 35) = y1 at *
      clear GD
      refine wpAnyH_ready (rs := [3, 5]) (by kernel_rfl) (by simp) ?_
      refine AllReadyH.cons (o := ⟨_, _, _, _, _, _⟩) rfl (fun K hK => ?_) (AllReadyH.cons (o := ⟨_, _, _, _, _, _⟩) rfl (fun K hK => ?_) AllReadyH.nil)
      · skip
        have hOF := HO.out _ G1.out
        have SF := src_ownP hOF
        obtain ⟨v1, y2, hrun, hown, hgrow, _, hat⟩ := run_append_src Try.prog y1 u0.heap.size 28 28 35 i0 (.agg #[.int .i64 0, .int .i64 0]) 2 16 Try.underlying28 I0.out I1.out I2.out I3.out rfl (by decide) _ _ _ hO0.out _ _ _ SF (by unfold maxLen; omega) (by omega) G1.out.size
        have G2 : Hid (u0.grownBy y2 none) := Lib.hid (grown_row G1.out hO0.out (Nat.le_refl _) hgrow)
        have hO1 : Hid (y2.ownsRow u0.heap.size 35 2 v1 F.length (cellsP F)) := Lib.hid (by simpa [cellsP] using hown)
        refine step_append_run rfl _ _ _ rfl _ _ v1 y2 rfl rfl hrun ?_
        clear hrun hown hgrow hat hOF SF hO0
        obtain ⟨⟨_, _, _, c3, c4, c5⟩, _, _⟩ := HC.out _ G2.out
        refine hK.out _ _ ⟨c4, c5⟩ (fun hHeld => ?_)
        clear hK K c3 c4 c5
        try simp only [Act.put, List.setIfInBounds_toArray, List.set_cons_zero, List.set_cons_succ]
        clear G1
        refine wpAnyH_ready (rs := [5]) (by kernel_rfl) (by simp) ?_
        refine AllReadyH.cons (o := ⟨_, _, _, _, _, _⟩) rfl (fun K hK => ?_) AllReadyH.nil
        go_simp
        obtain ⟨⟨e0, e1⟩, _⟩ := box2 y2 (.int .i64 k) (.int .i64 i) 35 0
        have e0 : (y2.alloc (.cells #[.int .i64 k, .int .i64 i] 35)).cell? ⟨y2.heap.size, 0, none⟩ = some (.int .i64 k) := e0
        have e1 : (y2.alloc (.cells #[.int .i64 k, .int .i64 i] 35)).cell? ⟨y2.heap.size, 1, none⟩ = some (.int .i64 i) := e1
        have hps : y2.heap.size < (y2.alloc (.cells #[.int .i64 k, .int .i64 i] 35)).heap.size := by rw [World.size_alloc]; omega
        have G3 : Hid (u0.grownBy (y2.alloc (.cells #[.int .i64 k, .int .i64 i] 35)) none) := Lib.hid (ga _ G2.out)
        replace hO1 := Lib.hid (own_keepP hO1.out (World.grownBy_alloc y2 (.cells #[.int .i64 k, .int .i64 i] 35) none))
        obtain ⟨⟨_, _, _, c3, c4, c5⟩, _, _⟩ := HC.out _ G3.out
        refine hK.out _ _ ⟨c4, c5⟩ (fun hHeld => ?_)
        clear hK K c3 c4 c5
        try simp only [Act.put, List.setIfInBounds_toArray, List.set_cons_zero, List.set_cons_succ]
        generalize y2.heap.size = pb at *
        generalize y2.alloc (.cells #[.int .i64 k, .int .i64 i] 35) = y3 at *
        clear G2
        refine wpAnyH_ready (rs := [6]) (by kernel_rfl) (by simp) ?_
        refine AllReadyH.cons (o := ⟨_, _, _, _, _, _⟩) rfl (fun K hK => ?_) AllReadyH.nil
        obtain ⟨v2, y6, hrun, hown, hgrow, _, hat⟩ := run_append_src Try.prog y3 u0.heap.size 28 28 35 i0 (.agg #[.int .i64 0, .int .i64 0]) 2 16 Try.underlying28 I0.out I1.out I2.out I3.out rfl (by decide) _ _ _ hO1.out _ _ _ (src_pair e0 e1) (by unfold maxLen; omega) (by omega) G3.out.size
        have G6 : Hid (u0.grownBy y6 none) := Lib.hid (grown_row G3.out hO1.out (Nat.le_refl _) hgrow)
        rw [cellsP_add] at hown
        obtain ⟨sv, cv, hv2, _, _⟩ := own_formP hown
        subst hv2
        have hO2 := Lib.hid hown
        refine step_append_run rfl _ _ _ rfl _ _ _ y6 rfl rfl hrun ?_
        clear hrun hown hgrow hat hO1 e0 e1
        obtain ⟨⟨_, _, _, c3, c4, c5⟩, _, _⟩ := HC.out _ G6.out
        refine hK.out _ _ ⟨c4, c5⟩ (fun hHeld => ?_)
        clear hK K c3 c4 c5
        try simp only [Act.put, List.setIfInBounds_toArray, List.set_cons_zero, List.set_cons_succ]
        clear G3
        refine wpAnyH_take (i := 7) (oi := ⟨_, _, _, _, _, _⟩) (v := ?_) rfl (by kernel_rfl) (by kernel_rfl) (by kernel_rfl) (fun _ _ _ h => h) (Or.inl ⟨by rfl, ?_⟩) (by assumption) ?_
        rotate_left
        · intro wz hSw
          try dsimp only at hSw
          go_simp
          try with_reducible rfl
        simp only [Act.put, List.setIfInBounds_toArray, List.set_cons_zero, List.set_cons_succ]
        refine wpAnyH_ready (rs := [8]) (by kernel_rfl) (by simp) ?_
        refine AllReadyH.cons (o := ⟨_, _, _, _, _, _⟩) rfl (fun K hK => ?_) AllReadyH.nil
        obtain ⟨⟨a0, a1, a2, a3, c4, c5⟩, ⟨r0, r1, r2, r3⟩, f0, f1, f2, f3, f4⟩ := HC.out _ G6.out
        have GW := Lib.hid (K0.out.trans G6.out)
        go_simp
        have far : ∀ (b o : Nat), b ≠ w.heap.size → (y6.setCell ⟨w.heap.size, 3, none⟩ (.slice sv (F.length + 1) cv)).cell? ⟨b, o, none⟩ = y6.cell? ⟨b, o, none⟩ := fun b o hb => World.cell?_setCell_far _ ⟨w.heap.size, 3, none⟩ ⟨b, o, none⟩ _ (by show w.heap.size ≠ b; omega)
        have oth : ∀ o, o ≠ 3 → (y6.setCell ⟨w.heap.size, 3, none⟩ (.slice sv (F.length + 1) cv)).cell? ⟨w.heap.size, o, none⟩ = y6.cell? ⟨w.heap.size, o, none⟩ := fun o ho => World.cell?_setCell_other _ ⟨w.heap.size, 3, none⟩ ⟨w.heap.size, o, none⟩ _ (by simp; try omega)
        have p3 : (y6.setCell ⟨w.heap.size, 3, none⟩ (.slice sv (F.length + 1) cv)).cell? ⟨w.heap.size, 3, none⟩ = some (.slice sv (F.length + 1) cv) := World.cell?_setCell_same _ _ _ a3
        have p0 := (oth 0 (by decide)).trans a0
        have p1 := (oth 1 (by decide)).trans a1
        have p2 := (oth 2 (by decide)).trans a2
        have p4 := (far (w.heap.size + 1) 0 (by omega)).trans c4
        have p5 := (far (w.heap.size + 1) 1 (by omega)).trans c5
        have s0 := (far (w.heap.size + 2) 0 (by omega)).trans r0
        have s1 := (far (w.heap.size + 2) 1 (by omega)).trans r1
        have s2 := (far (w.heap.size + 2) 2 (by omega)).trans r2
        have s3 := (far (w.heap.size + 2) 3 (by omega)).trans r3
        have ff : ∀ o, (y6.setCell ⟨w.heap.size, 3, none⟩ (.slice sv (F.length + 1) cv)).frozen? ⟨w.heap.size + 2, o, none⟩ = y6.frozen? ⟨w.heap.size + 2, o, none⟩ := fun o => World.frozen?_setCell ..
        rw [← ff 0] at f0
        rw [← ff 1] at f1
        rw [← ff 2] at f2
        rw [← ff 3] at f3
        have GV : Hid (w.grownBy (y6.setCell ⟨w.heap.size, 3, none⟩ (.slice sv (F.length + 1) cv)) none) := Lib.hid (grown_above GW.out (Nat.le_refl _) 3 _)
        have hO3 : Hid ((y6.setCell ⟨w.heap.size, 3, none⟩ (.slice sv (F.length + 1) cv)).ownsRow w.heap.size 35 2 (.slice sv (F.length + 1) cv) (F.length + 1) (cellsP (F ++ [(k, i)]))) := Lib.hid (own_mono (own_only2P hO2.out (Only.set (lo := w.heap.size) (hi := w.heap.size + 1) y6 ⟨w.heap.size, 3, none⟩ _ (Nat.le_refl _) (Nat.lt_succ_self _)) (by have := hus.out; omega)) (by have := hus.out; omega))
        have hne : Hid (∀ g, (Value.slice sv (F.length + 1) cv).ownBlock = some g → g ≠ w.heap.size + 2) := Lib.hid (fun g hg => by have := (hO2.out.lt g hg).1; have := hus.out; omega)
        refine hK.out _ _ ⟨p4, p5⟩ (fun hHeld => ?_)
        clear hK K far oth ff a0 a1 a2 a3 c4 c5 r0 r1 r2 r3 f4 hO2 GW G6 HC HO
        try simp only [Act.put, List.setIfInBounds_toArray, List.set_cons_zero, List.set_cons_succ]
        generalize y6.setCell ⟨w.heap.size, 3, none⟩ (.slice sv (F.length + 1) cv) = y7 at *
        refine wpAnyH_done (by kernel_rfl) ?_ _
        go_wp2
        obtain ⟨x0, x1, x2, x3⟩ := set4 (.int .i64 T) (.int .i64 D) (.int .i64 M) (.slice sv (F.length + 1) cv) s0 s1 s2 s3
        refine bodyPost_ret (v := .tuple #[.agg #[.int .i64 T, .int .i64 D, .int .i64 M, .slice sv (F.length + 1) cv], .bool true]) (by simp [results, Try.results8, go_sem, x0, x1, x2, x3]) rfl ⟨⟨_, rfl, ?_⟩, grown_above (grown_above (grown_above (grown_above GV.out (by omega) 0 _) (by omega) 1 _) (by omega) 2 _) (by omega) 3 _⟩
        rw [show (F ++ [(k, i)]).length = F.length + 1 by simp]
        have e : ∀ (z : World) (o : Nat) (u : Value), z.ownsRow w.heap.size 35 2 (.slice sv (F.length + 1) cv) (F.length + 1) (cellsP (F ++ [(k, i)])) → (∀ g, (Value.slice sv (F.length + 1) cv).ownBlock = some g → g ≠ w.heap.size + 2) → (z.setCell ⟨w.heap.size + 2, o, none⟩ u).ownsRow w.heap.size 35 2 (.slice sv (F.length + 1) cv) (F.length + 1) (cellsP (F ++ [(k, i)])) := fun z o u hz hg => own_blkP hz fun g hb => Below.heap_setCell z ⟨w.heap.size + 2, o, none⟩ u g (by show g ≠ w.heap.size + 2; exact hg g hb)
        exact e _ _ _ (e _ _ _ (e _ _ _ (e _ _ _ hO3.out hne.out) hne.out) hne.out) hne.out
      · skip
        go_simp
        obtain ⟨⟨e0, e1⟩, _⟩ := box2 y1 (.int .i64 k) (.int .i64 i) 35 0
        have e0 : (y1.alloc (.cells #[.int .i64 k, .int .i64 i] 35)).cell? ⟨y1.heap.size, 0, none⟩ = some (.int .i64 k) := e0
        have e1 : (y1.alloc (.cells #[.int .i64 k, .int .i64 i] 35)).cell? ⟨y1.heap.size, 1, none⟩ = some (.int .i64 i) := e1
        have hps : y1.heap.size < (y1.alloc (.cells #[.int .i64 k, .int .i64 i] 35)).heap.size := by rw [World.size_alloc]; omega
        have G2 : Hid (u0.grownBy (y1.alloc (.cells #[.int .i64 k, .int .i64 i] 35)) none) := Lib.hid (ga _ G1.out)
        replace hO0 := Lib.hid (own_keepP hO0.out (World.grownBy_alloc y1 (.cells #[.int .i64 k, .int .i64 i] 35) none))
        have hpb : y1.heap.size ≠ zb := by omega
        obtain ⟨⟨_, _, _, c3, c4, c5⟩, _, _⟩ := HC.out _ G2.out
        refine hK.out _ _ ⟨c4, c5⟩ (fun hHeld => ?_)
        clear hK K c3 c4 c5
        try simp only [Act.put, List.setIfInBounds_toArray, List.set_cons_zero, List.set_cons_succ]
        generalize y1.heap.size = pb at *
        generalize y1.alloc (.cells #[.int .i64 k, .int .i64 i] 35) = y2 at *
        clear G1
        refine wpAnyH_ready (rs := [3]) (by kernel_rfl) (by simp) ?_
        refine AllReadyH.cons (o := ⟨_, _, _, _, _, _⟩) rfl (fun K hK => ?_) AllReadyH.nil
        have hOF := HO.out _ G2.out
        have SF := src_ownP hOF
        obtain ⟨v1, y3, hrun, hown, hgrow, _, hat⟩ := run_append_src Try.prog y2 u0.heap.size 28 28 35 i0 (.agg #[.int .i64 0, .int .i64 0]) 2 16 Try.underlying28 I0.out I1.out I2.out I3.out rfl (by decide) _ _ _ hO0.out _ _ _ SF (by unfold maxLen; omega) (by omega) G2.out.size
        have G3 : Hid (u0.grownBy y3 none) := Lib.hid (grown_row G2.out hO0.out (Nat.le_refl _) hgrow)
        have hO1 : Hid (y3.ownsRow u0.heap.size 35 2 v1 F.length (cellsP F)) := Lib.hid (by simpa [cellsP] using hown)
        replace e0 := hgrow.cell e0 (by intro e; injection e with e; exact hpb e)
        replace e1 := hgrow.cell e1 (by intro e; injection e with e; exact hpb e)
        refine step_append_run rfl _ _ _ rfl _ _ v1 y3 rfl rfl hrun ?_
        clear hrun hown hgrow hat hOF SF hO0
        obtain ⟨⟨_, _, _, c3, c4, c5⟩, _, _⟩ := HC.out _ G3.out
        refine hK.out _ _ ⟨c4, c5⟩ (fun hHeld => ?_)
        clear hK K c3 c4 c5
        try simp only [Act.put, List.setIfInBounds_toArray, List.set_cons_zero, List.set_cons_succ]
        clear G2
        refine wpAnyH_ready (rs := [6]) (by kernel_rfl) (by simp) ?_
        refine AllReadyH.cons (o := ⟨_, _, _, _, _, _⟩) rfl (fun K hK => ?_) AllReadyH.nil
        obtain ⟨v2, y6, hrun, hown, hgrow, _, hat⟩ := run_append_src Try.prog y3 u0.heap.size 28 28 35 i0 (.agg #[.int .i64 0, .int .i64 0]) 2 16 Try.underlying28 I0.out I1.out I2.out I3.out rfl (by decide) _ _ _ hO1.out _ _ _ (src_pair e0 e1) (by unfold maxLen; omega) (by omega) G3.out.size
        have G6 : Hid (u0.grownBy y6 none) := Lib.hid (grown_row G3.out hO1.out (Nat.le_refl _) hgrow)
        rw [cellsP_add] at hown
        obtain ⟨sv, cv, hv2, _, _⟩ := own_formP hown
        subst hv2
        have hO2 := Lib.hid hown
        refine step_append_run rfl _ _ _ rfl _ _ _ y6 rfl rfl hrun ?_
        clear hrun hown hgrow hat hO1 e0 e1
        obtain ⟨⟨_, _, _, c3, c4, c5⟩, _, _⟩ := HC.out _ G6.out
        refine hK.out _ _ ⟨c4, c5⟩ (fun hHeld => ?_)
        clear hK K c3 c4 c5
        try simp only [Act.put, List.setIfInBounds_toArray, List.set_cons_zero, List.set_cons_succ]
        clear G3
        refine wpAnyH_take (i := 7) (oi := ⟨_, _, _, _, _, _⟩) (v := ?_) rfl (by kernel_rfl) (by kernel_rfl) (by kernel_rfl) (fun _ _ _ h => h) (Or.inl ⟨by rfl, ?_⟩) (by assumption) ?_
        rotate_left
        · intro wz hSw
          try dsimp only at hSw
          go_simp
          try with_reducible rfl
        simp only [Act.put, List.setIfInBounds_toArray, List.set_cons_zero, List.set_cons_succ]
        refine wpAnyH_ready (rs := [8]) (by kernel_rfl) (by simp) ?_
        refine AllReadyH.cons (o := ⟨_, _, _, _, _, _⟩) rfl (fun K hK => ?_) AllReadyH.nil
        obtain ⟨⟨a0, a1, a2, a3, c4, c5⟩, ⟨r0, r1, r2, r3⟩, f0, f1, f2, f3, f4⟩ := HC.out _ G6.out
        have GW := Lib.hid (K0.out.trans G6.out)
        go_simp
        have far : ∀ (b o : Nat), b ≠ w.heap.size → (y6.setCell ⟨w.heap.size, 3, none⟩ (.slice sv (F.length + 1) cv)).cell? ⟨b, o, none⟩ = y6.cell? ⟨b, o, none⟩ := fun b o hb => World.cell?_setCell_far _ ⟨w.heap.size, 3, none⟩ ⟨b, o, none⟩ _ (by show w.heap.size ≠ b; omega)
        have oth : ∀ o, o ≠ 3 → (y6.setCell ⟨w.heap.size, 3, none⟩ (.slice sv (F.length + 1) cv)).cell? ⟨w.heap.size, o, none⟩ = y6.cell? ⟨w.heap.size, o, none⟩ := fun o ho => World.cell?_setCell_other _ ⟨w.heap.size, 3, none⟩ ⟨w.heap.size, o, none⟩ _ (by simp; try omega)
        have p3 : (y6.setCell ⟨w.heap.size, 3, none⟩ (.slice sv (F.length + 1) cv)).cell? ⟨w.heap.size, 3, none⟩ = some (.slice sv (F.length + 1) cv) := World.cell?_setCell_same _ _ _ a3
        have p0 := (oth 0 (by decide)).trans a0
        have p1 := (oth 1 (by decide)).trans a1
        have p2 := (oth 2 (by decide)).trans a2
        have p4 := (far (w.heap.size + 1) 0 (by omega)).trans c4
        have p5 := (far (w.heap.size + 1) 1 (by omega)).trans c5
        have s0 := (far (w.heap.size + 2) 0 (by omega)).trans r0
        have s1 := (far (w.heap.size + 2) 1 (by omega)).trans r1
        have s2 := (far (w.heap.size + 2) 2 (by omega)).trans r2
        have s3 := (far (w.heap.size + 2) 3 (by omega)).trans r3
        have ff : ∀ o, (y6.setCell ⟨w.heap.size, 3, none⟩ (.slice sv (F.length + 1) cv)).frozen? ⟨w.heap.size + 2, o, none⟩ = y6.frozen? ⟨w.heap.size + 2, o, none⟩ := fun o => World.frozen?_setCell ..
        rw [← ff 0] at f0
        rw [← ff 1] at f1
        rw [← ff 2] at f2
        rw [← ff 3] at f3
        have GV : Hid (w.grownBy (y6.setCell ⟨w.heap.size, 3, none⟩ (.slice sv (F.length + 1) cv)) none) := Lib.hid (grown_above GW.out (Nat.le_refl _) 3 _)
        have hO3 : Hid ((y6.setCell ⟨w.heap.size, 3, none⟩ (.slice sv (F.length + 1) cv)).ownsRow w.heap.size 35 2 (.slice sv (F.length + 1) cv) (F.length + 1) (cellsP (F ++ [(k, i)]))) := Lib.hid (own_mono (own_only2P hO2.out (Only.set (lo := w.heap.size) (hi := w.heap.size + 1) y6 ⟨w.heap.size, 3, none⟩ _ (Nat.le_refl _) (Nat.lt_succ_self _)) (by have := hus.out; omega)) (by have := hus.out; omega))
        have hne : Hid (∀ g, (Value.slice sv (F.length + 1) cv).ownBlock = some g → g ≠ w.heap.size + 2) := Lib.hid (fun g hg => by have := (hO2.out.lt g hg).1; have := hus.out; omega)
        refine hK.out _ _ ⟨p4, p5⟩ (fun hHeld => ?_)
        clear hK K far oth ff a0 a1 a2 a3 c4 c5 r0 r1 r2 r3 f4 hO2 GW G6 HC HO
        try simp only [Act.put, List.setIfInBounds_toArray, List.set_cons_zero, List.set_cons_succ]
        generalize y6.setCell ⟨w.heap.size, 3, none⟩ (.slice sv (F.length + 1) cv) = y7 at *
        refine wpAnyH_done (by kernel_rfl) ?_ _
        go_wp2
        obtain ⟨x0, x1, x2, x3⟩ := set4 (.int .i64 T) (.int .i64 D) (.int .i64 M) (.slice sv (F.length + 1) cv) s0 s1 s2 s3
        refine bodyPost_ret (v := .tuple #[.agg #[.int .i64 T, .int .i64 D, .int .i64 M, .slice sv (F.length + 1) cv], .bool true]) (by simp [results, Try.results8, go_sem, x0, x1, x2, x3]) rfl ⟨⟨_, rfl, ?_⟩, grown_above (grown_above (grown_above (grown_above GV.out (by omega) 0 _) (by omega) 1 _) (by omega) 2 _) (by omega) 3 _⟩
        rw [show (F ++ [(k, i)]).length = F.length + 1 by simp]
        have e : ∀ (z : World) (o : Nat) (u : Value), z.ownsRow w.heap.size 35 2 (.slice sv (F.length + 1) cv) (F.length + 1) (cellsP (F ++ [(k, i)])) → (∀ g, (Value.slice sv (F.length + 1) cv).ownBlock = some g → g ≠ w.heap.size + 2) → (z.setCell ⟨w.heap.size + 2, o, none⟩ u).ownsRow w.heap.size 35 2 (.slice sv (F.length + 1) cv) (F.length + 1) (cellsP (F ++ [(k, i)])) := fun z o u hz hg => own_blkP hz fun g hb => Below.heap_setCell z ⟨w.heap.size + 2, o, none⟩ u g (by show g ≠ w.heap.size + 2; exact hg g hb)
        exact e _ _ _ (e _ _ _ (e _ _ _ (e _ _ _ hO3.out hne.out) hne.out) hne.out) hne.out
    · skip
      go_simp
      obtain ⟨⟨e0, e1⟩, _⟩ := box2 u (.int .i64 k) (.int .i64 i) 35 0
      have e0 : (u.alloc (.cells #[.int .i64 k, .int .i64 i] 35)).cell? ⟨u.heap.size, 0, none⟩ = some (.int .i64 k) := e0
      have e1 : (u.alloc (.cells #[.int .i64 k, .int .i64 i] 35)).cell? ⟨u.heap.size, 1, none⟩ = some (.int .i64 i) := e1
      have hps : u.heap.size < (u.alloc (.cells #[.int .i64 k, .int .i64 i] 35)).heap.size := by rw [World.size_alloc]; omega
      have G1 : Hid (u0.grownBy (u.alloc (.cells #[.int .i64 k, .int .i64 i] 35)) none) := Lib.hid (ga _ GD.out)
      obtain ⟨⟨_, _, _, c3, c4, c5⟩, _, _⟩ := HC.out _ G1.out
      refine hK.out _ _ ⟨c4, c5⟩ (fun hHeld => ?_)
      clear hK K c3 c4 c5
      try simp only [Act.put, List.setIfInBounds_toArray, List.set_cons_zero, List.set_cons_succ]
      generalize u.heap.size = pb at *
      generalize u.alloc (.cells #[.int .i64 k, .int .i64 i] 35) = y1 at *
      clear GD
      refine wpAnyH_ready (rs := [0]) (by kernel_rfl) (by simp) ?_
      refine AllReadyH.cons (o := ⟨_, _, _, _, _, _⟩) rfl (fun K hK => ?_) AllReadyH.nil
      go_simp
      have hO0 := Lib.hid (litR y1 u0.heap.size G1.out.size)
      have G2 : Hid (u0.grownBy (y1.alloc (.cells #[] 35)) none) := Lib.hid (ga _ G1.out)
      obtain ⟨zb, hzb⟩ : ∃ zb, y1.heap.size = zb := ⟨_, rfl⟩
      have hzs : zb < (y1.alloc (.cells #[] 35)).heap.size := by rw [World.size_alloc]; omega
      replace e0 := (World.grownBy_alloc y1 (.cells #[] 35) none).cell e0 (by simp)
      replace e1 := (World.grownBy_alloc y1 (.cells #[] 35) none).cell e1 (by simp)
      have hpb : pb ≠ zb := by omega
      obtain ⟨⟨_, _, _, c3, c4, c5⟩, _, _⟩ := HC.out _ G2.out
      refine hK.out _ _ ⟨c4, c5⟩ (fun hHeld => ?_)
      clear hK K c3 c4 c5
      try simp only [Act.put, List.setIfInBounds_toArray, List.set_cons_zero, List.set_cons_succ]
      rw [hzb] at hO0 ⊢
      clear hzb
      generalize y1.alloc (.cells #[] 35) = y2 at *
      clear G1
      refine wpAnyH_ready (rs := [3]) (by kernel_rfl) (by simp) ?_
      refine AllReadyH.cons (o := ⟨_, _, _, _, _, _⟩) rfl (fun K hK => ?_) AllReadyH.nil
      have hOF := HO.out _ G2.out
      have SF := src_ownP hOF
      obtain ⟨v1, y3, hrun, hown, hgrow, _, hat⟩ := run_append_src Try.prog y2 u0.heap.size 28 28 35 i0 (.agg #[.int .i64 0, .int .i64 0]) 2 16 Try.underlying28 I0.out I1.out I2.out I3.out rfl (by decide) _ _ _ hO0.out _ _ _ SF (by unfold maxLen; omega) (by omega) G2.out.size
      have G3 : Hid (u0.grownBy y3 none) := Lib.hid (grown_row G2.out hO0.out (Nat.le_refl _) hgrow)
      have hO1 : Hid (y3.ownsRow u0.heap.size 35 2 v1 F.length (cellsP F)) := Lib.hid (by simpa [cellsP] using hown)
      replace e0 := hgrow.cell e0 (by intro e; injection e with e; exact hpb e)
      replace e1 := hgrow.cell e1 (by intro e; injection e with e; exact hpb e)
      refine step_append_run rfl _ _ _ rfl _ _ v1 y3 rfl rfl hrun ?_
      clear hrun hown hgrow hat hOF SF hO0
      obtain ⟨⟨_, _, _, c3, c4, c5⟩, _, _⟩ := HC.out _ G3.out
      refine hK.out _ _ ⟨c4, c5⟩ (fun hHeld => ?_)
      clear hK K c3 c4 c5
      try simp only [Act.put, List.setIfInBounds_toArray, List.set_cons_zero, List.set_cons_succ]
      clear G2
      refine wpAnyH_ready (rs := [6]) (by kernel_rfl) (by simp) ?_
      refine AllReadyH.cons (o := ⟨_, _, _, _, _, _⟩) rfl (fun K hK => ?_) AllReadyH.nil
      obtain ⟨v2, y6, hrun, hown, hgrow, _, hat⟩ := run_append_src Try.prog y3 u0.heap.size 28 28 35 i0 (.agg #[.int .i64 0, .int .i64 0]) 2 16 Try.underlying28 I0.out I1.out I2.out I3.out rfl (by decide) _ _ _ hO1.out _ _ _ (src_pair e0 e1) (by unfold maxLen; omega) (by omega) G3.out.size
      have G6 : Hid (u0.grownBy y6 none) := Lib.hid (grown_row G3.out hO1.out (Nat.le_refl _) hgrow)
      rw [cellsP_add] at hown
      obtain ⟨sv, cv, hv2, _, _⟩ := own_formP hown
      subst hv2
      have hO2 := Lib.hid hown
      refine step_append_run rfl _ _ _ rfl _ _ _ y6 rfl rfl hrun ?_
      clear hrun hown hgrow hat hO1 e0 e1
      obtain ⟨⟨_, _, _, c3, c4, c5⟩, _, _⟩ := HC.out _ G6.out
      refine hK.out _ _ ⟨c4, c5⟩ (fun hHeld => ?_)
      clear hK K c3 c4 c5
      try simp only [Act.put, List.setIfInBounds_toArray, List.set_cons_zero, List.set_cons_succ]
      clear G3
      refine wpAnyH_take (i := 7) (oi := ⟨_, _, _, _, _, _⟩) (v := ?_) rfl (by kernel_rfl) (by kernel_rfl) (by kernel_rfl) (fun _ _ _ h => h) (Or.inl ⟨by rfl, ?_⟩) (by assumption) ?_
      rotate_left
      · intro wz hSw
        try dsimp only at hSw
        go_simp
        try with_reducible rfl
      simp only [Act.put, List.setIfInBounds_toArray, List.set_cons_zero, List.set_cons_succ]
      refine wpAnyH_ready (rs := [8]) (by kernel_rfl) (by simp) ?_
      refine AllReadyH.cons (o := ⟨_, _, _, _, _, _⟩) rfl (fun K hK => ?_) AllReadyH.nil
      obtain ⟨⟨a0, a1, a2, a3, c4, c5⟩, ⟨r0, r1, r2, r3⟩, f0, f1, f2, f3, f4⟩ := HC.out _ G6.out
      have GW := Lib.hid (K0.out.trans G6.out)
      go_simp
      have far : ∀ (b o : Nat), b ≠ w.heap.size → (y6.setCell ⟨w.heap.size, 3, none⟩ (.slice sv (F.length + 1) cv)).cell? ⟨b, o, none⟩ = y6.cell? ⟨b, o, none⟩ := fun b o hb => World.cell?_setCell_far _ ⟨w.heap.size, 3, none⟩ ⟨b, o, none⟩ _ (by show w.heap.size ≠ b; omega)
      have oth : ∀ o, o ≠ 3 → (y6.setCell ⟨w.heap.size, 3, none⟩ (.slice sv (F.length + 1) cv)).cell? ⟨w.heap.size, o, none⟩ = y6.cell? ⟨w.heap.size, o, none⟩ := fun o ho => World.cell?_setCell_other _ ⟨w.heap.size, 3, none⟩ ⟨w.heap.size, o, none⟩ _ (by simp; try omega)
      have p3 : (y6.setCell ⟨w.heap.size, 3, none⟩ (.slice sv (F.length + 1) cv)).cell? ⟨w.heap.size, 3, none⟩ = some (.slice sv (F.length + 1) cv) := World.cell?_setCell_same _ _ _ a3
      have p0 := (oth 0 (by decide)).trans a0
      have p1 := (oth 1 (by decide)).trans a1
      have p2 := (oth 2 (by decide)).trans a2
      have p4 := (far (w.heap.size + 1) 0 (by omega)).trans c4
      have p5 := (far (w.heap.size + 1) 1 (by omega)).trans c5
      have s0 := (far (w.heap.size + 2) 0 (by omega)).trans r0
      have s1 := (far (w.heap.size + 2) 1 (by omega)).trans r1
      have s2 := (far (w.heap.size + 2) 2 (by omega)).trans r2
      have s3 := (far (w.heap.size + 2) 3 (by omega)).trans r3
      have ff : ∀ o, (y6.setCell ⟨w.heap.size, 3, none⟩ (.slice sv (F.length + 1) cv)).frozen? ⟨w.heap.size + 2, o, none⟩ = y6.frozen? ⟨w.heap.size + 2, o, none⟩ := fun o => World.frozen?_setCell ..
      rw [← ff 0] at f0
      rw [← ff 1] at f1
      rw [← ff 2] at f2
      rw [← ff 3] at f3
      have GV : Hid (w.grownBy (y6.setCell ⟨w.heap.size, 3, none⟩ (.slice sv (F.length + 1) cv)) none) := Lib.hid (grown_above GW.out (Nat.le_refl _) 3 _)
      have hO3 : Hid ((y6.setCell ⟨w.heap.size, 3, none⟩ (.slice sv (F.length + 1) cv)).ownsRow w.heap.size 35 2 (.slice sv (F.length + 1) cv) (F.length + 1) (cellsP (F ++ [(k, i)]))) := Lib.hid (own_mono (own_only2P hO2.out (Only.set (lo := w.heap.size) (hi := w.heap.size + 1) y6 ⟨w.heap.size, 3, none⟩ _ (Nat.le_refl _) (Nat.lt_succ_self _)) (by have := hus.out; omega)) (by have := hus.out; omega))
      have hne : Hid (∀ g, (Value.slice sv (F.length + 1) cv).ownBlock = some g → g ≠ w.heap.size + 2) := Lib.hid (fun g hg => by have := (hO2.out.lt g hg).1; have := hus.out; omega)
      refine hK.out _ _ ⟨p4, p5⟩ (fun hHeld => ?_)
      clear hK K far oth ff a0 a1 a2 a3 c4 c5 r0 r1 r2 r3 f4 hO2 GW G6 HC HO
      try simp only [Act.put, List.setIfInBounds_toArray, List.set_cons_zero, List.set_cons_succ]
      generalize y6.setCell ⟨w.heap.size, 3, none⟩ (.slice sv (F.length + 1) cv) = y7 at *
      refine wpAnyH_done (by kernel_rfl) ?_ _
      go_wp2
      obtain ⟨x0, x1, x2, x3⟩ := set4 (.int .i64 T) (.int .i64 D) (.int .i64 M) (.slice sv (F.length + 1) cv) s0 s1 s2 s3
      refine bodyPost_ret (v := .tuple #[.agg #[.int .i64 T, .int .i64 D, .int .i64 M, .slice sv (F.length + 1) cv], .bool true]) (by simp [results, Try.results8, go_sem, x0, x1, x2, x3]) rfl ⟨⟨_, rfl, ?_⟩, grown_above (grown_above (grown_above (grown_above GV.out (by omega) 0 _) (by omega) 1 _) (by omega) 2 _) (by omega) 3 _⟩
      rw [show (F ++ [(k, i)]).length = F.length + 1 by simp]
      have e : ∀ (z : World) (o : Nat) (u : Value), z.ownsRow w.heap.size 35 2 (.slice sv (F.length + 1) cv) (F.length + 1) (cellsP (F ++ [(k, i)])) → (∀ g, (Value.slice sv (F.length + 1) cv).ownBlock = some g → g ≠ w.heap.size + 2) → (z.setCell ⟨w.heap.size + 2, o, none⟩ u).ownsRow w.heap.size 35 2 (.slice sv (F.length + 1) cv) (F.length + 1) (cellsP (F ++ [(k, i)])) := fun z o u hz hg => own_blkP hz fun g hb => Below.heap_setCell z ⟨w.heap.size + 2, o, none⟩ u g (by show g ≠ w.heap.size + 2; exact hg g hb)
      exact e _ _ _ (e _ _ _ (e _ _ _ (e _ _ _ hO3.out hne.out) hne.out) hne.out) hne.out
  · skip
    go_simp
    obtain ⟨⟨e0, e1⟩, _⟩ := box2 u (.int .i64 k) (.int .i64 i) 35 0
    have e0 : (u.alloc (.cells #[.int .i64 k, .int .i64 i] 35)).cell? ⟨u.heap.size, 0, none⟩ = some (.int .i64 k) := e0
    have e1 : (u.alloc (.cells #[.int .i64 k, .int .i64 i] 35)).cell? ⟨u.heap.size, 1, none⟩ = some (.int .i64 i) := e1
    have hps : u.heap.size < (u.alloc (.cells #[.int .i64 k, .int .i64 i] 35)).heap.size := by rw [World.size_alloc]; omega
    have G1 : Hid (u0.grownBy (u.alloc (.cells #[.int .i64 k, .int .i64 i] 35)) none) := Lib.hid (ga _ GD.out)
    obtain ⟨⟨_, _, _, c3, c4, c5⟩, _, _⟩ := HC.out _ G1.out
    refine hK.out _ _ ⟨c4, c5⟩ (fun hHeld => ?_)
    clear hK K c3 c4 c5
    try simp only [Act.put, List.setIfInBounds_toArray, List.set_cons_zero, List.set_cons_succ]
    generalize u.heap.size = pb at *
    generalize u.alloc (.cells #[.int .i64 k, .int .i64 i] 35) = y1 at *
    clear GD
    refine wpAnyH_ready (rs := [0, 2]) (by kernel_rfl) (by simp) ?_
    refine AllReadyH.cons (o := ⟨_, _, _, _, _, _⟩) rfl (fun K hK => ?_) (AllReadyH.cons (o := ⟨_, _, _, _, _, _⟩) rfl (fun K hK => ?_) AllReadyH.nil)
    · skip
      go_simp
      have hO0 := Lib.hid (litR y1 u0.heap.size G1.out.size)
      have G2 : Hid (u0.grownBy (y1.alloc (.cells #[] 35)) none) := Lib.hid (ga _ G1.out)
      obtain ⟨zb, hzb⟩ : ∃ zb, y1.heap.size = zb := ⟨_, rfl⟩
      have hzs : zb < (y1.alloc (.cells #[] 35)).heap.size := by rw [World.size_alloc]; omega
      replace e0 := (World.grownBy_alloc y1 (.cells #[] 35) none).cell e0 (by simp)
      replace e1 := (World.grownBy_alloc y1 (.cells #[] 35) none).cell e1 (by simp)
      have hpb : pb ≠ zb := by omega
      obtain ⟨⟨_, _, _, c3, c4, c5⟩, _, _⟩ := HC.out _ G2.out
      refine hK.out _ _ ⟨c4, c5⟩ (fun hHeld => ?_)
      clear hK K c3 c4 c5
      try simp only [Act.put, List.setIfInBounds_toArray, List.set_cons_zero, List.set_cons_succ]
      rw [hzb] at hO0 ⊢
      clear hzb
      generalize y1.alloc (.cells #[] 35) = y2 at *
      clear G1
      refine wpAnyH_ready (rs := [2]) (by kernel_rfl) (by simp) ?_
      refine AllReadyH.cons (o := ⟨_, _, _, _, _, _⟩) rfl (fun K hK => ?_) AllReadyH.nil
      obtain ⟨⟨_, _, _, a3, _, _⟩, _, _⟩ := HC.out _ G2.out
      go_simp
      obtain ⟨⟨_, _, _, c3, c4, c5⟩, _, _⟩ := HC.out _ G2.out
      refine hK.out _ _ ⟨c4, c5⟩ (fun hHeld => ?_)
      clear hK K c3 c4 c5
      try simp only [Act.put, List.setIfInBounds_toArray, List.set_cons_zero, List.set_cons_succ]
      clear a3
      refine wpAnyH_ready (rs := [3]) (by kernel_rfl) (by simp) ?_
      refine AllReadyH.cons (o := ⟨_, _, _, _, _, _⟩) rfl (fun K hK => ?_) AllReadyH.nil
      have hOF := HO.out _ G2.out
      have SF := src_ownP hOF
      obtain ⟨v1, y3, hrun, hown, hgrow, _, hat⟩ := run_append_src Try.prog y2 u0.heap.size 28 28 35 i0 (.agg #[.int .i64 0, .int .i64 0]) 2 16 Try.underlying28 I0.out I1.out I2.out I3.out rfl (by decide) _ _ _ hO0.out _ _ _ SF (by unfold maxLen; omega) (by omega) G2.out.size
      have G3 : Hid (u0.grownBy y3 none) := Lib.hid (grown_row G2.out hO0.out (Nat.le_refl _) hgrow)
      have hO1 : Hid (y3.ownsRow u0.heap.size 35 2 v1 F.length (cellsP F)) := Lib.hid (by simpa [cellsP] using hown)
      replace e0 := hgrow.cell e0 (by intro e; injection e with e; exact hpb e)
      replace e1 := hgrow.cell e1 (by intro e; injection e with e; exact hpb e)
      refine step_append_run rfl _ _ _ rfl _ _ v1 y3 rfl rfl hrun ?_
      clear hrun hown hgrow hat hOF SF hO0
      obtain ⟨⟨_, _, _, c3, c4, c5⟩, _, _⟩ := HC.out _ G3.out
      refine hK.out _ _ ⟨c4, c5⟩ (fun hHeld => ?_)
      clear hK K c3 c4 c5
      try simp only [Act.put, List.setIfInBounds_toArray, List.set_cons_zero, List.set_cons_succ]
      clear G2
      refine wpAnyH_ready (rs := [6]) (by kernel_rfl) (by simp) ?_
      refine AllReadyH.cons (o := ⟨_, _, _, _, _, _⟩) rfl (fun K hK => ?_) AllReadyH.nil
      obtain ⟨v2, y6, hrun, hown, hgrow, _, hat⟩ := run_append_src Try.prog y3 u0.heap.size 28 28 35 i0 (.agg #[.int .i64 0, .int .i64 0]) 2 16 Try.underlying28 I0.out I1.out I2.out I3.out rfl (by decide) _ _ _ hO1.out _ _ _ (src_pair e0 e1) (by unfold maxLen; omega) (by omega) G3.out.size
      have G6 : Hid (u0.grownBy y6 none) := Lib.hid (grown_row G3.out hO1.out (Nat.le_refl _) hgrow)
      rw [cellsP_add] at hown
      obtain ⟨sv, cv, hv2, _, _⟩ := own_formP hown
      subst hv2
      have hO2 := Lib.hid hown
      refine step_append_run rfl _ _ _ rfl _ _ _ y6 rfl rfl hrun ?_
      clear hrun hown hgrow hat hO1 e0 e1
      obtain ⟨⟨_, _, _, c3, c4, c5⟩, _, _⟩ := HC.out _ G6.out
      refine hK.out _ _ ⟨c4, c5⟩ (fun hHeld => ?_)
      clear hK K c3 c4 c5
      try simp only [Act.put, List.setIfInBounds_toArray, List.set_cons_zero, List.set_cons_succ]
      clear G3
      refine wpAnyH_take (i := 7) (oi := ⟨_, _, _, _, _, _⟩) (v := ?_) rfl (by kernel_rfl) (by kernel_rfl) (by kernel_rfl) (fun _ _ _ h => h) (Or.inl ⟨by rfl, ?_⟩) (by assumption) ?_
      rotate_left
      · intro wz hSw
        try dsimp only at hSw
        go_simp
        try with_reducible rfl
      simp only [Act.put, List.setIfInBounds_toArray, List.set_cons_zero, List.set_cons_succ]
      refine wpAnyH_ready (rs := [8]) (by kernel_rfl) (by simp) ?_
      refine AllReadyH.cons (o := ⟨_, _, _, _, _, _⟩) rfl (fun K hK => ?_) AllReadyH.nil
      obtain ⟨⟨a0, a1, a2, a3, c4, c5⟩, ⟨r0, r1, r2, r3⟩, f0, f1, f2, f3, f4⟩ := HC.out _ G6.out
      have GW := Lib.hid (K0.out.trans G6.out)
      go_simp
      have far : ∀ (b o : Nat), b ≠ w.heap.size → (y6.setCell ⟨w.heap.size, 3, none⟩ (.slice sv (F.length + 1) cv)).cell? ⟨b, o, none⟩ = y6.cell? ⟨b, o, none⟩ := fun b o hb => World.cell?_setCell_far _ ⟨w.heap.size, 3, none⟩ ⟨b, o, none⟩ _ (by show w.heap.size ≠ b; omega)
      have oth : ∀ o, o ≠ 3 → (y6.setCell ⟨w.heap.size, 3, none⟩ (.slice sv (F.length + 1) cv)).cell? ⟨w.heap.size, o, none⟩ = y6.cell? ⟨w.heap.size, o, none⟩ := fun o ho => World.cell?_setCell_other _ ⟨w.heap.size, 3, none⟩ ⟨w.heap.size, o, none⟩ _ (by simp; try omega)
      have p3 : (y6.setCell ⟨w.heap.size, 3, none⟩ (.slice sv (F.length + 1) cv)).cell? ⟨w.heap.size, 3, none⟩ = some (.slice sv (F.length + 1) cv) := World.cell?_setCell_same _ _ _ a3
      have p0 := (oth 0 (by decide)).trans a0
      have p1 := (oth 1 (by decide)).trans a1
      have p2 := (oth 2 (by decide)).trans a2
      have p4 := (far (w.heap.size + 1) 0 (by omega)).trans c4
      have p5 := (far (w.heap.size + 1) 1 (by omega)).trans c5
      have s0 := (far (w.heap.size + 2) 0 (by omega)).trans r0
      have s1 := (far (w.heap.size + 2) 1 (by omega)).trans r1
      have s2 := (far (w.heap.size + 2) 2 (by omega)).trans r2
      have s3 := (far (w.heap.size + 2) 3 (by omega)).trans r3
      have ff : ∀ o, (y6.setCell ⟨w.heap.size, 3, none⟩ (.slice sv (F.length + 1) cv)).frozen? ⟨w.heap.size + 2, o, none⟩ = y6.frozen? ⟨w.heap.size + 2, o, none⟩ := fun o => World.frozen?_setCell ..
      rw [← ff 0] at f0
      rw [← ff 1] at f1
      rw [← ff 2] at f2
      rw [← ff 3] at f3
      have GV : Hid (w.grownBy (y6.setCell ⟨w.heap.size, 3, none⟩ (.slice sv (F.length + 1) cv)) none) := Lib.hid (grown_above GW.out (Nat.le_refl _) 3 _)
      have hO3 : Hid ((y6.setCell ⟨w.heap.size, 3, none⟩ (.slice sv (F.length + 1) cv)).ownsRow w.heap.size 35 2 (.slice sv (F.length + 1) cv) (F.length + 1) (cellsP (F ++ [(k, i)]))) := Lib.hid (own_mono (own_only2P hO2.out (Only.set (lo := w.heap.size) (hi := w.heap.size + 1) y6 ⟨w.heap.size, 3, none⟩ _ (Nat.le_refl _) (Nat.lt_succ_self _)) (by have := hus.out; omega)) (by have := hus.out; omega))
      have hne : Hid (∀ g, (Value.slice sv (F.length + 1) cv).ownBlock = some g → g ≠ w.heap.size + 2) := Lib.hid (fun g hg => by have := (hO2.out.lt g hg).1; have := hus.out; omega)
      refine hK.out _ _ ⟨p4, p5⟩ (fun hHeld => ?_)
      clear hK K far oth ff a0 a1 a2 a3 c4 c5 r0 r1 r2 r3 f4 hO2 GW G6 HC HO
      try simp only [Act.put, List.setIfInBounds_toArray, List.set_cons_zero, List.set_cons_succ]
      generalize y6.setCell ⟨w.heap.size, 3, none⟩ (.slice sv (F.length + 1) cv) = y7 at *
      refine wpAnyH_done (by kernel_rfl) ?_ _
      go_wp2
      obtain ⟨x0, x1, x2, x3⟩ := set4 (.int .i64 T) (.int .i64 D) (.int .i64 M) (.slice sv (F.length + 1) cv) s0 s1 s2 s3
      refine bodyPost_ret (v := .tuple #[.agg #[.int .i64 T, .int .i64 D, .int .i64 M, .slice sv (F.length + 1) cv], .bool true]) (by simp [results, Try.results8, go_sem, x0, x1, x2, x3]) rfl ⟨⟨_, rfl, ?_⟩, grown_above (grown_above (grown_above (grown_above GV.out (by omega) 0 _) (by omega) 1 _) (by omega) 2 _) (by omega) 3 _⟩
      rw [show (F ++ [(k, i)]).length = F.length + 1 by simp]
      have e : ∀ (z : World) (o : Nat) (u : Value), z.ownsRow w.heap.size 35 2 (.slice sv (F.length + 1) cv) (F.length + 1) (cellsP (F ++ [(k, i)])) → (∀ g, (Value.slice sv (F.length + 1) cv).ownBlock = some g → g ≠ w.heap.size + 2) → (z.setCell ⟨w.heap.size + 2, o, none⟩ u).ownsRow w.heap.size 35 2 (.slice sv (F.length + 1) cv) (F.length + 1) (cellsP (F ++ [(k, i)])) := fun z o u hz hg => own_blkP hz fun g hb => Below.heap_setCell z ⟨w.heap.size + 2, o, none⟩ u g (by show g ≠ w.heap.size + 2; exact hg g hb)
      exact e _ _ _ (e _ _ _ (e _ _ _ (e _ _ _ hO3.out hne.out) hne.out) hne.out) hne.out
    · skip
      obtain ⟨⟨_, _, _, a3, _, _⟩, _, _⟩ := HC.out _ G1.out
      go_simp
      obtain ⟨⟨_, _, _, c3, c4, c5⟩, _, _⟩ := HC.out _ G1.out
      refine hK.out _ _ ⟨c4, c5⟩ (fun hHeld => ?_)
      clear hK K c3 c4 c5
      try simp only [Act.put, List.setIfInBounds_toArray, List.set_cons_zero, List.set_cons_succ]
      clear a3
      refine wpAnyH_ready (rs := [0]) (by kernel_rfl) (by simp) ?_
      refine AllReadyH.cons (o := ⟨_, _, _, _, _, _⟩) rfl (fun K hK => ?_) AllReadyH.nil
      go_simp
      have hO0 := Lib.hid (litR y1 u0.heap.size G1.out.size)
      have G2 : Hid (u0.grownBy (y1.alloc (.cells #[] 35)) none) := Lib.hid (ga _ G1.out)
      obtain ⟨zb, hzb⟩ : ∃ zb, y1.heap.size = zb := ⟨_, rfl⟩
      have hzs : zb < (y1.alloc (.cells #[] 35)).heap.size := by rw [World.size_alloc]; omega
      replace e0 := (World.grownBy_alloc y1 (.cells #[] 35) none).cell e0 (by simp)
      replace e1 := (World.grownBy_alloc y1 (.cells #[] 35) none).cell e1 (by simp)
      have hpb : pb ≠ zb := by omega
      obtain ⟨⟨_, _, _, c3, c4, c5⟩, _, _⟩ := HC.out _ G2.out
      refine hK.out _ _ ⟨c4, c5⟩ (fun hHeld => ?_)
      clear hK K c3 c4 c5
      try simp only [Act.put, List.setIfInBounds_toArray, List.set_cons_zero, List.set_cons_succ]
      rw [hzb] at hO0 ⊢
      clear hzb
      generalize y1.alloc (.cells #[] 35) = y2 at *
      clear G1
      refine wpAnyH_ready (rs := [3]) (by kernel_rfl) (by simp) ?_
      refine AllReadyH.cons (o := ⟨_, _, _, _, _, _⟩) rfl (fun K hK => ?_) AllReadyH.nil
      have hOF := HO.out _ G2.out
      have SF := src_ownP hOF
      obtain ⟨v1, y3, hrun, hown, hgrow, _, hat⟩ := run_append_src Try.prog y2 u0.heap.size 28 28 35 i0 (.agg #[.int .i64 0, .int .i64 0]) 2 16 Try.underlying28 I0.out I1.out I2.out I3.out rfl (by decide) _ _ _ hO0.out _ _ _ SF (by unfold maxLen; omega) (by omega) G2.out.size
      have G3 : Hid (u0.grownBy y3 none) := Lib.hid (grown_row G2.out hO0.out (Nat.le_refl _) hgrow)
      have hO1 : Hid (y3.ownsRow u0.heap.size 35 2 v1 F.length (cellsP F)) := Lib.hid (by simpa [cellsP] using hown)
      replace e0 := hgrow.cell e0 (by intro e; injection e with e; exact hpb e)
      replace e1 := hgrow.cell e1 (by intro e; injection e with e; exact hpb e)
      refine step_append_run rfl _ _ _ rfl _ _ v1 y3 rfl rfl hrun ?_
      clear hrun hown hgrow hat hOF SF hO0
      obtain ⟨⟨_, _, _, c3, c4, c5⟩, _, _⟩ := HC.out _ G3.out
      refine hK.out _ _ ⟨c4, c5⟩ (fun hHeld => ?_)
      clear hK K c3 c4 c5
      try simp only [Act.put, List.setIfInBounds_toArray, List.set_cons_zero, List.set_cons_succ]
      clear G2
      refine wpAnyH_ready (rs := [6]) (by kernel_rfl) (by simp) ?_
      refine AllReadyH.cons (o := ⟨_, _, _, _, _, _⟩) rfl (fun K hK => ?_) AllReadyH.nil
      obtain ⟨v2, y6, hrun, hown, hgrow, _, hat⟩ := run_append_src Try.prog y3 u0.heap.size 28 28 35 i0 (.agg #[.int .i64 0, .int .i64 0]) 2 16 Try.underlying28 I0.out I1.out I2.out I3.out rfl (by decide) _ _ _ hO1.out _ _ _ (src_pair e0 e1) (by unfold maxLen; omega) (by omega) G3.out.size
      have G6 : Hid (u0.grownBy y6 none) := Lib.hid (grown_row G3.out hO1.out (Nat.le_refl _) hgrow)
      rw [cellsP_add] at hown
      obtain ⟨sv, cv, hv2, _, _⟩ := own_formP hown
      subst hv2
      have hO2 := Lib.hid hown
      refine step_append_run rfl _ _ _ rfl _ _ _ y6 rfl rfl hrun ?_
      clear hrun hown hgrow hat hO1 e0 e1
      obtain ⟨⟨_, _, _, c3, c4, c5⟩, _, _⟩ := HC.out _ G6.out
      refine hK.out _ _ ⟨c4, c5⟩ (fun hHeld => ?_)
      clear hK K c3 c4 c5
      try simp only [Act.put, List.setIfInBounds_toArray, List.set_cons_zero, List.set_cons_succ]
      clear G3
      refine wpAnyH_take (i := 7) (oi := ⟨_, _, _, _, _, _⟩) (v := ?_) rfl (by kernel_rfl) (by kernel_rfl) (by kernel_rfl) (fun _ _ _ h => h) (Or.inl ⟨by rfl, ?_⟩) (by assumption) ?_
      rotate_left
      · intro wz hSw
        try dsimp only at hSw
        go_simp
        try with_reducible rfl
      simp only [Act.put, List.setIfInBounds_toArray, List.set_cons_zero, List.set_cons_succ]
      refine wpAnyH_ready (rs := [8]) (by kernel_rfl) (by simp) ?_
      refine AllReadyH.cons (o := ⟨_, _, _, _, _, _⟩) rfl (fun K hK => ?_) AllReadyH.nil
      obtain ⟨⟨a0, a1, a2, a3, c4, c5⟩, ⟨r0, r1, r2, r3⟩, f0, f1, f2, f3, f4⟩ := HC.out _ G6.out
      have GW := Lib.hid (K0.out.trans G6.out)
      go_simp
      have far : ∀ (b o : Nat), b ≠ w.heap.size → (y6.setCell ⟨w.heap.size, 3, none⟩ (.slice sv (F.length + 1) cv)).cell? ⟨b, o, none⟩ = y6.cell? ⟨b, o, none⟩ := fun b o hb => World.cell?_setCell_far _ ⟨w.heap.size, 3, none⟩ ⟨b, o, none⟩ _ (by show w.heap.size ≠ b; omega)
      have oth : ∀ o, o ≠ 3 → (y6.setCell ⟨w.heap.size, 3, none⟩ (.slice sv (F.length + 1) cv)).cell? ⟨w.heap.size, o, none⟩ = y6.cell? ⟨w.heap.size, o, none⟩ := fun o ho => World.cell?_setCell_other _ ⟨w.heap.size, 3, none⟩ ⟨w.heap.size, o, none⟩ _ (by simp; try omega)
      have p3 : (y6.setCell ⟨w.heap.size, 3, none⟩ (.slice sv (F.length + 1) cv)).cell? ⟨w.heap.size, 3, none⟩ = some (.slice sv (F.length + 1) cv) := World.cell?_setCell_same _ _ _ a3
      have p0 := (oth 0 (by decide)).trans a0
      have p1 := (oth 1 (by decide)).trans a1
      have p2 := (oth 2 (by decide)).trans a2
      have p4 := (far (w.heap.size + 1) 0 (by omega)).trans c4
      have p5 := (far (w.heap.size + 1) 1 (by omega)).trans c5
      have s0 := (far (w.heap.size + 2) 0 (by omega)).trans r0
      have s1 := (far (w.heap.size + 2) 1 (by omega)).trans r1
      have s2 := (far (w.heap.size + 2) 2 (by omega)).trans r2
      have s3 := (far (w.heap.size + 2) 3 (by omega)).trans r3
      have ff : ∀ o, (y6.setCell ⟨w.heap.size, 3, none⟩ (.slice sv (F.length + 1) cv)).frozen? ⟨w.heap.size + 2, o, none⟩ = y6.frozen? ⟨w.heap.size + 2, o, none⟩ := fun o => World.frozen?_setCell ..
      rw [← ff 0] at f0
      rw [← ff 1] at f1
      rw [← ff 2] at f2
      rw [← ff 3] at f3
      have GV : Hid (w.grownBy (y6.setCell ⟨w.heap.size, 3, none⟩ (.slice sv (F.length + 1) cv)) none) := Lib.hid (grown_above GW.out (Nat.le_refl _) 3 _)
      have hO3 : Hid ((y6.setCell ⟨w.heap.size, 3, none⟩ (.slice sv (F.length + 1) cv)).ownsRow w.heap.size 35 2 (.slice sv (F.length + 1) cv) (F.length + 1) (cellsP (F ++ [(k, i)]))) := Lib.hid (own_mono (own_only2P hO2.out (Only.set (lo := w.heap.size) (hi := w.heap.size + 1) y6 ⟨w.heap.size, 3, none⟩ _ (Nat.le_refl _) (Nat.lt_succ_self _)) (by have := hus.out; omega)) (by have := hus.out; omega))
      have hne : Hid (∀ g, (Value.slice sv (F.length + 1) cv).ownBlock = some g → g ≠ w.heap.size + 2) := Lib.hid (fun g hg => by have := (hO2.out.lt g hg).1; have := hus.out; omega)
      refine hK.out _ _ ⟨p4, p5⟩ (fun hHeld => ?_)
      clear hK K far oth ff a0 a1 a2 a3 c4 c5 r0 r1 r2 r3 f4 hO2 GW G6 HC HO
      try simp only [Act.put, List.setIfInBounds_toArray, List.set_cons_zero, List.set_cons_succ]
      generalize y6.setCell ⟨w.heap.size, 3, none⟩ (.slice sv (F.length + 1) cv) = y7 at *
      refine wpAnyH_done (by kernel_rfl) ?_ _
      go_wp2
      obtain ⟨x0, x1, x2, x3⟩ := set4 (.int .i64 T) (.int .i64 D) (.int .i64 M) (.slice sv (F.length + 1) cv) s0 s1 s2 s3
      refine bodyPost_ret (v := .tuple #[.agg #[.int .i64 T, .int .i64 D, .int .i64 M, .slice sv (F.length + 1) cv], .bool true]) (by simp [results, Try.results8, go_sem, x0, x1, x2, x3]) rfl ⟨⟨_, rfl, ?_⟩, grown_above (grown_above (grown_above (grown_above GV.out (by omega) 0 _) (by omega) 1 _) (by omega) 2 _) (by omega) 3 _⟩
      rw [show (F ++ [(k, i)]).length = F.length + 1 by simp]
      have e : ∀ (z : World) (o : Nat) (u : Value), z.ownsRow w.heap.size 35 2 (.slice sv (F.length + 1) cv) (F.length + 1) (cellsP (F ++ [(k, i)])) → (∀ g, (Value.slice sv (F.length + 1) cv).ownBlock = some g → g ≠ w.heap.size + 2) → (z.setCell ⟨w.heap.size + 2, o, none⟩ u).ownsRow w.heap.size 35 2 (.slice sv (F.length + 1) cv) (F.length + 1) (cellsP (F ++ [(k, i)])) := fun z o u hz hg => own_blkP hz fun g hb => Below.heap_setCell z ⟨w.heap.size + 2, o, none⟩ u g (by show g ≠ w.heap.size + 2; exact hg g hb)
      exact e _ _ _ (e _ _ _ (e _ _ _ (e _ _ _ hO3.out hne.out) hne.out) hne.out) hne.out

end
end Go.Proofs.Ytmmpnfkfieikcaa
