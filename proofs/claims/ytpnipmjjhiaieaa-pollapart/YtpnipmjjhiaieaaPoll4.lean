/-
  A poll's call Close.
-/
import Derived.Test.YtpnipmjjhiaieaaPoll3
namespace Go.Proofs.Ytpnipmjjhiaieaa
open Go.RowKit Go.Lib BN
set_option maxRecDepth 100000
set_option linter.unusedVariables false
theorem bne_decide2 (x y : Int) : (x != y) = decide (x ≠ y) := by by_cases h : x = y <;> simp [h]
section
variable {w w' : World} {pb gb bb c qb lo hi n cap T D f : Nat} {Mx : Int} {G : Nat → Gt} {L : List (Nat × (Int × Int))} {Q : List Nat}

theorem close1 (d : Int) (ob : Nat) (z : Int × Int) (hob : w.heap[ob]? = some (.cells #[.int .i64 d] 3 (0, 0))) : Calls Try.prog 33 #[.agg #[.int .i64 z.1, .int .i64 z.2], .pointer (some ⟨ob, 0, none⟩)] w fun e w' => e = .returned (.bool (decide (z.1 ≠ d))) ∧ w.grownBy w' none := by
  have ka := World.grownBy_alloc w (.cells #[.int .i64 z.1, .int .i64 z.2] 67) none
  have c0 := (ka.cell_far ⟨ob, 0, none⟩ (blk_lt hob) (by simp)).trans (cell_blk hob 0)
  simp only [List.getElem?_toArray, List.getElem?_cons_zero] at c0
  obtain ⟨a, b⟩ := z
  clear hob
  go_enter Try.func33, Try.ntmps33
  go_wp2
  go_ret
  exact ⟨by rw [show (!decide (a = d)) = (a != d) by by_cases h : a = d <;> simp [h]]; rfl, ka⟩
/-- The poll's blocks and the call's own box. -/
theorem po_close_no (H : PoM w pb gb bb c qb lo hi n cap T D Mx G L f Q) (d : Int) (hd : hasD n d = false) : Calls Try.prog 11 #[.pointer (some ⟨pb, 0, none⟩), .int .i64 d] w fun e w' => e = .returned (.bool false) ∧ w.grownBy w' none := by
  have ka := World.grownBy_alloc w (.cells #[.int .i64 d] 3) none
  have h0 : (w.alloc (.cells #[.int .i64 d] 3)).heap[w.heap.size]? = some (.cells #[.int .i64 d] 3 (0, 0)) := heap_alloc_new _ _
  have H1 := (H.kept ka).drew
  have C := Lib.hid (po_has H1 d)
  rw [hd] at C
  have b0 : (w.alloc (.cells #[.int .i64 d] 3)).drew.cell? ⟨w.heap.size, 0, none⟩ = some (.int .i64 d) := cell_blk h0 0
  have KW := Lib.hid (gd ka)
  clear H H1 ka h0 hd
  go_enter Try.func11, Try.ntmps11
  go_wp2_with fail
  generalize hz : w.heap.size = z at *
  generalize (w.alloc (.cells #[.int .i64 d] 3)) = wa at *
  refine wp_region_held_drew (S := fun w' => w'.cell? ⟨z, 0, none⟩ = some (.int .i64 d)) (by kernel_rfl) b0 (fun hHeld => ?_)
  refine wpAnyH_take (i := 0) (oi := ⟨_, _, _, _, _, _⟩) (v := ?_) rfl (by kernel_rfl) (by kernel_rfl) (by kernel_rfl) (fun _ _ _ h => h) (Or.inl ⟨by rfl, ?_⟩) (by assumption) ?_
  rotate_left
  · intro wz hSw
    try dsimp only at hSw
    go_simp
    try with_reducible rfl
  simp only [Act.put, List.setIfInBounds_toArray, List.set_cons_zero, List.set_cons_succ]
  refine wpAnyH_take (i := 1) (oi := ⟨_, _, _, _, _, _⟩) (v := ?_) rfl (by kernel_rfl) (by kernel_rfl) (by kernel_rfl) (fun _ _ _ h => h) (Or.inl ⟨by rfl, ?_⟩) (by assumption) ?_
  rotate_left
  · intro wz hSw
    try dsimp only at hSw
    go_simp
    try with_reducible rfl
  simp only [Act.put, List.setIfInBounds_toArray, List.set_cons_zero, List.set_cons_succ]
  refine wpAnyH_ready (rs := [2]) (by kernel_rfl) (by simp) ?_
  refine AllReadyH.cons (o := ⟨_, _, _, _, _, _⟩) rfl (fun K hK => ?_) AllReadyH.nil
  go_simp
  refine C.out.mono ?_
  rintro e w1 ⟨rfl, rfl⟩
  refine hK.out _ _ b0 (fun hHeld => ?_)
  clear hK K
  try simp only [Act.put, List.setIfInBounds_toArray, List.set_cons_zero, List.set_cons_succ]
  refine wpAnyH_take (i := 3) (oi := ⟨_, _, _, _, _, _⟩) (v := ?_) rfl (by kernel_rfl) (by kernel_rfl) (by kernel_rfl) (fun _ _ _ h => h) (Or.inl ⟨by rfl, ?_⟩) (by assumption) ?_
  rotate_left
  · intro wz hSw
    try dsimp only at hSw
    go_simp
    try with_reducible rfl
  simp only [Act.put, List.setIfInBounds_toArray, List.set_cons_zero, List.set_cons_succ]
  refine wpAnyH_take (i := 4) (oi := ⟨_, _, _, _, _, _⟩) (v := ?_) rfl (by kernel_rfl) (by kernel_rfl) (by kernel_rfl) (fun _ _ _ h => h) (Or.inl ⟨by rfl, ?_⟩) (by assumption) ?_
  rotate_left
  · intro wz hSw
    try dsimp only at hSw
    go_simp
    try with_reducible rfl
  simp only [Act.put, List.setIfInBounds_toArray, List.set_cons_zero, List.set_cons_succ]
  refine wpAnyH_take (i := 5) (oi := ⟨_, _, _, _, _, _⟩) (v := undef) rfl (by kernel_rfl) (by kernel_rfl) (by kernel_rfl) (fun _ _ _ h => h) (Or.inr ⟨by rfl, rfl⟩) (by assumption) ?_
  simp only [Act.put, List.setIfInBounds_toArray, List.set_cons_zero, List.set_cons_succ]
  refine wpAnyH_take (i := 6) (oi := ⟨_, _, _, _, _, _⟩) (v := undef) rfl (by kernel_rfl) (by kernel_rfl) (by kernel_rfl) (fun _ _ _ h => h) (Or.inr ⟨by rfl, rfl⟩) (by assumption) ?_
  simp only [Act.put, List.setIfInBounds_toArray, List.set_cons_zero, List.set_cons_succ]
  refine wpAnyH_take (i := 7) (oi := ⟨_, _, _, _, _, _⟩) (v := undef) rfl (by kernel_rfl) (by kernel_rfl) (by kernel_rfl) (fun _ _ _ h => h) (Or.inr ⟨by rfl, rfl⟩) (by assumption) ?_
  simp only [Act.put, List.setIfInBounds_toArray, List.set_cons_zero, List.set_cons_succ]
  refine wpAnyH_take (i := 8) (oi := ⟨_, _, _, _, _, _⟩) (v := undef) rfl (by kernel_rfl) (by kernel_rfl) (by kernel_rfl) (fun _ _ _ h => h) (Or.inr ⟨by rfl, rfl⟩) (by assumption) ?_
  simp only [Act.put, List.setIfInBounds_toArray, List.set_cons_zero, List.set_cons_succ]
  refine wpAnyH_take (i := 9) (oi := ⟨_, _, _, _, _, _⟩) (v := undef) rfl (by kernel_rfl) (by kernel_rfl) (by kernel_rfl) (fun _ _ _ h => h) (Or.inr ⟨by rfl, rfl⟩) (by assumption) ?_
  simp only [Act.put, List.setIfInBounds_toArray, List.set_cons_zero, List.set_cons_succ]
  refine wpAnyH_take (i := 10) (oi := ⟨_, _, _, _, _, _⟩) (v := undef) rfl (by kernel_rfl) (by kernel_rfl) (by kernel_rfl) (fun _ _ _ h => h) (Or.inr ⟨by rfl, rfl⟩) (by assumption) ?_
  simp only [Act.put, List.setIfInBounds_toArray, List.set_cons_zero, List.set_cons_succ]
  refine wpAnyH_take (i := 11) (oi := ⟨_, _, _, _, _, _⟩) (v := undef) rfl (by kernel_rfl) (by kernel_rfl) (by kernel_rfl) (fun _ _ _ h => h) (Or.inr ⟨by rfl, rfl⟩) (by assumption) ?_
  simp only [Act.put, List.setIfInBounds_toArray, List.set_cons_zero, List.set_cons_succ]
  refine wpAnyH_take (i := 12) (oi := ⟨_, _, _, _, _, _⟩) (v := undef) rfl (by kernel_rfl) (by kernel_rfl) (by kernel_rfl) (fun _ _ _ h => h) (Or.inr ⟨by rfl, rfl⟩) (by assumption) ?_
  simp only [Act.put, List.setIfInBounds_toArray, List.set_cons_zero, List.set_cons_succ]
  refine wpAnyH_take (i := 13) (oi := ⟨_, _, _, _, _, _⟩) (v := ?_) rfl (by kernel_rfl) (by kernel_rfl) (by kernel_rfl) (fun _ _ _ h => h) (Or.inl ⟨by rfl, ?_⟩) (by assumption) ?_
  rotate_left
  · intro wz hSw
    try dsimp only at hSw
    go_simp
    try with_reducible rfl
  simp only [Act.put, List.setIfInBounds_toArray, List.set_cons_zero, List.set_cons_succ]
  refine wpAnyH_done (by kernel_rfl) ?_ _
  clear hHeld b0 C
  go_wp2
  go_ret
  exact ⟨rfl, KW.out⟩

set_option maxHeartbeats 2000000 in
theorem po_close_f (H : PoM w pb gb bb c qb lo hi n cap T D Mx G L f Q) (d : Nat) (hd : d < n) (ho : (G d).op = false) : Calls Try.prog 11 #[.pointer (some ⟨pb, 0, none⟩), .int .i64 d] w fun e w' => e = .returned (.bool false) ∧ PoM w' pb gb bb c qb lo hi n cap T D Mx (updG G d (gClose (G d)).1) L f Q ∧ OnlyB (ownP pb gb bb c lo hi L) w w' := by
  have ka := World.grownBy_alloc w (.cells #[.int .i64 d] 3) none
  have h0 : (w.alloc (.cells #[.int .i64 (d : Int)] 3)).heap[w.heap.size]? = some (.cells #[.int .i64 (d : Int)] 3 (0, 0)) := heap_alloc_new _ _
  have H1 := (H.kept ka).drew
  have hzb : hi ≤ w.heap.size := H.qhi
  have C := Lib.hid (po_has H1 d)
  rw [show hasD n d = true by unfold hasD; simp [hd]] at C
  have CG := Lib.hid (go_close (H1.gs.gt d hd))
  have g0 : (w.alloc (.cells #[.int .i64 (d : Int)] 3)).drew.heap[w.heap.size]? = some (.cells #[.int .i64 (d : Int)] 3 (0, 0)) := h0
  have b0 : (w.alloc (.cells #[.int .i64 (d : Int)] 3)).drew.cell? ⟨w.heap.size, 0, none⟩ = some (.int .i64 (d : Int)) := cell_blk g0 0
  have b1 := (p_cells H1).1
  have KW := Lib.hid (gd ka)
  have HH1 := Lib.hid H1
  have hn := H.nb.1
  have G0 := Lib.hid g0
  have hcl : (gClose (G d)).2 = (G d).op := rfl
  rw [hcl, ho] at CG
  clear H H1 ka h0 g0 hcl
  go_enter Try.func11, Try.ntmps11
  go_wp2_with fail
  generalize hz : w.heap.size = z at *
  generalize (w.alloc (.cells #[.int .i64 (d : Int)] 3)) = wa at *
  refine wp_region_held_drew (S := fun w' => w'.cell? ⟨z, 0, none⟩ = some (.int .i64 (d : Int)) ∧ w'.cell? ⟨pb, 0, none⟩ = some (.slice (some ⟨gb, 0, none⟩) n n)) (by kernel_rfl) ⟨b0, b1⟩ (fun hHeld => ?_)
  refine wpAnyH_take (i := 0) (oi := ⟨_, _, _, _, _, _⟩) (v := ?_) rfl (by kernel_rfl) (by kernel_rfl) (by kernel_rfl) (fun _ _ _ h => h) (Or.inl ⟨by rfl, ?_⟩) (by assumption) ?_
  rotate_left
  · intro wz hSw
    try dsimp only at hSw
    go_simp
    try with_reducible rfl
  simp only [Act.put, List.setIfInBounds_toArray, List.set_cons_zero, List.set_cons_succ]
  refine wpAnyH_take (i := 1) (oi := ⟨_, _, _, _, _, _⟩) (v := ?_) rfl (by kernel_rfl) (by kernel_rfl) (by kernel_rfl) (fun _ _ _ h => h) (Or.inl ⟨by rfl, ?_⟩) (by assumption) ?_
  rotate_left
  · intro wz hSw
    try dsimp only at hSw
    go_simp
    try with_reducible rfl
  simp only [Act.put, List.setIfInBounds_toArray, List.set_cons_zero, List.set_cons_succ]
  refine wpAnyH_ready (rs := [2]) (by kernel_rfl) (by simp) ?_
  refine AllReadyH.cons (o := ⟨_, _, _, _, _, _⟩) rfl (fun K hK => ?_) AllReadyH.nil
  go_simp
  refine C.out.mono ?_
  rintro e w1 ⟨rfl, rfl⟩
  refine hK.out _ _ ⟨b0, b1⟩ (fun hHeld => ?_)
  clear hK K
  try simp only [Act.put, List.setIfInBounds_toArray, List.set_cons_zero, List.set_cons_succ]
  refine wpAnyH_take (i := 3) (oi := ⟨_, _, _, _, _, _⟩) (v := ?_) rfl (by kernel_rfl) (by kernel_rfl) (by kernel_rfl) (fun _ _ _ h => h) (Or.inl ⟨by rfl, ?_⟩) (by assumption) ?_
  rotate_left
  · intro wz hSw
    try dsimp only at hSw
    go_simp
    try with_reducible rfl
  simp only [Act.put, List.setIfInBounds_toArray, List.set_cons_zero, List.set_cons_succ]
  refine wpAnyH_take (i := 4) (oi := ⟨_, _, _, _, _, _⟩) (v := ?_) rfl (by kernel_rfl) (by kernel_rfl) (by kernel_rfl) (fun _ _ _ h => h) (Or.inl ⟨by rfl, ?_⟩) (by assumption) ?_
  rotate_left
  · intro wz hSw
    try dsimp only at hSw
    go_simp
    try with_reducible rfl
  simp only [Act.put, List.setIfInBounds_toArray, List.set_cons_zero, List.set_cons_succ]
  refine wpAnyH_take (i := 5) (oi := ⟨_, _, _, _, _, _⟩) (v := ?_) rfl (by kernel_rfl) (by kernel_rfl) (by kernel_rfl) (fun _ _ _ h => h) (Or.inl ⟨by rfl, ?_⟩) (by assumption) ?_
  rotate_left
  · intro wz hSw
    try dsimp only at hSw
    go_simp
    try with_reducible rfl
  simp only [Act.put, List.setIfInBounds_toArray, List.set_cons_zero, List.set_cons_succ]
  refine wpAnyH_take (i := 6) (oi := ⟨_, _, _, _, _, _⟩) (v := ?_) rfl (by kernel_rfl) (by kernel_rfl) (by kernel_rfl) (fun _ _ _ h => h) (Or.inl ⟨by rfl, ?_⟩) (by assumption) ?_
  rotate_left
  · intro wz hSw
    try dsimp only at hSw
    go_simp
    try with_reducible rfl
  simp only [Act.put, List.setIfInBounds_toArray, List.set_cons_zero, List.set_cons_succ]
  refine wpAnyH_take (i := 7) (oi := ⟨_, _, _, _, _, _⟩) (v := ?_) rfl (by kernel_rfl) (by kernel_rfl) (by kernel_rfl) (fun _ _ _ h => h) (Or.inl ⟨by rfl, ?_⟩) (by assumption) ?_
  rotate_left
  · intro wz hSw
    try dsimp only at hSw
    go_simp
    try with_reducible rfl
  simp only [Act.put, List.setIfInBounds_toArray, List.set_cons_zero, List.set_cons_succ]
  refine wpAnyH_take (i := 8) (oi := ⟨_, _, _, _, _, _⟩) (v := ?_) rfl (by kernel_rfl) (by kernel_rfl) (by kernel_rfl) (fun _ _ _ h => h) (Or.inl ⟨by rfl, ?_⟩) (by assumption) ?_
  rotate_left
  · intro wz hSw
    try dsimp only at hSw
    go_simp
    try with_reducible rfl
  simp only [Act.put, List.setIfInBounds_toArray, List.set_cons_zero, List.set_cons_succ]
  refine wpAnyH_take (i := 9) (oi := ⟨_, _, _, _, _, _⟩) (v := ?_) rfl (by kernel_rfl) (by kernel_rfl) (by kernel_rfl) (fun _ _ _ h => h) (Or.inl ⟨by rfl, ?_⟩) (by assumption) ?_
  rotate_left
  · intro wz hSw
    try dsimp only at hSw
    go_simp
    try with_reducible rfl
  simp only [Act.put, List.setIfInBounds_toArray, List.set_cons_zero, List.set_cons_succ]
  refine wpAnyH_take (i := 10) (oi := ⟨_, _, _, _, _, _⟩) (v := ?_) rfl (by kernel_rfl) (by kernel_rfl) (by kernel_rfl) (fun _ _ _ h => h) (Or.inl ⟨by rfl, ?_⟩) (by assumption) ?_
  rotate_left
  · intro wz hSw
    try dsimp only at hSw
    go_simp
    try with_reducible rfl
  simp only [Act.put, List.setIfInBounds_toArray, List.set_cons_zero, List.set_cons_succ]
  refine wpAnyH_ready (rs := [11]) (by kernel_rfl) (by simp) ?_
  refine AllReadyH.cons (o := ⟨_, _, _, _, _, _⟩) rfl (fun K hK => ?_) AllReadyH.nil
  go_simp
  refine CG.out.mono ?_
  rintro e w2 ⟨rfl, h2, k2⟩
  have hzg : z ≠ gb := by
    obtain ⟨a, ha⟩ := HH1.out.gs.ty
    exact cells_ne G0.out ha (by decide)
  have G1 := Lib.hid ((k2.k.block z (blk_lt G0.out) (by omega)).trans G0.out)
  have H2 := Lib.hid (HH1.out.turn h2 k2 mdOk_close)
  have K2 : Hid (OnlyB (ownP pb gb bb c lo hi L) w w2) := Lib.hid ((OnlyB.of_none KW.out).trans (ownB_g k2.k))
  have b2 : w2.cell? ⟨z, 0, none⟩ = some (.int .i64 (d : Int)) := cell_blk G1.out 0
  have b3 := (p_cells H2.out).1
  clear h2 k2 CG C HH1 G0 KW hzg
  refine hK.out _ _ ⟨b2, b3⟩ (fun hHeld => ?_)
  clear hK K
  try simp only [Act.put, List.setIfInBounds_toArray, List.set_cons_zero, List.set_cons_succ]
  refine wpAnyH_take (i := 12) (oi := ⟨_, _, _, _, _, _⟩) (v := ?_) rfl (by kernel_rfl) (by kernel_rfl) (by kernel_rfl) (fun _ _ _ h => h) (Or.inl ⟨by rfl, ?_⟩) (by assumption) ?_
  rotate_left
  · intro wz hSw
    try dsimp only at hSw
    go_simp
    try with_reducible rfl
  simp only [Act.put, List.setIfInBounds_toArray, List.set_cons_zero, List.set_cons_succ]
  refine wpAnyH_take (i := 13) (oi := ⟨_, _, _, _, _, _⟩) (v := ?_) rfl (by kernel_rfl) (by kernel_rfl) (by kernel_rfl) (fun _ _ _ h => h) (Or.inl ⟨by rfl, ?_⟩) (by assumption) ?_
  rotate_left
  · intro wz hSw
    try dsimp only at hSw
    go_simp
    try with_reducible rfl
  simp only [Act.put, List.setIfInBounds_toArray, List.set_cons_zero, List.set_cons_succ]
  refine wpAnyH_done (by kernel_rfl) ?_ _
  clear hHeld b0 b1 b3
  go_wp2
  go_ret
  exact ⟨rfl, H2.out, K2.out⟩

set_option maxHeartbeats 4000000 in
theorem po_close_t (H : PoM w pb gb bb c qb lo hi n cap T D Mx G L f Q) (d : Nat) (hd : d < n) (ho : (G d).op = true) : Calls Try.prog 11 #[.pointer (some ⟨pb, 0, none⟩), .int .i64 d] w fun e w' => e = .returned (.bool true) ∧ PoM w' pb gb bb c qb lo hi n cap T D Mx (updG G d (gClose (G d)).1) (L.filter fun x => decide (x.2.1 ≠ (d : Int))) f (dropD T D Q d) ∧ OnlyB (ownP pb gb bb c lo hi L) w w' := by
  have ka := World.grownBy_alloc w (.cells #[.int .i64 d] 3) none
  have h0 : (w.alloc (.cells #[.int .i64 (d : Int)] 3)).heap[w.heap.size]? = some (.cells #[.int .i64 (d : Int)] 3 (0, 0)) := heap_alloc_new _ _
  have H1 := (H.kept ka).drew
  have hzb : hi ≤ w.heap.size := H.qhi
  have C := Lib.hid (po_has H1 d)
  rw [show hasD n d = true by unfold hasD; simp [hd]] at C
  have CG := Lib.hid (go_close (H1.gs.gt d hd))
  have g0 : (w.alloc (.cells #[.int .i64 (d : Int)] 3)).drew.heap[w.heap.size]? = some (.cells #[.int .i64 (d : Int)] 3 (0, 0)) := h0
  have b0 : (w.alloc (.cells #[.int .i64 (d : Int)] 3)).drew.cell? ⟨w.heap.size, 0, none⟩ = some (.int .i64 (d : Int)) := cell_blk g0 0
  have b1 := (p_cells H1).1
  have KW := Lib.hid (gd ka)
  have HH1 := Lib.hid H1
  have hn := H.nb.1
  have G0 := Lib.hid g0
  have hcl : (gClose (G d)).2 = (G d).op := rfl
  rw [hcl, ho] at CG
  clear H H1 ka h0 g0 hcl
  go_enter Try.func11, Try.ntmps11
  go_wp2_with fail
  generalize hz : w.heap.size = z at *
  generalize (w.alloc (.cells #[.int .i64 (d : Int)] 3)) = wa at *
  refine wp_region_held_drew (S := fun w' => w'.cell? ⟨z, 0, none⟩ = some (.int .i64 (d : Int)) ∧ w'.cell? ⟨pb, 0, none⟩ = some (.slice (some ⟨gb, 0, none⟩) n n)) (by kernel_rfl) ⟨b0, b1⟩ (fun hHeld => ?_)
  refine wpAnyH_take (i := 0) (oi := ⟨_, _, _, _, _, _⟩) (v := ?_) rfl (by kernel_rfl) (by kernel_rfl) (by kernel_rfl) (fun _ _ _ h => h) (Or.inl ⟨by rfl, ?_⟩) (by assumption) ?_
  rotate_left
  · intro wz hSw
    try dsimp only at hSw
    go_simp
    try with_reducible rfl
  simp only [Act.put, List.setIfInBounds_toArray, List.set_cons_zero, List.set_cons_succ]
  refine wpAnyH_take (i := 1) (oi := ⟨_, _, _, _, _, _⟩) (v := ?_) rfl (by kernel_rfl) (by kernel_rfl) (by kernel_rfl) (fun _ _ _ h => h) (Or.inl ⟨by rfl, ?_⟩) (by assumption) ?_
  rotate_left
  · intro wz hSw
    try dsimp only at hSw
    go_simp
    try with_reducible rfl
  simp only [Act.put, List.setIfInBounds_toArray, List.set_cons_zero, List.set_cons_succ]
  refine wpAnyH_ready (rs := [2]) (by kernel_rfl) (by simp) ?_
  refine AllReadyH.cons (o := ⟨_, _, _, _, _, _⟩) rfl (fun K hK => ?_) AllReadyH.nil
  go_simp
  refine C.out.mono ?_
  rintro e w1 ⟨rfl, rfl⟩
  refine hK.out _ _ ⟨b0, b1⟩ (fun hHeld => ?_)
  clear hK K
  try simp only [Act.put, List.setIfInBounds_toArray, List.set_cons_zero, List.set_cons_succ]
  refine wpAnyH_take (i := 3) (oi := ⟨_, _, _, _, _, _⟩) (v := ?_) rfl (by kernel_rfl) (by kernel_rfl) (by kernel_rfl) (fun _ _ _ h => h) (Or.inl ⟨by rfl, ?_⟩) (by assumption) ?_
  rotate_left
  · intro wz hSw
    try dsimp only at hSw
    go_simp
    try with_reducible rfl
  simp only [Act.put, List.setIfInBounds_toArray, List.set_cons_zero, List.set_cons_succ]
  refine wpAnyH_take (i := 4) (oi := ⟨_, _, _, _, _, _⟩) (v := ?_) rfl (by kernel_rfl) (by kernel_rfl) (by kernel_rfl) (fun _ _ _ h => h) (Or.inl ⟨by rfl, ?_⟩) (by assumption) ?_
  rotate_left
  · intro wz hSw
    try dsimp only at hSw
    go_simp
    try with_reducible rfl
  simp only [Act.put, List.setIfInBounds_toArray, List.set_cons_zero, List.set_cons_succ]
  refine wpAnyH_take (i := 5) (oi := ⟨_, _, _, _, _, _⟩) (v := ?_) rfl (by kernel_rfl) (by kernel_rfl) (by kernel_rfl) (fun _ _ _ h => h) (Or.inl ⟨by rfl, ?_⟩) (by assumption) ?_
  rotate_left
  · intro wz hSw
    try dsimp only at hSw
    go_simp
    try with_reducible rfl
  simp only [Act.put, List.setIfInBounds_toArray, List.set_cons_zero, List.set_cons_succ]
  refine wpAnyH_take (i := 6) (oi := ⟨_, _, _, _, _, _⟩) (v := ?_) rfl (by kernel_rfl) (by kernel_rfl) (by kernel_rfl) (fun _ _ _ h => h) (Or.inl ⟨by rfl, ?_⟩) (by assumption) ?_
  rotate_left
  · intro wz hSw
    try dsimp only at hSw
    go_simp
    try with_reducible rfl
  simp only [Act.put, List.setIfInBounds_toArray, List.set_cons_zero, List.set_cons_succ]
  refine wpAnyH_take (i := 7) (oi := ⟨_, _, _, _, _, _⟩) (v := ?_) rfl (by kernel_rfl) (by kernel_rfl) (by kernel_rfl) (fun _ _ _ h => h) (Or.inl ⟨by rfl, ?_⟩) (by assumption) ?_
  rotate_left
  · intro wz hSw
    try dsimp only at hSw
    go_simp
    try with_reducible rfl
  simp only [Act.put, List.setIfInBounds_toArray, List.set_cons_zero, List.set_cons_succ]
  refine wpAnyH_take (i := 8) (oi := ⟨_, _, _, _, _, _⟩) (v := ?_) rfl (by kernel_rfl) (by kernel_rfl) (by kernel_rfl) (fun _ _ _ h => h) (Or.inl ⟨by rfl, ?_⟩) (by assumption) ?_
  rotate_left
  · intro wz hSw
    try dsimp only at hSw
    go_simp
    try with_reducible rfl
  simp only [Act.put, List.setIfInBounds_toArray, List.set_cons_zero, List.set_cons_succ]
  refine wpAnyH_take (i := 9) (oi := ⟨_, _, _, _, _, _⟩) (v := ?_) rfl (by kernel_rfl) (by kernel_rfl) (by kernel_rfl) (fun _ _ _ h => h) (Or.inl ⟨by rfl, ?_⟩) (by assumption) ?_
  rotate_left
  · intro wz hSw
    try dsimp only at hSw
    go_simp
    try with_reducible rfl
  simp only [Act.put, List.setIfInBounds_toArray, List.set_cons_zero, List.set_cons_succ]
  refine wpAnyH_take (i := 10) (oi := ⟨_, _, _, _, _, _⟩) (v := ?_) rfl (by kernel_rfl) (by kernel_rfl) (by kernel_rfl) (fun _ _ _ h => h) (Or.inl ⟨by rfl, ?_⟩) (by assumption) ?_
  rotate_left
  · intro wz hSw
    try dsimp only at hSw
    go_simp
    try with_reducible rfl
  simp only [Act.put, List.setIfInBounds_toArray, List.set_cons_zero, List.set_cons_succ]
  refine wpAnyH_ready (rs := [11]) (by kernel_rfl) (by simp) ?_
  refine AllReadyH.cons (o := ⟨_, _, _, _, _, _⟩) rfl (fun K hK => ?_) AllReadyH.nil
  go_simp
  refine CG.out.mono ?_
  rintro e w2 ⟨rfl, h2, k2⟩
  have hzg : z ≠ gb := by
    obtain ⟨a, ha⟩ := HH1.out.gs.ty
    exact cells_ne G0.out ha (by decide)
  have G1 := Lib.hid ((k2.k.block z (blk_lt G0.out) (by omega)).trans G0.out)
  have H2 := Lib.hid (HH1.out.turn h2 k2 mdOk_close)
  have K2 : Hid (OnlyB (ownP pb gb bb c lo hi L) w w2) := Lib.hid ((OnlyB.of_none KW.out).trans (ownB_g k2.k))
  have b2 : w2.cell? ⟨z, 0, none⟩ = some (.int .i64 (d : Int)) := cell_blk G1.out 0
  have b3 := (p_cells H2.out).1
  clear h2 k2 CG C HH1 G0 KW hzg
  refine hK.out _ _ ⟨b2, b3⟩ (fun hHeld => ?_)
  clear hK K
  try simp only [Act.put, List.setIfInBounds_toArray, List.set_cons_zero, List.set_cons_succ]
  refine wpAnyH_take (i := 12) (oi := ⟨_, _, _, _, _, _⟩) (v := ?_) rfl (by kernel_rfl) (by kernel_rfl) (by kernel_rfl) (fun _ _ _ h => h) (Or.inl ⟨by rfl, ?_⟩) (by assumption) ?_
  rotate_left
  · intro wz hSw
    try dsimp only at hSw
    go_simp
    try with_reducible rfl
  simp only [Act.put, List.setIfInBounds_toArray, List.set_cons_zero, List.set_cons_succ]
  refine wpAnyH_take (i := 13) (oi := ⟨_, _, _, _, _, _⟩) (v := ?_) rfl (by kernel_rfl) (by kernel_rfl) (by kernel_rfl) (fun _ _ _ h => h) (Or.inl ⟨by rfl, ?_⟩) (by assumption) ?_
  rotate_left
  · intro wz hSw
    try dsimp only at hSw
    go_simp
    try with_reducible rfl
  simp only [Act.put, List.setIfInBounds_toArray, List.set_cons_zero, List.set_cons_succ]
  refine wpAnyH_done (by kernel_rfl) ?_ _
  clear hHeld b0 b1 b3
  have H3 := Lib.hid H2.out.drew
  have K3 : Hid (OnlyB (ownP pb gb bb c lo hi L) w w2.drew) := Lib.hid (K2.out.trans (OnlyB.of_none (gd (World.grownBy.refl _ _))))
  have G2 : Hid (w2.drew.heap[z]? = some (.cells #[.int .i64 (d : Int)] 3 (0, 0))) := Lib.hid G1.out
  have t0 := (p_cells H3.out).2.2.1
  have s0 : w2.drew.cell? ⟨z, 0, none⟩ = some (.int .i64 (d : Int)) := b2
  have CT := Lib.hid (po_thing (w := w2.drew) d)
  clear H2 K2 G1 b2
  go_wp2_with fail
  go_region_held3 (fun w' => w'.cell? ⟨pb, 2, none⟩ = some (.pointer (some ⟨qb, 0, none⟩)) ∧ w'.cell? ⟨z, 0, none⟩ = some (.int .i64 (d : Int))) (first | exact ⟨t0, s0⟩ | exact ⟨t1, s1⟩ | exact ⟨t2, s2⟩)
    (first
      | (go_at_call 31; (with_reducible refine CT.out.mono ?_); rintro e w3 ⟨rfl, k3⟩; have H4 := Lib.hid (H3.out.kept k3); have G3 := Lib.hid ((k3.block z (blk_lt G2.out) (by simp)).trans G2.out); have t1 := (p_cells H4.out).2.2.1; have s1 : w3.cell? ⟨z, 0, none⟩ = some (.int .i64 (d : Int)) := cell_blk G3.out 0; have CD := Lib.hid (qu_dropD H4.out.qu d))
      | (go_at_call 30; (with_reducible refine CD.out.mono ?_); rintro e w4 ⟨b4, rfl, k4, h4⟩; have H5 := Lib.hid (H4.out.queue k4 h4); have G4 := Lib.hid ((k4.block z (blk_lt G3.out) (Or.inr hzb)).trans G3.out); have t2 := (p_cells H5.out).2.2.1; have s2 : w4.cell? ⟨z, 0, none⟩ = some (.int .i64 (d : Int)) := cell_blk G4.out 0))
  have K4 : Hid (OnlyB (ownP pb gb bb c lo hi L) w w4) := Lib.hid ((K3.out.trans (OnlyB.of_none k3)).trans (ownB_q k4))
  have c1 := (p_cells H5.out).2.1
  have CS := Lib.hid (BN.sift_law (fun v => decide (v.1 ≠ (d : Int))) z #[.int .i64 (d : Int)] 3 (by decide) (fun w z0 hob => close1 (d : Int) z z0 hob) H5.out.bx G4.out)
  clear k3 k4 h4 CT CD t0 t1 t2 s0 s1 s2 K3 G2 G3 G4 H3 H4
  go_wp2_with fail
  refine CS.out.mono ?_
  rintro e w5 ⟨rfl, h5, k5⟩
  have R := Lib.hid (And.intro h5 k5)
  clear h5 k5 CS c1
  go_wp2
  go_ret
  exact ⟨rfl, H5.out.notes R.out.2 R.out.1 (fun x hx => Or.inl (List.mem_filter.1 hx).1), K4.out.trans (ownB_n R.out.2)⟩
end
end Go.Proofs.Ytpnipmjjhiaieaa
