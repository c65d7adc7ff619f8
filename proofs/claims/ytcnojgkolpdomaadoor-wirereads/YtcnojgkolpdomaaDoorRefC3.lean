/-
  nightjarref14.Read, over this seat's translation.
-/
import Derived.Test.YtcnojgkolpdomaaDoorRefC2
namespace Go.Proofs.YtcnojgkolpdomaaDoor
open Go.RowKit Go.Lib
set_option maxRecDepth 100000
set_option linter.unusedVariables false

/-- A part of a slice that can be read. -/
theorem ReadsB.sub {w : World} {b o cap : Nat} {F : List Nat} (h : ReadsB w (.slice (some ⟨b, o, none⟩) F.length cap) F) (k m c' : Nat) (hk : k + m ≤ F.length) (hc' : c' = cap - k) : ReadsB w (.slice (some ⟨b, o + k, none⟩) m c') ((F.drop k).take m) := by
  subst hc'
  obtain ⟨a, cap', e, h1, h2, h3, h4⟩ := h
  injection e with e1 e2 e3
  subst e1 e3
  have hl : ((F.drop k).take m).length = m := by rw [List.length_take, List.length_drop]; omega
  refine ⟨_, cap - k, by rw [hl], by rw [hl]; omega, by omega, isB_take (isB_drop h3 k) m, fun h0 => ?_⟩
  rw [hl] at h0
  obtain ⟨b', o', e, hb, hc⟩ := h4 (by omega)
  injection e with e
  injection e with e5 e6
  subst e5 e6
  refine ⟨b, o + k, rfl, hb, fun j hj => ?_⟩
  rw [hl] at hj
  rw [Nat.add_assoc, hc (k + j) (by omega), List.getElem_take, List.getElem_drop]

set_option maxHeartbeats 1000000 in
theorem rread_len {w : World} {v : Value} {F : List Nat} (H : ReadsB w v F) (hl : F.length ≠ 25) :
    Calls Tryd.prog 26 #[v] w fun e w' => e = .returned (crV F) ∧ w.grownBy w' none := by
  rw [crV_no (fun h => absurd h hl)]
  obtain ⟨a, cap, rfl, hx1, hx2, hx3, hx4⟩ := H
  clear hx1 hx2 hx3 hx4
  have q : ((F.length : Int) != 25) = true := by rw [bne_iff_ne]; omega
  generalize F.length = n at *
  clear hl
  go_enter Tryd.func26, Tryd.ntmps26
  go_wp2
  exact bodyPost_ret (v := .tuple #[.agg #[.int .i64 0, .int .u64 0, .int .u64 0, .int .u64 0], .bool false]) (by simp [results, Tryd.results26, go_sem]) rfl ⟨rfl, World.grownBy_alloc w _ none⟩

/-- A call's box of the call's own, still empty. -/
structure ResBox (w wr : World) (X : Nat) : Prop where
  g : w.grownBy wr none
  sz : X < wr.heap.size
  xw : w.heap.size ≤ X
  r0 : wr.cell? ⟨X, 0, none⟩ = some (.int .i64 0)
  r1 : wr.cell? ⟨X, 1, none⟩ = some (.int .u64 0)
  r2 : wr.cell? ⟨X, 2, none⟩ = some (.int .u64 0)
  r3 : wr.cell? ⟨X, 3, none⟩ = some (.int .u64 0)
  rf : ∀ i, wr.frozen? ⟨X, i, none⟩ = false
theorem ResBox.kept {w wr w' : World} {X : Nat} (H : ResBox w wr X) (k : wr.grownBy w' none) : ResBox w w' X := by
  have c : ∀ i, w'.cell? ⟨X, i, none⟩ = wr.cell? ⟨X, i, none⟩ := fun i => k.cell_far ⟨X, i, none⟩ H.sz (by simp)
  have f : ∀ i, w'.frozen? ⟨X, i, none⟩ = wr.frozen? ⟨X, i, none⟩ := fun i => k.frozen_far ⟨X, i, none⟩ H.sz (by simp)
  exact ⟨H.g.trans k, Nat.lt_of_lt_of_le H.sz k.size, H.xw, (c 0).trans H.r0, (c 1).trans H.r1, (c 2).trans H.r2, (c 3).trans H.r3, fun i => (f i).trans (H.rf i)⟩
theorem resbox_new {w wr : World} (g : w.grownBy wr none) : ResBox w (wr.alloc (.cells #[.int .i64 0, .int .u64 0, .int .u64 0, .int .u64 0] 24)) wr.heap.size :=
  ⟨g.trans (World.grownBy_alloc wr _ none), by simp, g.size, World.cell?_alloc_new .., World.cell?_alloc_new .., World.cell?_alloc_new .., World.cell?_alloc_new .., fun i => by simp⟩
theorem ResBox.store {w wr : World} {P : Nat} (H : ResBox w wr P) (f : Int) (y0 y1 y2 : Nat) :
    P < ((((wr.setCell ⟨P, 0, none⟩ (.int .i64 f)).setCell ⟨P, 1, none⟩ (.int .u64 (y0 : Int))).setCell ⟨P, 2, none⟩ (.int .u64 (y1 : Int))).setCell ⟨P, 3, none⟩ (.int .u64 (y2 : Int))).heap.size ∧
    ((((wr.setCell ⟨P, 0, none⟩ (.int .i64 f)).setCell ⟨P, 1, none⟩ (.int .u64 (y0 : Int))).setCell ⟨P, 2, none⟩ (.int .u64 (y1 : Int))).setCell ⟨P, 3, none⟩ (.int .u64 (y2 : Int))).cell? ⟨P, 0, none⟩ = some (.int .i64 f) ∧
    ((((wr.setCell ⟨P, 0, none⟩ (.int .i64 f)).setCell ⟨P, 1, none⟩ (.int .u64 (y0 : Int))).setCell ⟨P, 2, none⟩ (.int .u64 (y1 : Int))).setCell ⟨P, 3, none⟩ (.int .u64 (y2 : Int))).cell? ⟨P, 1, none⟩ = some (.int .u64 (y0 : Int)) ∧
    ((((wr.setCell ⟨P, 0, none⟩ (.int .i64 f)).setCell ⟨P, 1, none⟩ (.int .u64 (y0 : Int))).setCell ⟨P, 2, none⟩ (.int .u64 (y1 : Int))).setCell ⟨P, 3, none⟩ (.int .u64 (y2 : Int))).cell? ⟨P, 2, none⟩ = some (.int .u64 (y1 : Int)) ∧
    ((((wr.setCell ⟨P, 0, none⟩ (.int .i64 f)).setCell ⟨P, 1, none⟩ (.int .u64 (y0 : Int))).setCell ⟨P, 2, none⟩ (.int .u64 (y1 : Int))).setCell ⟨P, 3, none⟩ (.int .u64 (y2 : Int))).cell? ⟨P, 3, none⟩ = some (.int .u64 (y2 : Int)) := by
  have h1 := H.r0; have h2 := H.r1; have h3 := H.r2; have h4 := H.r3; have h5 := H.sz
  have k : ∀ (i : Nat) (w5 : World) (v5 : Value), Only P (P + 1) w5 (w5.setCell ⟨P, i, none⟩ v5) := fun i w5 v5 => Only.set w5 ⟨P, i, none⟩ v5 (Nat.le_refl _) (Nat.lt_succ_self _)
  have ko := (((k 0 wr (.int .i64 f)).trans (k 1 _ (.int .u64 (y0 : Int)))).trans (k 2 _ (.int .u64 (y1 : Int)))).trans (k 3 _ (.int .u64 (y2 : Int)))
  have ot : ∀ (w5 : World) (i j : Nat) (v5 : Value), i ≠ j → (w5.setCell ⟨P, i, none⟩ v5).cell? ⟨P, j, none⟩ = w5.cell? ⟨P, j, none⟩ := fun w5 i j v5 hij => World.cell?_setCell_other _ _ _ _ (by intro h; injection h with _ h; exact hij h)
  refine ⟨Nat.lt_of_lt_of_le h5 ko.size, ?_, ?_, ?_, ?_⟩
  · rw [ot _ 3 0 _ (by decide), ot _ 2 0 _ (by decide), ot _ 1 0 _ (by decide)]; exact World.cell?_setCell_same _ _ _ h1
  · rw [ot _ 3 1 _ (by decide), ot _ 2 1 _ (by decide)]; exact World.cell?_setCell_same _ _ _ ((ot _ 0 1 _ (by decide)).trans h2)
  · rw [ot _ 3 2 _ (by decide)]; exact World.cell?_setCell_same _ _ _ ((ot _ 1 2 _ (by decide)).trans ((ot _ 0 2 _ (by decide)).trans h3))
  · exact World.cell?_setCell_same _ _ _ ((ot _ 2 3 _ (by decide)).trans ((ot _ 1 3 _ (by decide)).trans ((ot _ 0 3 _ (by decide)).trans h4)))
theorem ResBox.off {w wr : World} {X P : Nat} (H : ResBox w wr X) (HP : ResBox w wr P) (hne : X ≠ P) (f : Int) (y0 y1 y2 : Nat) :
    ResBox w ((((wr.setCell ⟨P, 0, none⟩ (.int .i64 f)).setCell ⟨P, 1, none⟩ (.int .u64 (y0 : Int))).setCell ⟨P, 2, none⟩ (.int .u64 (y1 : Int))).setCell ⟨P, 3, none⟩ (.int .u64 (y2 : Int))) X := by
  have k : ∀ (i : Nat) (w5 : World) (v5 : Value), Only P (P + 1) w5 (w5.setCell ⟨P, i, none⟩ v5) := fun i w5 v5 => Only.set w5 ⟨P, i, none⟩ v5 (Nat.le_refl _) (Nat.lt_succ_self _)
  have ko := (((k 0 wr (.int .i64 f)).trans (k 1 _ (.int .u64 (y0 : Int)))).trans (k 2 _ (.int .u64 (y1 : Int)))).trans (k 3 _ (.int .u64 (y2 : Int)))
  have c := fun i => ko.cell ⟨X, i, none⟩ H.sz (by show X < P ∨ P + 1 ≤ X; omega)
  have fr := fun i => ko.frozen ⟨X, i, none⟩ H.sz (by show X < P ∨ P + 1 ≤ X; omega)
  exact ⟨ko.on H.g HP.xw, Nat.lt_of_lt_of_le H.sz ko.size, H.xw, (c 0).trans H.r0, (c 1).trans H.r1, (c 2).trans H.r2, (c 3).trans H.r3, fun i => (fr i).trans (H.rf i)⟩

set_option maxHeartbeats 4000000 in
theorem rread {w : World} {v : Value} {F : List Nat} (H : ReadsB w v F) :
    Calls Tryd.prog 26 #[v] w fun e w' => e = .returned (crV F) ∧ w.grownBy w' none := by
  by_cases hl : F.length ≠ 25
  · exact rread_len H hl
  have hl : F.length = 25 := by omega
  obtain ⟨R, hR⟩ : ∃ R, R = crV F := ⟨_, rfl⟩
  rw [← hR]
  have HV := Lib.hid hR
  clear hR
  obtain ⟨a, cap, rfl, h1, h2, hB, h4⟩ := H
  obtain ⟨b, o, rfl, hb, hc⟩ := h4 (by omega)
  have HH : Hid (ReadsB w (.slice (some ⟨b, o, none⟩) F.length cap) F) := Lib.hid ⟨_, cap, rfl, h1, h2, hB, h4⟩
  have HX : Hid (∀ k wr, k + 8 ≤ 25 → w.grownBy wr none → Calls Tryd.prog 41 #[.slice (some ⟨b, o + k, none⟩) 8 (cap - k)] wr fun e w' => e = .returned (.int .u64 (num ((F.drop k).take 8) : Nat)) ∧ wr.grownBy w' none) := Lib.hid (fun k wr hk hg =>
    rget ((HH.out.grown hg).sub k 8 (cap - k) (by omega) rfl) (by rw [List.length_take, List.length_drop]; omega))
  have hcl : clOf F = ⟨(F[0] : Nat), num ((F.drop 1).take 8), num ((F.drop 9).take 8), num ((F.drop 17).take 8)⟩ := by
    rw [clOf, List.getD_eq_getElem?_getD, List.getElem?_eq_getElem (by omega)]; rfl
  have HCL := Lib.hid hcl
  have hsm := clOf_sm hB hl
  rw [hcl] at hsm
  have c0 := hc 0 (by omega)
  rw [Nat.add_zero] at c0
  have hF0 : F[0] < 256 := hB _ (List.getElem_mem _)
  have hw : IntKind.i64.wrap ((F[0] : Nat) : Int) = ((F[0] : Nat) : Int) := by rw [IntKind.wrap_i64]; omega
  generalize F[0] = f0 at *
  have X1 : Hid (∀ wr, w.grownBy wr none → Calls Tryd.prog 41 #[.slice (some ⟨b, o + 1, none⟩) 8 (cap - 1)] wr fun e w' => e = .returned (.int .u64 (num ((F.drop 1).take 8) : Nat)) ∧ wr.grownBy w' none) := Lib.hid (fun wr hg => HX.out 1 wr (by decide) hg)
  have X2 : Hid (∀ wr, w.grownBy wr none → Calls Tryd.prog 41 #[.slice (some ⟨b, o + 9, none⟩) 8 (cap - 9)] wr fun e w' => e = .returned (.int .u64 (num ((F.drop 9).take 8) : Nat)) ∧ wr.grownBy w' none) := Lib.hid (fun wr hg => HX.out 9 wr (by decide) hg)
  have X3 : Hid (∀ wr, w.grownBy wr none → Calls Tryd.prog 41 #[.slice (some ⟨b, o + 17, none⟩) 8 (cap - 17)] wr fun e w' => e = .returned (.int .u64 (num ((F.drop 17).take 8) : Nat)) ∧ wr.grownBy w' none) := Lib.hid (fun wr hg => HX.out 17 wr (by decide) hg)
  generalize num ((F.drop 1).take 8) = y0 at *
  generalize num ((F.drop 9).take 8) = y1 at *
  generalize num ((F.drop 17).take 8) = y2 at *
  have k1 := World.grownBy_alloc w (.cells #[.int .i64 0, .int .u64 0, .int .u64 0, .int .u64 0] 24) none
  have hcap : 25 ≤ cap := by omega
  have q9 : (9 : Int) ≤ (cap : Int) := by omega
  have q17 : (17 : Int) ≤ (cap : Int) := by omega
  have q25 : (25 : Int) ≤ (cap : Int) := by omega
  have n1 : ¬ cap = 1 := by omega
  have n9 : ¬ cap = 9 := by omega
  have n17 : ¬ cap = 17 := by omega
  rw [hl]
  clear h4 hc hcl HX h1
  go_enter Tryd.func26, Tryd.ntmps26
  go_wp2_with fail
  have c0a := ((World.grownBy_alloc w (.cells #[.int .i64 0, .int .u64 0, .int .u64 0, .int .u64 0] 24) none).cell_far ⟨b, o, none⟩ hb (by simp)).trans c0
  have kd := k1.trans (⟨rfl, rfl, rfl, Nat.le_refl _, fun _ _ _ => rfl⟩ : (w.alloc (.cells #[.int .i64 0, .int .u64 0, .int .u64 0, .int .u64 0] 24)).grownBy (w.alloc (.cells #[.int .i64 0, .int .u64 0, .int .u64 0, .int .u64 0] 24)).drew none)
  have c0d : (w.alloc (.cells #[.int .i64 0, .int .u64 0, .int .u64 0, .int .u64 0] 24)).drew.cell? ⟨b, o, none⟩ = some (.int .u8 (f0 : Int)) := c0a
  refine wp_region_held_drew (S := fun w' => w'.cell? ⟨b, o, none⟩ = some (.int .u8 (f0 : Int))) (by kernel_rfl) c0d (fun hHeld => ?_)
  refine wpAnyH_take (i := 0) (oi := ⟨_, _, _, _, _, _⟩) (v := ?_) rfl (by kernel_rfl) (by kernel_rfl) (by kernel_rfl) (fun _ _ _ h => h) (Or.inl ⟨by rfl, ?_⟩) (by assumption) ?_
  rotate_left
  · intro wz hSw
    try dsimp only at hSw
    go_simp
    try with_reducible rfl
  simp only [Act.put, List.setIfInBounds_toArray, List.set_cons_zero, List.set_cons_succ]
  refine wpAnyH_take (i := 1) (oi := ⟨_, _, _, _, _, _⟩) (v := ?_) rfl (by kernel_rfl) (by kernel_rfl) (by kernel_rfl) (fun _ _ _ h => h) (Or.inl ⟨by rfl, ?_⟩) (by assumption) ?_
  rotate_left
  · intro wz hSw
    try dsimp only at hSw
    go_simp
    try with_reducible rfl
  simp only [Act.put, List.setIfInBounds_toArray, List.set_cons_zero, List.set_cons_succ]
  refine wpAnyH_take (i := 2) (oi := ⟨_, _, _, _, _, _⟩) (v := ?_) rfl (by kernel_rfl) (by kernel_rfl) (by kernel_rfl) (fun _ _ _ h => h) (Or.inl ⟨by rfl, ?_⟩) (by assumption) ?_
  rotate_left
  · intro wz hSw
    try dsimp only at hSw
    go_simp
    try with_reducible rfl
  simp only [Act.put, List.setIfInBounds_toArray, List.set_cons_zero, List.set_cons_succ]
  refine wpAnyH_take (i := 3) (oi := ⟨_, _, _, _, _, _⟩) (v := ?_) rfl (by kernel_rfl) (by kernel_rfl) (by kernel_rfl) (fun _ _ _ h => h) (Or.inl ⟨by rfl, ?_⟩) (by assumption) ?_
  rotate_left
  · intro wz hSw
    try dsimp only at hSw
    go_simp
    try with_reducible rfl
  simp only [Act.put, List.setIfInBounds_toArray, List.set_cons_zero, List.set_cons_succ]
  refine wpAnyH_take (i := 4) (oi := ⟨_, _, _, _, _, _⟩) (v := ?_) rfl (by kernel_rfl) (by kernel_rfl) (by kernel_rfl) (fun _ _ _ h => h) (Or.inl ⟨by rfl, ?_⟩) (by assumption) ?_
  rotate_left
  · intro wz hSw
    try dsimp only at hSw
    go_simp
    try with_reducible rfl
  simp only [Act.put, List.setIfInBounds_toArray, List.set_cons_zero, List.set_cons_succ]
  refine wpAnyH_take (i := 5) (oi := ⟨_, _, _, _, _, _⟩) (v := ?_) rfl (by kernel_rfl) (by kernel_rfl) (by kernel_rfl) (fun _ _ _ h => h) (Or.inl ⟨by rfl, ?_⟩) (by assumption) ?_
  rotate_left
  · intro wz hSw
    try dsimp only at hSw
    go_simp
    try with_reducible rfl
  simp only [Act.put, List.setIfInBounds_toArray, List.set_cons_zero, List.set_cons_succ]
  refine wpAnyH_take (i := 7) (oi := ⟨_, _, _, _, _, _⟩) (v := ?_) rfl (by kernel_rfl) (by kernel_rfl) (by kernel_rfl) (fun _ _ _ h => h) (Or.inl ⟨by rfl, ?_⟩) (by assumption) ?_
  rotate_left
  · intro wz hSw
    try dsimp only at hSw
    go_simp
    try with_reducible rfl
  simp only [Act.put, List.setIfInBounds_toArray, List.set_cons_zero, List.set_cons_succ]
  refine wpAnyH_take (i := 8) (oi := ⟨_, _, _, _, _, _⟩) (v := ?_) rfl (by kernel_rfl) (by kernel_rfl) (by kernel_rfl) (fun _ _ _ h => h) (Or.inl ⟨by rfl, ?_⟩) (by assumption) ?_
  rotate_left
  · intro wz hSw
    try dsimp only at hSw
    go_simp
    try with_reducible rfl
  simp only [Act.put, List.setIfInBounds_toArray, List.set_cons_zero, List.set_cons_succ]
  refine wpAnyH_take (i := 10) (oi := ⟨_, _, _, _, _, _⟩) (v := ?_) rfl (by kernel_rfl) (by kernel_rfl) (by kernel_rfl) (fun _ _ _ h => h) (Or.inl ⟨by rfl, ?_⟩) (by assumption) ?_
  rotate_left
  · intro wz hSw
    try dsimp only at hSw
    go_simp
    try with_reducible rfl
  simp only [Act.put, List.setIfInBounds_toArray, List.set_cons_zero, List.set_cons_succ]
  refine wpAnyH_take (i := 11) (oi := ⟨_, _, _, _, _, _⟩) (v := ?_) rfl (by kernel_rfl) (by kernel_rfl) (by kernel_rfl) (fun _ _ _ h => h) (Or.inl ⟨by rfl, ?_⟩) (by assumption) ?_
  rotate_left
  · intro wz hSw
    try dsimp only at hSw
    go_simp
    try with_reducible rfl
  simp only [Act.put, List.setIfInBounds_toArray, List.set_cons_zero, List.set_cons_succ]
  obtain ⟨X, hX⟩ : ∃ X, X = w.heap.size := ⟨_, rfl⟩
  have HRB := Lib.hid ((resbox_new (World.grownBy.refl w none)).kept (⟨rfl, rfl, rfl, Nat.le_refl _, fun _ _ _ => rfl⟩ : (w.alloc (.cells #[.int .i64 0, .int .u64 0, .int .u64 0, .int .u64 0] 24)).grownBy (w.alloc (.cells #[.int .i64 0, .int .u64 0, .int .u64 0, .int .u64 0] 24)).drew none))
  have hbs : b < (w.alloc (.cells #[.int .i64 0, .int .u64 0, .int .u64 0, .int .u64 0] 24)).drew.heap.size := by show b < (w.alloc _).heap.size; simp; omega
  rw [← hX] at HRB ⊢
  have HSM := Lib.hid hsm
  clear hX kd k1 c0a hb c0 hsm
  generalize (w.alloc (.cells #[.int .i64 0, .int .u64 0, .int .u64 0, .int .u64 0] 24)).drew = w0 at *
  refine wpAnyH_ready (rs := [6, 14]) (by kernel_rfl) (by simp) ?_
  refine AllReadyH.cons (o := ⟨_, _, _, _, _, _⟩) rfl (fun K hK => ?_) (AllReadyH.cons (o := ⟨_, _, _, _, _, _⟩) rfl (fun K hK => ?_) AllReadyH.nil)
  · skip
    go_simp
    refine (X1.out _ HRB.out.g).mono ?_
    rintro e wc0 ⟨rfl, T⟩
    replace c0d := (T.cell_far ⟨b, o, none⟩ hbs (by simp)).trans c0d
    replace HRB := Lib.hid (HRB.out.kept T)
    have hbs' := Nat.lt_of_lt_of_le hbs T.size
    clear T
    clear hbs
    have hbs := hbs'
    clear hbs'
    refine hK.out _ _ c0d (fun hHeld => ?_)
    clear hK K
    try simp only [Act.put, List.setIfInBounds_toArray, List.set_cons_zero, List.set_cons_succ]
    refine wpAnyH_ready (rs := [9, 14]) (by kernel_rfl) (by simp) ?_
    refine AllReadyH.cons (o := ⟨_, _, _, _, _, _⟩) rfl (fun K hK => ?_) (AllReadyH.cons (o := ⟨_, _, _, _, _, _⟩) rfl (fun K hK => ?_) AllReadyH.nil)
    · skip
      go_simp
      refine (X2.out _ HRB.out.g).mono ?_
      rintro e wc1 ⟨rfl, T⟩
      replace c0d := (T.cell_far ⟨b, o, none⟩ hbs (by simp)).trans c0d
      replace HRB := Lib.hid (HRB.out.kept T)
      have hbs' := Nat.lt_of_lt_of_le hbs T.size
      clear T
      clear hbs
      have hbs := hbs'
      clear hbs'
      refine hK.out _ _ c0d (fun hHeld => ?_)
      clear hK K
      try simp only [Act.put, List.setIfInBounds_toArray, List.set_cons_zero, List.set_cons_succ]
      refine wpAnyH_ready (rs := [12, 14]) (by kernel_rfl) (by simp) ?_
      refine AllReadyH.cons (o := ⟨_, _, _, _, _, _⟩) rfl (fun K hK => ?_) (AllReadyH.cons (o := ⟨_, _, _, _, _, _⟩) rfl (fun K hK => ?_) AllReadyH.nil)
      · skip
        go_simp
        refine (X3.out _ HRB.out.g).mono ?_
        rintro e wc2 ⟨rfl, T⟩
        replace c0d := (T.cell_far ⟨b, o, none⟩ hbs (by simp)).trans c0d
        replace HRB := Lib.hid (HRB.out.kept T)
        have hbs' := Nat.lt_of_lt_of_le hbs T.size
        clear T
        clear hbs
        have hbs := hbs'
        clear hbs'
        refine hK.out _ _ c0d (fun hHeld => ?_)
        clear hK K
        try simp only [Act.put, List.setIfInBounds_toArray, List.set_cons_zero, List.set_cons_succ]
        refine wpAnyH_take (i := 13) (oi := ⟨_, _, _, _, _, _⟩) (v := ?_) rfl (by kernel_rfl) (by kernel_rfl) (by kernel_rfl) (fun _ _ _ h => h) (Or.inl ⟨by rfl, ?_⟩) (by assumption) ?_
        rotate_left
        · intro wz hSw
          try dsimp only at hSw
          go_simp
          try with_reducible rfl
        simp only [Act.put, List.setIfInBounds_toArray, List.set_cons_zero, List.set_cons_succ]
        refine wpAnyH_ready (rs := [14]) (by kernel_rfl) (by simp) ?_
        refine AllReadyH.cons (o := ⟨_, _, _, _, _, _⟩) rfl (fun K hK => ?_) AllReadyH.nil
        go_simp
        obtain ⟨P, hP⟩ : ∃ P, P = wc2.heap.size := ⟨_, rfl⟩
        have T := World.grownBy_alloc wc2 (.cells #[.int .i64 0, .int .u64 0, .int .u64 0, .int .u64 0] 24) none
        have HP := Lib.hid (resbox_new HRB.out.g)
        rw [← hP] at HP ⊢
        have hXP : X ≠ P := by have := HRB.out.sz; omega
        have hbP : P ≠ b := by omega
        replace c0d := (T.cell_far ⟨b, o, none⟩ hbs (by simp)).trans c0d
        replace HRB := Lib.hid (HRB.out.kept T)
        have hbs' := Nat.lt_of_lt_of_le hbs T.size
        clear hbs
        have hbs := hbs'
        clear hbs' T hP
        generalize wc2.alloc (.cells #[.int .i64 0, .int .u64 0, .int .u64 0, .int .u64 0] 24) = wa3 at *
        refine hK.out _ _ c0d (fun hHeld => ?_)
        clear hK K
        try simp only [Act.put, List.setIfInBounds_toArray, List.set_cons_zero, List.set_cons_succ]
        refine wpAnyH_ready (rs := [15]) (by kernel_rfl) (by simp) ?_
        refine AllReadyH.cons (o := ⟨_, _, _, _, _, _⟩) rfl (fun K hK => ?_) AllReadyH.nil
        go_simp
        have HPz := HP.out
        have z0 := HPz.r0
        have z1 := HPz.r1
        have z2 := HPz.r2
        have z3 := HPz.r3
        have f0' := HPz.rf 0
        have f1' := HPz.rf 1
        have f2' := HPz.rf 2
        have f3' := HPz.rf 3
        try go_simp
        have hst := HPz.store (f0 : Int) y0 y1 y2
        have hrk := HRB.out.off HPz hXP (f0 : Int) y0 y1 y2
        have hS9 : ((((wa3.setCell ⟨P, 0, none⟩ (.int .i64 (f0 : Int))).setCell ⟨P, 1, none⟩ (.int .u64 (y0 : Int))).setCell ⟨P, 2, none⟩ (.int .u64 (y1 : Int))).setCell ⟨P, 3, none⟩ (.int .u64 (y2 : Int))).cell? ⟨b, o, none⟩ = some (.int .u8 (f0 : Int)) := by
          rw [World.cell?_setCell_far _ _ _ _ hbP, World.cell?_setCell_far _ _ _ _ hbP, World.cell?_setCell_far _ _ _ _ hbP, World.cell?_setCell_far _ _ _ _ hbP]; exact c0d
        clear HPz z0 z1 z2 z3 f0' f1' f2' f3'
        refine hK.out _ _ hS9 (fun hHeld => ?_)
        clear hK K
        try simp only [Act.put, List.setIfInBounds_toArray, List.set_cons_zero, List.set_cons_succ]
        refine wpAnyH_done (by kernel_rfl) ?_ _
        clear hHeld hS9 c0d
        generalize ((((wa3.setCell ⟨P, 0, none⟩ (.int .i64 (f0 : Int))).setCell ⟨P, 1, none⟩ (.int .u64 (y0 : Int))).setCell ⟨P, 2, none⟩ (.int .u64 (y1 : Int))).setCell ⟨P, 3, none⟩ (.int .u64 (y2 : Int))) = w8 at *
        obtain ⟨hsP, x0, x1, x2, x3⟩ := hst
        have HRK := Lib.hid hrk
        clear hrk
        have CR := Lib.hid (rright w8 _ HSM.out)
        unfold Cl.val at CR
        simp only at CR
        go_wp2_with fail
        refine CR.out.mono ?_
        rintro e w9 ⟨rfl, g9⟩
        have H9 := HRK.out.kept g9
        replace x0 := (g9.cell_far ⟨P, 0, none⟩ hsP (by simp)).trans x0
        replace x1 := (g9.cell_far ⟨P, 1, none⟩ hsP (by simp)).trans x1
        replace x2 := (g9.cell_far ⟨P, 2, none⟩ hsP (by simp)).trans x2
        replace x3 := (g9.cell_far ⟨P, 3, none⟩ hsP (by simp)).trans x3
        have r0 := H9.r0
        have r1 := H9.r1
        have r2 := H9.r2
        have r3 := H9.r3
        have z0 := H9.rf 0
        have z1 := H9.rf 1
        have z2 := H9.rf 2
        have z3 := H9.rf 3
        have G9 := Lib.hid H9.g
        have HB9 := Lib.hid H9.xw
        clear H9 g9 CR HRK hsP
        have ko : ∀ (i : Nat) (w5 : World) (v5 : Value), Only X (X + 1) w5 (w5.setCell ⟨X, i, none⟩ v5) := fun i w5 v5 => Only.set w5 ⟨X, i, none⟩ v5 (Nat.le_refl _) (Nat.lt_succ_self _)
        have KO := Lib.hid ko
        clear ko
        obtain ⟨ok, hok⟩ : ∃ ok, ok = okC ⟨(f0 : Int), y0, y1, y2⟩ := ⟨_, rfl⟩
        rw [← hok]
        cases ok with
        | false =>
          have hRf := HV.out.trans (crV_no (fun _ => by rw [HCL.out]; exact hok.symm))
          subst hRf
          clear hok
          go_wp2
          exact bodyPost_ret (v := .tuple #[.agg #[.int .i64 0, .int .u64 0, .int .u64 0, .int .u64 0], .bool false]) (by simp [results, Tryd.results26, go_sem, r0, r1, r2, r3]) rfl
            ⟨rfl, Only.on G9.out ((((KO.out 0 _ _).trans (KO.out 1 _ _)).trans (KO.out 2 _ _)).trans (KO.out 3 _ _)) HB9.out⟩
        | true =>
          have hRt := HV.out.trans (crV_ok hl (by rw [HCL.out]; exact hok.symm))
          rw [HCL.out] at hRt
          unfold Cl.val at hRt
          simp only at hRt
          subst hRt
          clear hok
          go_wp2
          exact bodyPost_ret (v := .tuple #[.agg #[.int .i64 (f0 : Int), .int .u64 (y0 : Int), .int .u64 (y1 : Int), .int .u64 (y2 : Int)], .bool true]) (by simp [results, Tryd.results26, go_sem, r0, r1, r2, r3]) rfl
            ⟨rfl, Only.on G9.out ((((KO.out 0 _ _).trans (KO.out 1 _ _)).trans (KO.out 2 _ _)).trans (KO.out 3 _ _)) HB9.out⟩
      · skip
        go_simp
        obtain ⟨P, hP⟩ : ∃ P, P = wc1.heap.size := ⟨_, rfl⟩
        have T := World.grownBy_alloc wc1 (.cells #[.int .i64 0, .int .u64 0, .int .u64 0, .int .u64 0] 24) none
        have HP := Lib.hid (resbox_new HRB.out.g)
        rw [← hP] at HP ⊢
        have hXP : X ≠ P := by have := HRB.out.sz; omega
        have hbP : P ≠ b := by omega
        replace c0d := (T.cell_far ⟨b, o, none⟩ hbs (by simp)).trans c0d
        replace HRB := Lib.hid (HRB.out.kept T)
        have hbs' := Nat.lt_of_lt_of_le hbs T.size
        clear hbs
        have hbs := hbs'
        clear hbs' T hP
        generalize wc1.alloc (.cells #[.int .i64 0, .int .u64 0, .int .u64 0, .int .u64 0] 24) = wa4 at *
        refine hK.out _ _ c0d (fun hHeld => ?_)
        clear hK K
        try simp only [Act.put, List.setIfInBounds_toArray, List.set_cons_zero, List.set_cons_succ]
        refine wpAnyH_ready (rs := [12]) (by kernel_rfl) (by simp) ?_
        refine AllReadyH.cons (o := ⟨_, _, _, _, _, _⟩) rfl (fun K hK => ?_) AllReadyH.nil
        go_simp
        refine (X3.out _ HRB.out.g).mono ?_
        rintro e wc5 ⟨rfl, T⟩
        replace c0d := (T.cell_far ⟨b, o, none⟩ hbs (by simp)).trans c0d
        replace HRB := Lib.hid (HRB.out.kept T)
        have hbs' := Nat.lt_of_lt_of_le hbs T.size
        replace HP := Lib.hid (HP.out.kept T)
        clear T
        clear hbs
        have hbs := hbs'
        clear hbs'
        refine hK.out _ _ c0d (fun hHeld => ?_)
        clear hK K
        try simp only [Act.put, List.setIfInBounds_toArray, List.set_cons_zero, List.set_cons_succ]
        refine wpAnyH_take (i := 13) (oi := ⟨_, _, _, _, _, _⟩) (v := ?_) rfl (by kernel_rfl) (by kernel_rfl) (by kernel_rfl) (fun _ _ _ h => h) (Or.inl ⟨by rfl, ?_⟩) (by assumption) ?_
        rotate_left
        · intro wz hSw
          try dsimp only at hSw
          go_simp
          try with_reducible rfl
        simp only [Act.put, List.setIfInBounds_toArray, List.set_cons_zero, List.set_cons_succ]
        refine wpAnyH_ready (rs := [15]) (by kernel_rfl) (by simp) ?_
        refine AllReadyH.cons (o := ⟨_, _, _, _, _, _⟩) rfl (fun K hK => ?_) AllReadyH.nil
        go_simp
        have HPz := HP.out
        have z0 := HPz.r0
        have z1 := HPz.r1
        have z2 := HPz.r2
        have z3 := HPz.r3
        have f0' := HPz.rf 0
        have f1' := HPz.rf 1
        have f2' := HPz.rf 2
        have f3' := HPz.rf 3
        try go_simp
        have hst := HPz.store (f0 : Int) y0 y1 y2
        have hrk := HRB.out.off HPz hXP (f0 : Int) y0 y1 y2
        have hS9 : ((((wc5.setCell ⟨P, 0, none⟩ (.int .i64 (f0 : Int))).setCell ⟨P, 1, none⟩ (.int .u64 (y0 : Int))).setCell ⟨P, 2, none⟩ (.int .u64 (y1 : Int))).setCell ⟨P, 3, none⟩ (.int .u64 (y2 : Int))).cell? ⟨b, o, none⟩ = some (.int .u8 (f0 : Int)) := by
          rw [World.cell?_setCell_far _ _ _ _ hbP, World.cell?_setCell_far _ _ _ _ hbP, World.cell?_setCell_far _ _ _ _ hbP, World.cell?_setCell_far _ _ _ _ hbP]; exact c0d
        clear HPz z0 z1 z2 z3 f0' f1' f2' f3'
        refine hK.out _ _ hS9 (fun hHeld => ?_)
        clear hK K
        try simp only [Act.put, List.setIfInBounds_toArray, List.set_cons_zero, List.set_cons_succ]
        refine wpAnyH_done (by kernel_rfl) ?_ _
        clear hHeld hS9 c0d
        generalize ((((wc5.setCell ⟨P, 0, none⟩ (.int .i64 (f0 : Int))).setCell ⟨P, 1, none⟩ (.int .u64 (y0 : Int))).setCell ⟨P, 2, none⟩ (.int .u64 (y1 : Int))).setCell ⟨P, 3, none⟩ (.int .u64 (y2 : Int))) = w8 at *
        obtain ⟨hsP, x0, x1, x2, x3⟩ := hst
        have HRK := Lib.hid hrk
        clear hrk
        have CR := Lib.hid (rright w8 _ HSM.out)
        unfold Cl.val at CR
        simp only at CR
        go_wp2_with fail
        refine CR.out.mono ?_
        rintro e w9 ⟨rfl, g9⟩
        have H9 := HRK.out.kept g9
        replace x0 := (g9.cell_far ⟨P, 0, none⟩ hsP (by simp)).trans x0
        replace x1 := (g9.cell_far ⟨P, 1, none⟩ hsP (by simp)).trans x1
        replace x2 := (g9.cell_far ⟨P, 2, none⟩ hsP (by simp)).trans x2
        replace x3 := (g9.cell_far ⟨P, 3, none⟩ hsP (by simp)).trans x3
        have r0 := H9.r0
        have r1 := H9.r1
        have r2 := H9.r2
        have r3 := H9.r3
        have z0 := H9.rf 0
        have z1 := H9.rf 1
        have z2 := H9.rf 2
        have z3 := H9.rf 3
        have G9 := Lib.hid H9.g
        have HB9 := Lib.hid H9.xw
        clear H9 g9 CR HRK hsP
        have ko : ∀ (i : Nat) (w5 : World) (v5 : Value), Only X (X + 1) w5 (w5.setCell ⟨X, i, none⟩ v5) := fun i w5 v5 => Only.set w5 ⟨X, i, none⟩ v5 (Nat.le_refl _) (Nat.lt_succ_self _)
        have KO := Lib.hid ko
        clear ko
        obtain ⟨ok, hok⟩ : ∃ ok, ok = okC ⟨(f0 : Int), y0, y1, y2⟩ := ⟨_, rfl⟩
        rw [← hok]
        cases ok with
        | false =>
          have hRf := HV.out.trans (crV_no (fun _ => by rw [HCL.out]; exact hok.symm))
          subst hRf
          clear hok
          go_wp2
          exact bodyPost_ret (v := .tuple #[.agg #[.int .i64 0, .int .u64 0, .int .u64 0, .int .u64 0], .bool false]) (by simp [results, Tryd.results26, go_sem, r0, r1, r2, r3]) rfl
            ⟨rfl, Only.on G9.out ((((KO.out 0 _ _).trans (KO.out 1 _ _)).trans (KO.out 2 _ _)).trans (KO.out 3 _ _)) HB9.out⟩
        | true =>
          have hRt := HV.out.trans (crV_ok hl (by rw [HCL.out]; exact hok.symm))
          rw [HCL.out] at hRt
          unfold Cl.val at hRt
          simp only at hRt
          subst hRt
          clear hok
          go_wp2
          exact bodyPost_ret (v := .tuple #[.agg #[.int .i64 (f0 : Int), .int .u64 (y0 : Int), .int .u64 (y1 : Int), .int .u64 (y2 : Int)], .bool true]) (by simp [results, Tryd.results26, go_sem, r0, r1, r2, r3]) rfl
            ⟨rfl, Only.on G9.out ((((KO.out 0 _ _).trans (KO.out 1 _ _)).trans (KO.out 2 _ _)).trans (KO.out 3 _ _)) HB9.out⟩
    · skip
      go_simp
      obtain ⟨P, hP⟩ : ∃ P, P = wc0.heap.size := ⟨_, rfl⟩
      have T := World.grownBy_alloc wc0 (.cells #[.int .i64 0, .int .u64 0, .int .u64 0, .int .u64 0] 24) none
      have HP := Lib.hid (resbox_new HRB.out.g)
      rw [← hP] at HP ⊢
      have hXP : X ≠ P := by have := HRB.out.sz; omega
      have hbP : P ≠ b := by omega
      replace c0d := (T.cell_far ⟨b, o, none⟩ hbs (by simp)).trans c0d
      replace HRB := Lib.hid (HRB.out.kept T)
      have hbs' := Nat.lt_of_lt_of_le hbs T.size
      clear hbs
      have hbs := hbs'
      clear hbs' T hP
      generalize wc0.alloc (.cells #[.int .i64 0, .int .u64 0, .int .u64 0, .int .u64 0] 24) = wa6 at *
      refine hK.out _ _ c0d (fun hHeld => ?_)
      clear hK K
      try simp only [Act.put, List.setIfInBounds_toArray, List.set_cons_zero, List.set_cons_succ]
      refine wpAnyH_ready (rs := [9]) (by kernel_rfl) (by simp) ?_
      refine AllReadyH.cons (o := ⟨_, _, _, _, _, _⟩) rfl (fun K hK => ?_) AllReadyH.nil
      go_simp
      refine (X2.out _ HRB.out.g).mono ?_
      rintro e wc7 ⟨rfl, T⟩
      replace c0d := (T.cell_far ⟨b, o, none⟩ hbs (by simp)).trans c0d
      replace HRB := Lib.hid (HRB.out.kept T)
      have hbs' := Nat.lt_of_lt_of_le hbs T.size
      replace HP := Lib.hid (HP.out.kept T)
      clear T
      clear hbs
      have hbs := hbs'
      clear hbs'
      refine hK.out _ _ c0d (fun hHeld => ?_)
      clear hK K
      try simp only [Act.put, List.setIfInBounds_toArray, List.set_cons_zero, List.set_cons_succ]
      refine wpAnyH_ready (rs := [12]) (by kernel_rfl) (by simp) ?_
      refine AllReadyH.cons (o := ⟨_, _, _, _, _, _⟩) rfl (fun K hK => ?_) AllReadyH.nil
      go_simp
      refine (X3.out _ HRB.out.g).mono ?_
      rintro e wc8 ⟨rfl, T⟩
      replace c0d := (T.cell_far ⟨b, o, none⟩ hbs (by simp)).trans c0d
      replace HRB := Lib.hid (HRB.out.kept T)
      have hbs' := Nat.lt_of_lt_of_le hbs T.size
      replace HP := Lib.hid (HP.out.kept T)
      clear T
      clear hbs
      have hbs := hbs'
      clear hbs'
      refine hK.out _ _ c0d (fun hHeld => ?_)
      clear hK K
      try simp only [Act.put, List.setIfInBounds_toArray, List.set_cons_zero, List.set_cons_succ]
      refine wpAnyH_take (i := 13) (oi := ⟨_, _, _, _, _, _⟩) (v := ?_) rfl (by kernel_rfl) (by kernel_rfl) (by kernel_rfl) (fun _ _ _ h => h) (Or.inl ⟨by rfl, ?_⟩) (by assumption) ?_
      rotate_left
      · intro wz hSw
        try dsimp only at hSw
        go_simp
        try with_reducible rfl
      simp only [Act.put, List.setIfInBounds_toArray, List.set_cons_zero, List.set_cons_succ]
      refine wpAnyH_ready (rs := [15]) (by kernel_rfl) (by simp) ?_
      refine AllReadyH.cons (o := ⟨_, _, _, _, _, _⟩) rfl (fun K hK => ?_) AllReadyH.nil
      go_simp
      have HPz := HP.out
      have z0 := HPz.r0
      have z1 := HPz.r1
      have z2 := HPz.r2
      have z3 := HPz.r3
      have f0' := HPz.rf 0
      have f1' := HPz.rf 1
      have f2' := HPz.rf 2
      have f3' := HPz.rf 3
      try go_simp
      have hst := HPz.store (f0 : Int) y0 y1 y2
      have hrk := HRB.out.off HPz hXP (f0 : Int) y0 y1 y2
      have hS9 : ((((wc8.setCell ⟨P, 0, none⟩ (.int .i64 (f0 : Int))).setCell ⟨P, 1, none⟩ (.int .u64 (y0 : Int))).setCell ⟨P, 2, none⟩ (.int .u64 (y1 : Int))).setCell ⟨P, 3, none⟩ (.int .u64 (y2 : Int))).cell? ⟨b, o, none⟩ = some (.int .u8 (f0 : Int)) := by
        rw [World.cell?_setCell_far _ _ _ _ hbP, World.cell?_setCell_far _ _ _ _ hbP, World.cell?_setCell_far _ _ _ _ hbP, World.cell?_setCell_far _ _ _ _ hbP]; exact c0d
      clear HPz z0 z1 z2 z3 f0' f1' f2' f3'
      refine hK.out _ _ hS9 (fun hHeld => ?_)
      clear hK K
      try simp only [Act.put, List.setIfInBounds_toArray, List.set_cons_zero, List.set_cons_succ]
      refine wpAnyH_done (by kernel_rfl) ?_ _
      clear hHeld hS9 c0d
      generalize ((((wc8.setCell ⟨P, 0, none⟩ (.int .i64 (f0 : Int))).setCell ⟨P, 1, none⟩ (.int .u64 (y0 : Int))).setCell ⟨P, 2, none⟩ (.int .u64 (y1 : Int))).setCell ⟨P, 3, none⟩ (.int .u64 (y2 : Int))) = w8 at *
      obtain ⟨hsP, x0, x1, x2, x3⟩ := hst
      have HRK := Lib.hid hrk
      clear hrk
      have CR := Lib.hid (rright w8 _ HSM.out)
      unfold Cl.val at CR
      simp only at CR
      go_wp2_with fail
      refine CR.out.mono ?_
      rintro e w9 ⟨rfl, g9⟩
      have H9 := HRK.out.kept g9
      replace x0 := (g9.cell_far ⟨P, 0, none⟩ hsP (by simp)).trans x0
      replace x1 := (g9.cell_far ⟨P, 1, none⟩ hsP (by simp)).trans x1
      replace x2 := (g9.cell_far ⟨P, 2, none⟩ hsP (by simp)).trans x2
      replace x3 := (g9.cell_far ⟨P, 3, none⟩ hsP (by simp)).trans x3
      have r0 := H9.r0
      have r1 := H9.r1
      have r2 := H9.r2
      have r3 := H9.r3
      have z0 := H9.rf 0
      have z1 := H9.rf 1
      have z2 := H9.rf 2
      have z3 := H9.rf 3
      have G9 := Lib.hid H9.g
      have HB9 := Lib.hid H9.xw
      clear H9 g9 CR HRK hsP
      have ko : ∀ (i : Nat) (w5 : World) (v5 : Value), Only X (X + 1) w5 (w5.setCell ⟨X, i, none⟩ v5) := fun i w5 v5 => Only.set w5 ⟨X, i, none⟩ v5 (Nat.le_refl _) (Nat.lt_succ_self _)
      have KO := Lib.hid ko
      clear ko
      obtain ⟨ok, hok⟩ : ∃ ok, ok = okC ⟨(f0 : Int), y0, y1, y2⟩ := ⟨_, rfl⟩
      rw [← hok]
      cases ok with
      | false =>
        have hRf := HV.out.trans (crV_no (fun _ => by rw [HCL.out]; exact hok.symm))
        subst hRf
        clear hok
        go_wp2
        exact bodyPost_ret (v := .tuple #[.agg #[.int .i64 0, .int .u64 0, .int .u64 0, .int .u64 0], .bool false]) (by simp [results, Tryd.results26, go_sem, r0, r1, r2, r3]) rfl
          ⟨rfl, Only.on G9.out ((((KO.out 0 _ _).trans (KO.out 1 _ _)).trans (KO.out 2 _ _)).trans (KO.out 3 _ _)) HB9.out⟩
      | true =>
        have hRt := HV.out.trans (crV_ok hl (by rw [HCL.out]; exact hok.symm))
        rw [HCL.out] at hRt
        unfold Cl.val at hRt
        simp only at hRt
        subst hRt
        clear hok
        go_wp2
        exact bodyPost_ret (v := .tuple #[.agg #[.int .i64 (f0 : Int), .int .u64 (y0 : Int), .int .u64 (y1 : Int), .int .u64 (y2 : Int)], .bool true]) (by simp [results, Tryd.results26, go_sem, r0, r1, r2, r3]) rfl
          ⟨rfl, Only.on G9.out ((((KO.out 0 _ _).trans (KO.out 1 _ _)).trans (KO.out 2 _ _)).trans (KO.out 3 _ _)) HB9.out⟩
  · skip
    go_simp
    obtain ⟨P, hP⟩ : ∃ P, P = w0.heap.size := ⟨_, rfl⟩
    have T := World.grownBy_alloc w0 (.cells #[.int .i64 0, .int .u64 0, .int .u64 0, .int .u64 0] 24) none
    have HP := Lib.hid (resbox_new HRB.out.g)
    rw [← hP] at HP ⊢
    have hXP : X ≠ P := by have := HRB.out.sz; omega
    have hbP : P ≠ b := by omega
    replace c0d := (T.cell_far ⟨b, o, none⟩ hbs (by simp)).trans c0d
    replace HRB := Lib.hid (HRB.out.kept T)
    have hbs' := Nat.lt_of_lt_of_le hbs T.size
    clear hbs
    have hbs := hbs'
    clear hbs' T hP
    generalize w0.alloc (.cells #[.int .i64 0, .int .u64 0, .int .u64 0, .int .u64 0] 24) = wa9 at *
    refine hK.out _ _ c0d (fun hHeld => ?_)
    clear hK K
    try simp only [Act.put, List.setIfInBounds_toArray, List.set_cons_zero, List.set_cons_succ]
    refine wpAnyH_ready (rs := [6]) (by kernel_rfl) (by simp) ?_
    refine AllReadyH.cons (o := ⟨_, _, _, _, _, _⟩) rfl (fun K hK => ?_) AllReadyH.nil
    go_simp
    refine (X1.out _ HRB.out.g).mono ?_
    rintro e wc10 ⟨rfl, T⟩
    replace c0d := (T.cell_far ⟨b, o, none⟩ hbs (by simp)).trans c0d
    replace HRB := Lib.hid (HRB.out.kept T)
    have hbs' := Nat.lt_of_lt_of_le hbs T.size
    replace HP := Lib.hid (HP.out.kept T)
    clear T
    clear hbs
    have hbs := hbs'
    clear hbs'
    refine hK.out _ _ c0d (fun hHeld => ?_)
    clear hK K
    try simp only [Act.put, List.setIfInBounds_toArray, List.set_cons_zero, List.set_cons_succ]
    refine wpAnyH_ready (rs := [9]) (by kernel_rfl) (by simp) ?_
    refine AllReadyH.cons (o := ⟨_, _, _, _, _, _⟩) rfl (fun K hK => ?_) AllReadyH.nil
    go_simp
    refine (X2.out _ HRB.out.g).mono ?_
    rintro e wc11 ⟨rfl, T⟩
    replace c0d := (T.cell_far ⟨b, o, none⟩ hbs (by simp)).trans c0d
    replace HRB := Lib.hid (HRB.out.kept T)
    have hbs' := Nat.lt_of_lt_of_le hbs T.size
    replace HP := Lib.hid (HP.out.kept T)
    clear T
    clear hbs
    have hbs := hbs'
    clear hbs'
    refine hK.out _ _ c0d (fun hHeld => ?_)
    clear hK K
    try simp only [Act.put, List.setIfInBounds_toArray, List.set_cons_zero, List.set_cons_succ]
    refine wpAnyH_ready (rs := [12]) (by kernel_rfl) (by simp) ?_
    refine AllReadyH.cons (o := ⟨_, _, _, _, _, _⟩) rfl (fun K hK => ?_) AllReadyH.nil
    go_simp
    refine (X3.out _ HRB.out.g).mono ?_
    rintro e wc12 ⟨rfl, T⟩
    replace c0d := (T.cell_far ⟨b, o, none⟩ hbs (by simp)).trans c0d
    replace HRB := Lib.hid (HRB.out.kept T)
    have hbs' := Nat.lt_of_lt_of_le hbs T.size
    replace HP := Lib.hid (HP.out.kept T)
    clear T
    clear hbs
    have hbs := hbs'
    clear hbs'
    refine hK.out _ _ c0d (fun hHeld => ?_)
    clear hK K
    try simp only [Act.put, List.setIfInBounds_toArray, List.set_cons_zero, List.set_cons_succ]
    refine wpAnyH_take (i := 13) (oi := ⟨_, _, _, _, _, _⟩) (v := ?_) rfl (by kernel_rfl) (by kernel_rfl) (by kernel_rfl) (fun _ _ _ h => h) (Or.inl ⟨by rfl, ?_⟩) (by assumption) ?_
    rotate_left
    · intro wz hSw
      try dsimp only at hSw
      go_simp
      try with_reducible rfl
    simp only [Act.put, List.setIfInBounds_toArray, List.set_cons_zero, List.set_cons_succ]
    refine wpAnyH_ready (rs := [15]) (by kernel_rfl) (by simp) ?_
    refine AllReadyH.cons (o := ⟨_, _, _, _, _, _⟩) rfl (fun K hK => ?_) AllReadyH.nil
    go_simp
    have HPz := HP.out
    have z0 := HPz.r0
    have z1 := HPz.r1
    have z2 := HPz.r2
    have z3 := HPz.r3
    have f0' := HPz.rf 0
    have f1' := HPz.rf 1
    have f2' := HPz.rf 2
    have f3' := HPz.rf 3
    try go_simp
    have hst := HPz.store (f0 : Int) y0 y1 y2
    have hrk := HRB.out.off HPz hXP (f0 : Int) y0 y1 y2
    have hS9 : ((((wc12.setCell ⟨P, 0, none⟩ (.int .i64 (f0 : Int))).setCell ⟨P, 1, none⟩ (.int .u64 (y0 : Int))).setCell ⟨P, 2, none⟩ (.int .u64 (y1 : Int))).setCell ⟨P, 3, none⟩ (.int .u64 (y2 : Int))).cell? ⟨b, o, none⟩ = some (.int .u8 (f0 : Int)) := by
      rw [World.cell?_setCell_far _ _ _ _ hbP, World.cell?_setCell_far _ _ _ _ hbP, World.cell?_setCell_far _ _ _ _ hbP, World.cell?_setCell_far _ _ _ _ hbP]; exact c0d
    clear HPz z0 z1 z2 z3 f0' f1' f2' f3'
    refine hK.out _ _ hS9 (fun hHeld => ?_)
    clear hK K
    try simp only [Act.put, List.setIfInBounds_toArray, List.set_cons_zero, List.set_cons_succ]
    refine wpAnyH_done (by kernel_rfl) ?_ _
    clear hHeld hS9 c0d
    generalize ((((wc12.setCell ⟨P, 0, none⟩ (.int .i64 (f0 : Int))).setCell ⟨P, 1, none⟩ (.int .u64 (y0 : Int))).setCell ⟨P, 2, none⟩ (.int .u64 (y1 : Int))).setCell ⟨P, 3, none⟩ (.int .u64 (y2 : Int))) = w8 at *
    obtain ⟨hsP, x0, x1, x2, x3⟩ := hst
    have HRK := Lib.hid hrk
    clear hrk
    have CR := Lib.hid (rright w8 _ HSM.out)
    unfold Cl.val at CR
    simp only at CR
    go_wp2_with fail
    refine CR.out.mono ?_
    rintro e w9 ⟨rfl, g9⟩
    have H9 := HRK.out.kept g9
    replace x0 := (g9.cell_far ⟨P, 0, none⟩ hsP (by simp)).trans x0
    replace x1 := (g9.cell_far ⟨P, 1, none⟩ hsP (by simp)).trans x1
    replace x2 := (g9.cell_far ⟨P, 2, none⟩ hsP (by simp)).trans x2
    replace x3 := (g9.cell_far ⟨P, 3, none⟩ hsP (by simp)).trans x3
    have r0 := H9.r0
    have r1 := H9.r1
    have r2 := H9.r2
    have r3 := H9.r3
    have z0 := H9.rf 0
    have z1 := H9.rf 1
    have z2 := H9.rf 2
    have z3 := H9.rf 3
    have G9 := Lib.hid H9.g
    have HB9 := Lib.hid H9.xw
    clear H9 g9 CR HRK hsP
    have ko : ∀ (i : Nat) (w5 : World) (v5 : Value), Only X (X + 1) w5 (w5.setCell ⟨X, i, none⟩ v5) := fun i w5 v5 => Only.set w5 ⟨X, i, none⟩ v5 (Nat.le_refl _) (Nat.lt_succ_self _)
    have KO := Lib.hid ko
    clear ko
    obtain ⟨ok, hok⟩ : ∃ ok, ok = okC ⟨(f0 : Int), y0, y1, y2⟩ := ⟨_, rfl⟩
    rw [← hok]
    cases ok with
    | false =>
      have hRf := HV.out.trans (crV_no (fun _ => by rw [HCL.out]; exact hok.symm))
      subst hRf
      clear hok
      go_wp2
      exact bodyPost_ret (v := .tuple #[.agg #[.int .i64 0, .int .u64 0, .int .u64 0, .int .u64 0], .bool false]) (by simp [results, Tryd.results26, go_sem, r0, r1, r2, r3]) rfl
        ⟨rfl, Only.on G9.out ((((KO.out 0 _ _).trans (KO.out 1 _ _)).trans (KO.out 2 _ _)).trans (KO.out 3 _ _)) HB9.out⟩
    | true =>
      have hRt := HV.out.trans (crV_ok hl (by rw [HCL.out]; exact hok.symm))
      rw [HCL.out] at hRt
      unfold Cl.val at hRt
      simp only at hRt
      subst hRt
      clear hok
      go_wp2
      exact bodyPost_ret (v := .tuple #[.agg #[.int .i64 (f0 : Int), .int .u64 (y0 : Int), .int .u64 (y1 : Int), .int .u64 (y2 : Int)], .bool true]) (by simp [results, Tryd.results26, go_sem, r0, r1, r2, r3]) rfl
        ⟨rfl, Only.on G9.out ((((KO.out 0 _ _).trans (KO.out 1 _ _)).trans (KO.out 2 _ _)).trans (KO.out 3 _ _)) HB9.out⟩
end Go.Proofs.YtcnojgkolpdomaaDoor
