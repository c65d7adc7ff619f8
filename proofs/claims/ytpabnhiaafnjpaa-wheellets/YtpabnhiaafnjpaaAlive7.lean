/-
  The document's example of wheel.
-/
import Derived.Test.YtpabnhiaafnjpaaWheelTo4
namespace Go.Proofs.Ytpabnhiaafnjpaa
open Go.RowKit Go.Lib
set_option maxRecDepth 100000
set_option linter.unusedVariables false
theorem list_one {R : List Nat} {a : Nat} (hn : R.Nodup) (hm : ∀ k, k ∈ R ↔ k = a) : R = [a] := by
  match R, hn, hm with
  | [], _, hm => exact absurd ((hm a).2 rfl) (by simp)
  | [x], _, hm => rw [(hm x).1 (by simp)]
  | x :: y :: l, hn, hm =>
    have h1 := (hm x).1 (by simp)
    have h2 := (hm y).1 (by simp)
    subst h1
    subst h2
    simp at hn
theorem list_two {R : List Nat} {a b : Nat} (hab : a ≠ b) (hn : R.Nodup) (hm : ∀ k, k ∈ R ↔ k = a ∨ k = b) {P : Nat → Nat → Prop} (hp : R.Pairwise P) (hno : ¬ P b a) : R = [a, b] := by
  match R, hn, hm, hp with
  | [], _, hm, _ => exact absurd ((hm a).2 (Or.inl rfl)) (by simp)
  | [x], _, hm, _ =>
    have h1 := (hm a).2 (Or.inl rfl)
    have h2 := (hm b).2 (Or.inr rfl)
    simp at h1 h2
    omega
  | [x, y], hn, hm, hp =>
    have h1 := (hm x).1 (by simp)
    have h2 := (hm y).1 (by simp)
    have hne : x ≠ y := by simpa using hn
    have hxy : P x y := by simpa using hp
    rcases h1 with rfl | rfl <;> rcases h2 with rfl | rfl
    · exact absurd rfl hne
    · rfl
    · exact absurd hxy hno
    · exact absurd rfl hne
  | x :: y :: z :: l, hn, hm, _ =>
    have h1 := (hm x).1 (by simp)
    have h2 := (hm y).1 (by simp)
    have h3 := (hm z).1 (by simp)
    simp at hn
    omega
def S1 : Nat → Option (Nat × Nat) := upS (fun _ => none) 0 (some (5000, 2))
def S2 : Nat → Option (Nat × Nat) := upS S1 1 (some (5000, 1))
def S3 : Nat → Option (Nat × Nat) := upS S2 2 (some (1099511627776, 0))
def S4 : Nat → Option (Nat × Nat) := upS S3 3 (some (50, 9))
def S5 : Nat → Option (Nat × Nat) := offS S4 [3]
def S6 : Nat → Option (Nat × Nat) := offS S5 [1, 0]
def S7 : Nat → Option (Nat × Nat) := upS S6 2 none
theorem due4 (k : Nat) : dueS S4 4 4999 k ↔ k = 3 := by
  unfold dueS
  constructor
  · rintro ⟨h1, v, h2, h3⟩
    match k, h1 with
    | 0, _ => have e : v = (5000, 2) := (Option.some.inj h2).symm; subst e; simp at h3
    | 1, _ => have e : v = (5000, 1) := (Option.some.inj h2).symm; subst e; simp at h3
    | 2, _ => have e : v = (1099511627776, 0) := (Option.some.inj h2).symm; subst e; simp at h3
    | 3, _ => rfl
  · rintro rfl
    exact ⟨by omega, (50, 9), rfl, by decide⟩
theorem due5 (k : Nat) : dueS S5 4 5000 k ↔ k = 1 ∨ k = 0 := by
  unfold dueS
  constructor
  · rintro ⟨h1, v, h2, h3⟩
    match k, h1 with
    | 0, _ => exact Or.inr rfl
    | 1, _ => exact Or.inl rfl
    | 2, _ => have e : v = (1099511627776, 0) := (Option.some.inj h2).symm; subst e; simp at h3
    | 3, _ => cases h2
  · rintro (rfl | rfl)
    · exact ⟨by omega, (5000, 1), rfl, by decide⟩
    · exact ⟨by omega, (5000, 2), rfl, by decide⟩
theorem S6_all (k : Nat) (v : Nat × Nat) (h : S6 k = some v) : v = (1099511627776, 0) := by
  match k with
  | 0 => cases h
  | 1 => cases h
  | 2 => exact (Option.some.inj h).symm
  | 3 => cases h
  | k + 4 =>
    have e : S6 (k + 4) = none := by
      unfold S6 S5 S4 S3 S2 S1 offS upS
      simp
    rw [e] at h
    cases h
set_option maxRecDepth 100000 in
set_option maxHeartbeats 16000000 in
theorem alive7 (w : World) : Calls Try.prog 10 #[] w fun e w' => e = .returned (.bool true) ∧ w.grownBy w' none := by
  have C0 : Hid (Calls Try.prog 11 #[.int .i64 4, .int .u64 100] w fun e w' => ∃ wb, e = .returned (.pointer (some ⟨wb, 0, none⟩)) ∧ w.grownBy w' none ∧ Wl w' w.heap.size w'.heap.size wb 4 100 (fun _ => none)) := Lib.hid (wl_new 4 100 (by omega) w)
  go_enter Try.func10, Try.ntmps10
  go_wp2_with fail
  refine C0.out.mono ?_
  rintro e w1 ⟨wb, rfl, k1, h1⟩
  have K1 := Lib.hid k1
  have H1 := Lib.hid h1
  have HS1 := Lib.hid (Nat.le_refl w1.heap.size)
  generalize hhi : w1.heap.size = hi at *
  have HI : Hid (hi ≤ w1.heap.size) := Lib.hid (by omega)
  clear k1 h1 hhi C0 HS1
  have CS : Hid (Calls Try.prog 15 #[.pointer (some ⟨wb, 0, none⟩), .int .i64 0, .int .u64 5000, .int .u64 2] w1 fun e w' => e = .returned (.bool true) ∧ Only w.heap.size hi w1 w' ∧ Wl w' w.heap.size hi wb 4 100 S1) := Lib.hid (wl_set H1.out 0 5000 2 (by omega) rfl (by omega) (by omega))
  go_wp2_with fail
  refine CS.out.mono ?_
  rintro e w2 ⟨rfl, k, h⟩
  have H2 := Lib.hid h
  have K2 := Lib.hid (Only.on K1.out k (Nat.le_refl _))
  have HI2 : Hid (hi ≤ w2.heap.size) := Lib.hid (Nat.le_trans HI.out k.size)
  clear k h H1 K1 CS HI
  have CS : Hid (Calls Try.prog 15 #[.pointer (some ⟨wb, 0, none⟩), .int .i64 1, .int .u64 5000, .int .u64 1] w2 fun e w' => e = .returned (.bool true) ∧ Only w.heap.size hi w2 w' ∧ Wl w' w.heap.size hi wb 4 100 S2) := Lib.hid (wl_set H2.out 1 5000 1 (by omega) rfl (by omega) (by omega))
  go_wp2_with fail
  refine CS.out.mono ?_
  rintro e w3 ⟨rfl, k, h⟩
  have H3 := Lib.hid h
  have K3 := Lib.hid (Only.on K2.out k (Nat.le_refl _))
  have HI3 : Hid (hi ≤ w3.heap.size) := Lib.hid (Nat.le_trans HI2.out k.size)
  clear k h H2 K2 CS HI2
  have CS : Hid (Calls Try.prog 15 #[.pointer (some ⟨wb, 0, none⟩), .int .i64 2, .int .u64 1099511627776, .int .u64 0] w3 fun e w' => e = .returned (.bool true) ∧ Only w.heap.size hi w3 w' ∧ Wl w' w.heap.size hi wb 4 100 S3) := Lib.hid (wl_set H3.out 2 1099511627776 0 (by omega) rfl (by omega) (by omega))
  go_wp2_with fail
  refine CS.out.mono ?_
  rintro e w4 ⟨rfl, k, h⟩
  have H4 := Lib.hid h
  have K4 := Lib.hid (Only.on K3.out k (Nat.le_refl _))
  have HI4 : Hid (hi ≤ w4.heap.size) := Lib.hid (Nat.le_trans HI3.out k.size)
  clear k h H3 K3 CS HI3
  have CS : Hid (Calls Try.prog 15 #[.pointer (some ⟨wb, 0, none⟩), .int .i64 2, .int .u64 7, .int .u64 0] w4 fun e w' => e = .returned (.bool false) ∧ w4.grownBy w' none) := Lib.hid (wl_set_no H4.out 2 7 0 (Or.inr ⟨(1099511627776, 0), rfl⟩) (by omega))
  go_wp2_with fail
  refine CS.out.mono ?_
  rintro e w5 ⟨rfl, k⟩
  have H5 := Lib.hid (H4.out.kept k)
  have K5 := Lib.hid (K4.out.trans k)
  have HI5 : Hid (hi ≤ w5.heap.size) := Lib.hid (Nat.le_trans HI4.out k.size)
  clear k H4 K4 CS HI4
  have CS : Hid (Calls Try.prog 15 #[.pointer (some ⟨wb, 0, none⟩), .int .i64 3, .int .u64 50, .int .u64 9] w5 fun e w' => e = .returned (.bool true) ∧ Only w.heap.size hi w5 w' ∧ Wl w' w.heap.size hi wb 4 100 S4) := Lib.hid (wl_set H5.out 3 50 9 (by omega) rfl (by omega) (by omega))
  go_wp2_with fail
  refine CS.out.mono ?_
  rintro e w6 ⟨rfl, k, h⟩
  have H6 := Lib.hid h
  have K6 := Lib.hid (Only.on K5.out k (Nat.le_refl _))
  have HI6 : Hid (hi ≤ w6.heap.size) := Lib.hid (Nat.le_trans HI5.out k.size)
  clear k h H5 K5 CS HI5
  have CT := Lib.hid (wl_to H6.out 4999 (by omega) HI6.out)
  go_wp2_with fail
  refine CT.out.mono ?_
  rintro e w7 ⟨R, r1, cp1, rfl, hro, k, h, hnd, hmem, hsort⟩
  have eR : R = [3] := list_one hnd (fun k => (hmem k).trans (due4 k))
  subst eR
  have H7 : Hid (Wl w7 w.heap.size hi wb 4 4999 S5) := Lib.hid h
  have K7 := Lib.hid (Only.on K6.out k (Nat.le_refl _))
  have HI7 : Hid (hi ≤ w7.heap.size) := Lib.hid (Nat.le_trans HI6.out k.size)
  have R1 := Lib.hid (hro.mono HI6.out)
  clear h hnd hmem hsort hro H6 K6 CT HI6
  clear k
  have CT := Lib.hid (wl_to H7.out 5000 (by omega) HI7.out)
  go_wp2_with fail
  refine CT.out.mono ?_
  rintro e w8 ⟨R, r2, cp2, rfl, hro, k, h, hnd, hmem, hsort⟩
  have eR : R = [1, 0] := list_two (by decide) hnd (fun k => (hmem k).trans (due5 k)) hsort (fun h => h (by unfold ltA; exact Or.inr ⟨rfl, Or.inl (by decide)⟩))
  subst eR
  have H8 : Hid (Wl w8 w.heap.size hi wb 4 5000 S6) := Lib.hid h
  have K8 := Lib.hid (Only.on K7.out k (Nat.le_refl _))
  have HI8 : Hid (hi ≤ w8.heap.size) := Lib.hid (Nat.le_trans HI7.out k.size)
  have R2 := Lib.hid (hro.mono HI7.out)
  clear h hnd hmem hsort hro H7 K7 CT HI7
  have R1b := Lib.hid (R1.out.only k (Or.inr R1.out.lt.1))
  clear R1 k
  have CA : Hid (Calls Try.prog 21 #[.pointer (some ⟨wb, 0, none⟩), .int .i64 2] w8 fun e w' => e = .returned (.tuple #[.int .u64 1099511627776, .int .u64 0, .bool true]) ∧ w8.grownBy w' none) := Lib.hid (wl_at_some H8.out 2 (1099511627776, 0) (by omega) rfl)
  go_wp2_with fail
  refine CA.out.mono ?_
  rintro e w9 ⟨rfl, k⟩
  have H9 := Lib.hid (H8.out.kept k)
  have K9 := Lib.hid (K8.out.trans k)
  have Ra := Lib.hid (R1b.out.kept k (by simp))
  have Rb := Lib.hid (R2.out.kept k (by simp))
  clear k H8 K8 CA R1b R2
  have CF : Hid (Calls Try.prog 23 #[.pointer (some ⟨wb, 0, none⟩)] w9 fun e w' => e = .returned (.tuple #[.int .u64 1099511627776, .bool true]) ∧ w9.grownBy w' none) := Lib.hid (wl_first_some H9.out 2 (1099511627776, 0) (by omega) rfl (fun k' v' h' => by rw [S6_all k' v' h']; exact Nat.le_refl _))
  go_wp2_with fail
  refine CF.out.mono ?_
  rintro e w10 ⟨rfl, k⟩
  have H10 := Lib.hid (H9.out.kept k)
  have K10 := Lib.hid (K9.out.trans k)
  have Rc := Lib.hid (Ra.out.kept k (by simp))
  have Rd := Lib.hid (Rb.out.kept k (by simp))
  clear k H9 K9 CF Ra Rb
  have CU : Hid (Calls Try.prog 17 #[.pointer (some ⟨wb, 0, none⟩), .int .i64 2] w10 fun e w' => e = .returned (.bool true) ∧ Only w.heap.size hi w10 w' ∧ Wl w' w.heap.size hi wb 4 5000 S7) := Lib.hid (wl_unset H10.out 2 (1099511627776, 0) (by omega) rfl)
  go_wp2_with fail
  refine CU.out.mono ?_
  rintro e w11 ⟨rfl, k, h⟩
  have H11 := Lib.hid h
  have K11 := Lib.hid (Only.on K10.out k (Nat.le_refl _))
  have Re := Lib.hid (Rc.out.only k (Or.inr Rc.out.lt.1))
  have Rf := Lib.hid (Rd.out.only k (Or.inr Rd.out.lt.1))
  clear k h H10 K10 CU Rc Rd
  have ka := World.grownBy_alloc w11 (.cells #[.int .i64 3] 3) none
  have RL : Reads (w11.alloc (.cells #[.int .i64 3] 3)) (.slice (some ⟨w11.heap.size, 0, none⟩) 1 1) [3] := ⟨_, 1, rfl, fun j hj => ⟨_, 0, rfl, by rw [World.size_alloc]; omega, by obtain rfl : j = 0 := (by simpa using hj); exact World.cell?_alloc_at _ _ _ 0 rfl⟩⟩
  have CS : Hid (Calls Try.prog 19 #[.slice (some ⟨r1, 0, none⟩) 1 cp1, .slice (some ⟨w11.heap.size, 0, none⟩) 1 1] (w11.alloc (.cells #[.int .i64 3] 3)) fun e w' => e = .returned (.bool true) ∧ (w11.alloc (.cells #[.int .i64 3] 3)).grownBy w' none) := Lib.hid (same_yes (Re.out.kept ka (by simp)).reads RL (by decide))
  have KA := Lib.hid ka
  clear ka RL
  go_wp2_with fail
  refine CS.out.mono ?_
  rintro e w12 ⟨rfl, k⟩
  have kk := KA.out.trans k
  have H12 := Lib.hid (H11.out.kept kk)
  have K12 := Lib.hid (K11.out.trans kk)
  have Rg := Lib.hid (Rf.out.kept kk (by simp))
  clear k kk H11 K11 CS Re Rf KA
  have ka := World.grownBy_alloc w12 (.cells #[.int .i64 1, .int .i64 0] 3) none
  have RL : Reads (w12.alloc (.cells #[.int .i64 1, .int .i64 0] 3)) (.slice (some ⟨w12.heap.size, 0, none⟩) 2 2) [1, 0] := ⟨_, 2, rfl, fun j hj => ⟨_, 0, rfl, by rw [World.size_alloc]; omega, by
    have hj : j < 2 := hj
    match j, hj with
    | 0, _ => exact World.cell?_alloc_at _ _ _ 0 rfl
    | 1, _ => exact World.cell?_alloc_at _ _ _ 1 rfl⟩⟩
  have CS : Hid (Calls Try.prog 19 #[.slice (some ⟨r2, 0, none⟩) 2 cp2, .slice (some ⟨w12.heap.size, 0, none⟩) 2 2] (w12.alloc (.cells #[.int .i64 1, .int .i64 0] 3)) fun e w' => e = .returned (.bool true) ∧ (w12.alloc (.cells #[.int .i64 1, .int .i64 0] 3)).grownBy w' none) := Lib.hid (same_yes (Rg.out.kept ka (by simp)).reads RL (by decide))
  have KA := Lib.hid ka
  clear ka RL
  go_wp2_with fail
  refine CS.out.mono ?_
  rintro e w13 ⟨rfl, k⟩
  have kk := KA.out.trans k
  have H13 := Lib.hid (H12.out.kept kk)
  have K13 := Lib.hid (K12.out.trans kk)
  clear k kk H12 K12 CS Rg KA
  have CL : Hid (Calls Try.prog 26 #[.pointer (some ⟨wb, 0, none⟩)] w13 fun e w' => e = .returned (.int .i64 0) ∧ w13 = w') := Lib.hid (wl_len H13.out)
  have CN : Hid (Calls Try.prog 25 #[.pointer (some ⟨wb, 0, none⟩)] w13 fun e w' => e = .returned (.int .u64 5000) ∧ w13 = w') := Lib.hid (wl_now H13.out)
  go_wp2_with fail
  refine CL.out.mono ?_
  rintro e w' ⟨rfl, rfl⟩
  go_wp2_with fail
  refine CN.out.mono ?_
  rintro e w' ⟨rfl, rfl⟩
  go_wp2
  go_ret
  exact ⟨rfl, K13.out⟩
end Go.Proofs.Ytpabnhiaafnjpaa
