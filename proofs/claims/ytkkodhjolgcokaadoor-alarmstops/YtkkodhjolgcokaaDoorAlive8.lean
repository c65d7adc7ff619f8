/-
  The walk of layer 8's first test 'alive', over this seat's translation: it answers true, and leaves all that was as it was.
-/
import Derived.Test.YtkkodhjolgcokaaDoorAlarm6
namespace Go.Proofs.YtkkodhjolgcokaaDoor
open Go.RowKit Go.Lib
set_option maxRecDepth 100000
set_option linter.unusedVariables false
set_option maxRecDepth 100000 in
set_option maxHeartbeats 16000000 in
theorem alive8 (w : World) (hT : TabAt w) : Calls Tryd.prog 7 #[] w fun e w' => e = .returned (.bool true) ∧ w.grownBy w' none := by
  have hp := tab_pos hT
  have ka := World.grownBy_alloc w (.cells #[.int .i64 2] 3) none
  have CA := Lib.hid (SA.new_made _ 1 1 _ _ (caps_one w 2))
  have KA := Lib.hid ka
  clear ka
  go_enter Tryd.func7, Tryd.ntmps7
  go_wp2_with fail
  refine CA.out.mono ?_
  rintro e u0 ⟨sb, rb, rfl, q0, A0⟩
  have g0 := grow_to KA.out q0
  have hlo : w.heap.size ≤ (w.alloc (.cells #[.int .i64 2] 3)).heap.size := KA.out.size
  generalize (w.alloc (.cells #[.int .i64 2] 3)).heap.size = lo at A0 hlo
  have hl0 : 0 < lo := by omega
  clear CA q0
  have C1 : Hid (Calls Tryd.prog 19 #[.pointer (some ⟨sb, 0, none⟩), .int .i64 0] u0 fun e w' => e = .returned (.pointer (some ⟨rb, 0, none⟩)) ∧ u0.grownBy w' none) := Lib.hid (SA.region_in 0 A0 (by decide))
  go_wp2_with fail
  refine C1.out.mono ?_
  rintro e u1 ⟨rfl, q1⟩
  have A1 := A0.grown q1
  have g1 := grow_to g0 q1
  clear C1 A0 g0 q1
  have C1 : Hid (Calls Tryd.prog 19 #[.pointer (some ⟨sb, 0, none⟩), .int .i64 0] u1 fun e w' => e = .returned (.pointer (some ⟨rb, 0, none⟩)) ∧ u1.grownBy w' none) := Lib.hid (SA.region_in 0 A1 (by decide))
  go_wp2_with fail
  refine C1.out.mono ?_
  rintro e u2 ⟨rfl, q2⟩
  have A2 := A1.grown q2
  have g2 := grow_to g1 q2
  clear C1 A1 g1 q2
  have C1 : Hid (Calls Tryd.prog 20 #[.pointer (some ⟨rb, 0, none⟩), .int .u64 100] u2 fun e w' => ∃ bb, e = .returned (.pointer (some ⟨bb, 0, none⟩)) ∧ u2.grownBy w' none ∧ Bo w' lo w'.heap.size bb 2 100 0 (two Ti.none Ti.none)) := Lib.hid (by
    have h := bo_new 0 100 (by decide) (by decide) A2
    rw [two_none] at h
    exact h)
  go_wp2_with fail
  refine C1.out.mono ?_
  rintro e v0 ⟨bb, rfl, k0, h0⟩
  have G0 := Lib.hid (grow_to g2 k0)
  have T0 := Lib.hid (hT.kept G0.out)
  obtain ⟨hi, hhi⟩ : ∃ h, h = v0.heap.size := ⟨_, rfl⟩
  rw [← hhi] at h0
  have H0 := Lib.hid h0
  replace hhi := Lib.hid (Nat.le_of_eq hhi)
  clear C1 A2 g2 k0 hT h0 KA hp
  have C : Hid (Calls Tryd.prog 9 #[.pointer (some ⟨bb, 0, none⟩)] v0 fun e w' => e = .returned (.tuple #[.int .i64 0, .bool true]) ∧ Only lo hi v0 w' ∧ Bo w' lo hi bb 2 100 0 (two Ti.idle Ti.none)) := Lib.hid (by
    have h := bo_make_some 0 H0.out T0.out (by decide) rfl (fun q h => absurd h (Nat.not_lt_zero q))
    rw [two_up0] at h
    exact h)
  go_wp2_with fail
  refine C.out.mono ?_
  rintro e v1 ⟨rfl, k, h⟩
  clear C
  have H1 := Lib.hid h
  have G1 := Lib.hid (Only.on G0.out k hlo)
  have T1 := Lib.hid (tab_only T0.out k hl0)
  clear H0 G0 k h T0
  replace hhi : Hid (hi ≤ v1.heap.size) := Lib.hid H1.out.sz
  have C : Hid (Calls Tryd.prog 9 #[.pointer (some ⟨bb, 0, none⟩)] v1 fun e w' => e = .returned (.tuple #[.int .i64 1, .bool true]) ∧ Only lo hi v1 w' ∧ Bo w' lo hi bb 2 100 0 (two Ti.idle Ti.idle)) := Lib.hid (by
    have h := bo_make_some 1 H1.out T1.out (by decide) rfl (fun q h => by
      obtain rfl : q = 0 := by omega
      rfl)
    rw [two_up1] at h
    exact h)
  go_wp2_with fail
  refine C.out.mono ?_
  rintro e v2 ⟨rfl, k, h⟩
  clear C
  have H2 := Lib.hid h
  have G2 := Lib.hid (Only.on G1.out k hlo)
  have T2 := Lib.hid (tab_only T1.out k hl0)
  clear H1 G1 k h T1
  have C : Hid (Calls Tryd.prog 9 #[.pointer (some ⟨bb, 0, none⟩)] v2 fun e w' => e = .returned (.tuple #[.int .i64 0, .bool false]) ∧ v2.grownBy w' none) := Lib.hid (by
    exact bo_make_none H2.out T2.out (fun q hq => by
      match q, hq with
      | 0, _ => rfl
      | 1, _ => rfl))
  go_wp2_with fail
  refine C.out.mono ?_
  rintro e v3 ⟨rfl, k⟩
  clear C
  have H3 := Lib.hid (H2.out.grown k)
  have G3 := Lib.hid (G2.out.trans k)
  have T3 := Lib.hid (T2.out.kept k)
  clear H2 G2 k T2
  clear T3
  have C : Hid (Calls Tryd.prog 10 #[.pointer (some ⟨bb, 0, none⟩), .int .i64 0, .int .u64 7, .int .u64 150, .int .u64 20] v3 fun e w' => e = .returned (.bool true) ∧ Only lo hi v3 w' ∧ Bo w' lo hi bb 2 100 1 (two ⟨true, 1, 7, 150, 20, 0⟩ Ti.idle)) := Lib.hid (by
    have h := bo_arm_in 0 7 150 20 H3.out rfl (by decide) (by decide) (by decide) (by decide)
    rw [two_up0] at h
    exact h)
  go_wp2_with fail
  refine C.out.mono ?_
  rintro e v4 ⟨rfl, k, h⟩
  clear C
  have H4 := Lib.hid h
  have G4 := Lib.hid (Only.on G3.out k hlo)
  clear H3 G3 k h
  have C : Hid (Calls Tryd.prog 10 #[.pointer (some ⟨bb, 0, none⟩), .int .i64 1, .int .u64 8, .int .u64 140, .int .u64 0] v4 fun e w' => e = .returned (.bool true) ∧ Only lo hi v4 w' ∧ Bo w' lo hi bb 2 100 2 (two ⟨true, 1, 7, 150, 20, 0⟩ ⟨true, 1, 8, 140, 0, 1⟩)) := Lib.hid (by
    have h := bo_arm_in 1 8 140 0 H4.out rfl (by decide) (by decide) (by decide) (by decide)
    rw [two_up1] at h
    exact h)
  go_wp2_with fail
  refine C.out.mono ?_
  rintro e v5 ⟨rfl, k, h⟩
  clear C
  have H5 := Lib.hid h
  have G5 := Lib.hid (Only.on G4.out k hlo)
  clear H4 G4 k h
  have C : Hid (Calls Tryd.prog 11 #[.pointer (some ⟨bb, 0, none⟩), .int .u64 160] v5 fun e w' => ∃ r cp, e = .returned (.slice (some ⟨r, 0, none⟩) 2 cp) ∧ RowOf w' hi r cp [1, 0] ∧ Only lo hi v5 w' ∧ Bo w' lo hi bb 2 160 2 (two ⟨true, 2, 7, 150, 20, 0⟩ ⟨true, 2, 8, 140, 0, 1⟩)) := Lib.hid (by
    refine (bo_to 160 H5.out (by decide)).mono ?_
    rintro e w' ⟨R, r, cp, he, hr, hk, hb, hn, hm, hs⟩
    have hR : R = [1, 0] := list_two (by decide) hn (fun k => by
      rw [hm k]
      match k with
      | 0 => decide
      | 1 => decide
      | k + 2 => rw [two_far _ _ _ (by omega)]; simp [Ti.none]) hs (by decide)
    subst hR
    rw [two_due _ _ _ (by decide)] at hb
    exact ⟨r, cp, he, hr.mono H5.out.sz, hk, hb⟩)
  go_wp2_with fail
  refine C.out.mono ?_
  rintro e v6 ⟨r, cp, rfl, hr, k, h⟩
  have R6 := Lib.hid hr
  clear C hr
  have H6 := Lib.hid h
  have G6 := Lib.hid (Only.on G5.out k hlo)
  clear H5 G5 k h
  have hhi : Hid (hi ≤ hi) := Lib.hid (Nat.le_refl _)
  have C : Hid (Calls Tryd.prog 13 #[.pointer (some ⟨bb, 0, none⟩), .int .i64 1, .int .u64 160] v6 fun e w' => e = .returned (.int .u64 1) ∧ Only lo hi v6 w' ∧ Bo w' lo hi bb 2 160 2 (two ⟨true, 2, 7, 150, 20, 0⟩ Ti.idle)) := Lib.hid (by
    have h := bo_sent_in 1 160 H6.out (by decide) (by decide)
    rw [two_1] at h
    obtain ⟨e1, e2, e3⟩ := sent_one ⟨true, 2, 8, 140, 0, 1⟩ 160 2 rfl (Or.inl rfl)
    rw [e1, e2, e3, two_up1] at h
    exact h)
  go_wp2_with fail
  refine C.out.mono ?_
  rintro e v7 ⟨rfl, k, h⟩
  clear C
  have H7 := Lib.hid h
  have G7 := Lib.hid (Only.on G6.out k hlo)
  have R7 := Lib.hid (R6.out.only k (Or.inr (Nat.le_trans hhi.out R6.out.lt.1)))
  clear H6 G6 k h R6
  have C : Hid (Calls Tryd.prog 13 #[.pointer (some ⟨bb, 0, none⟩), .int .i64 0, .int .u64 160] v7 fun e w' => e = .returned (.int .u64 1) ∧ Only lo hi v7 w' ∧ Bo w' lo hi bb 2 160 3 (two ⟨true, 1, 7, 170, 20, 2⟩ Ti.idle)) := Lib.hid (by
    have h := bo_sent_in 0 160 H7.out (by decide) (by decide)
    rw [two_0] at h
    obtain ⟨e1, e2, e3⟩ := sent_more ⟨true, 2, 7, 150, 20, 0⟩ 160 2 rfl (by unfold overT; decide)
    rw [e1, e2, e3, two_up0] at h
    exact h)
  go_wp2_with fail
  refine C.out.mono ?_
  rintro e v8 ⟨rfl, k, h⟩
  clear C
  have H8 := Lib.hid h
  have G8 := Lib.hid (Only.on G7.out k hlo)
  have R8 := Lib.hid (R7.out.only k (Or.inr (Nat.le_trans hhi.out R7.out.lt.1)))
  clear H7 G7 k h R7
  have C : Hid (Calls Tryd.prog 12 #[.pointer (some ⟨bb, 0, none⟩), .int .i64 0] v8 fun e w' => e = .returned (.tuple #[.agg #[.int .i64 1, .int .u64 7, .int .u64 170, .int .u64 20], .bool true]) ∧ v8.grownBy w' none) := Lib.hid (by
    exact bo_look_in 0 H8.out)
  go_wp2_with fail
  refine C.out.mono ?_
  rintro e v9 ⟨rfl, k⟩
  clear C
  have H9 := Lib.hid (H8.out.grown k)
  have G9 := Lib.hid (G8.out.trans k)
  have R9 := Lib.hid (R8.out.kept k (by simp))
  clear H8 G8 k R8
  have k := World.grownBy_alloc v9 (.cells #[.int .i64 1, .int .u64 7, .int .u64 170, .int .u64 20] 33) none
  have kk := Lib.hid k
  have H10 := Lib.hid (H9.out.grown k)
  have G10 := Lib.hid (G9.out.trans k)
  have R10 := Lib.hid (R9.out.kept k (by simp))
  clear H9 G9 k R9
  have rc_0 : Hid ((v9.alloc (.cells #[.int .i64 1, .int .u64 7, .int .u64 170, .int .u64 20] 33)).cell? ⟨v9.heap.size, 0, none⟩ = some (.int .i64 1)) := Lib.hid (World.cell?_alloc_new ..)
  have rc_1 : Hid ((v9.alloc (.cells #[.int .i64 1, .int .u64 7, .int .u64 170, .int .u64 20] 33)).cell? ⟨v9.heap.size, 1, none⟩ = some (.int .u64 7)) := Lib.hid (World.cell?_alloc_new ..)
  have rc_2 : Hid ((v9.alloc (.cells #[.int .i64 1, .int .u64 7, .int .u64 170, .int .u64 20] 33)).cell? ⟨v9.heap.size, 2, none⟩ = some (.int .u64 170)) := Lib.hid (World.cell?_alloc_new ..)
  have rc_3 : Hid ((v9.alloc (.cells #[.int .i64 1, .int .u64 7, .int .u64 170, .int .u64 20] 33)).cell? ⟨v9.heap.size, 3, none⟩ = some (.int .u64 20)) := Lib.hid (World.cell?_alloc_new ..)
  have rcz : Hid (v9.heap.size < (v9.alloc (.cells #[.int .i64 1, .int .u64 7, .int .u64 170, .int .u64 20] 33)).heap.size) := Lib.hid (by simp)
  clear kk
  have rcB : Hid (v9.heap.size < (v9.alloc (.cells #[.int .i64 1, .int .u64 7, .int .u64 170, .int .u64 20] 33)).heap.size) := rcz
  have C : Hid (Calls Tryd.prog 12 #[.pointer (some ⟨bb, 0, none⟩), .int .i64 1] (v9.alloc (.cells #[.int .i64 1, .int .u64 7, .int .u64 170, .int .u64 20] 33)) fun e w' => e = .returned (.tuple #[.agg #[.int .i64 0, .int .u64 0, .int .u64 0, .int .u64 0], .bool true]) ∧ (v9.alloc (.cells #[.int .i64 1, .int .u64 7, .int .u64 170, .int .u64 20] 33)).grownBy w' none) := Lib.hid (by
    exact bo_look_in 1 H10.out)
  go_wp2_with fail
  refine C.out.mono ?_
  rintro e v11 ⟨rfl, k⟩
  have kk := Lib.hid k
  clear C
  have H11 := Lib.hid (H10.out.grown k)
  have G11 := Lib.hid (G10.out.trans k)
  have R11 := Lib.hid (R10.out.kept k (by simp))
  clear H10 G10 k R10
  replace rc_0 := Lib.hid ((kk.out.cell_far ⟨v9.heap.size, 0, none⟩ rcz.out (by simp)).trans rc_0.out)
  replace rc_1 := Lib.hid ((kk.out.cell_far ⟨v9.heap.size, 1, none⟩ rcz.out (by simp)).trans rc_1.out)
  replace rc_2 := Lib.hid ((kk.out.cell_far ⟨v9.heap.size, 2, none⟩ rcz.out (by simp)).trans rc_2.out)
  replace rc_3 := Lib.hid ((kk.out.cell_far ⟨v9.heap.size, 3, none⟩ rcz.out (by simp)).trans rc_3.out)
  replace rcz := Lib.hid (Nat.lt_of_lt_of_le rcz.out kk.out.size)
  clear kk
  generalize v9.heap.size = rk at *
  have rcz0 := rcz.out
  clear rcB
  have k := World.grownBy_alloc v11 (.cells #[.int .i64 0, .int .u64 0, .int .u64 0, .int .u64 0] 33) none
  have kk := Lib.hid k
  have H12 := Lib.hid (H11.out.grown k)
  have G12 := Lib.hid (G11.out.trans k)
  have R12 := Lib.hid (R11.out.kept k (by simp))
  clear H11 G11 k R11
  replace rc_0 := Lib.hid ((kk.out.cell_far ⟨rk, 0, none⟩ rcz.out (by simp)).trans rc_0.out)
  replace rc_1 := Lib.hid ((kk.out.cell_far ⟨rk, 1, none⟩ rcz.out (by simp)).trans rc_1.out)
  replace rc_2 := Lib.hid ((kk.out.cell_far ⟨rk, 2, none⟩ rcz.out (by simp)).trans rc_2.out)
  replace rc_3 := Lib.hid ((kk.out.cell_far ⟨rk, 3, none⟩ rcz.out (by simp)).trans rc_3.out)
  replace rcz := Lib.hid (Nat.lt_of_lt_of_le rcz.out kk.out.size)
  have hne_rcqc : rk ≠ v11.heap.size := by have := rcz0; omega
  have qc_0 : Hid ((v11.alloc (.cells #[.int .i64 0, .int .u64 0, .int .u64 0, .int .u64 0] 33)).cell? ⟨v11.heap.size, 0, none⟩ = some (.int .i64 0)) := Lib.hid (World.cell?_alloc_new ..)
  have qc_1 : Hid ((v11.alloc (.cells #[.int .i64 0, .int .u64 0, .int .u64 0, .int .u64 0] 33)).cell? ⟨v11.heap.size, 1, none⟩ = some (.int .u64 0)) := Lib.hid (World.cell?_alloc_new ..)
  have qc_2 : Hid ((v11.alloc (.cells #[.int .i64 0, .int .u64 0, .int .u64 0, .int .u64 0] 33)).cell? ⟨v11.heap.size, 2, none⟩ = some (.int .u64 0)) := Lib.hid (World.cell?_alloc_new ..)
  have qc_3 : Hid ((v11.alloc (.cells #[.int .i64 0, .int .u64 0, .int .u64 0, .int .u64 0] 33)).cell? ⟨v11.heap.size, 3, none⟩ = some (.int .u64 0)) := Lib.hid (World.cell?_alloc_new ..)
  have qcz : Hid (v11.heap.size < (v11.alloc (.cells #[.int .i64 0, .int .u64 0, .int .u64 0, .int .u64 0] 33)).heap.size) := Lib.hid (by simp)
  clear kk
  have k := World.grownBy_alloc (v11.alloc (.cells #[.int .i64 0, .int .u64 0, .int .u64 0, .int .u64 0] 33)) (.cells #[.int .i64 1, .int .i64 0] 3) none
  have kk := Lib.hid k
  have H13 := Lib.hid (H12.out.grown k)
  have G13 := Lib.hid (G12.out.trans k)
  have R13 := Lib.hid (R12.out.kept k (by simp))
  clear H12 G12 k R12
  replace rc_0 := Lib.hid ((kk.out.cell_far ⟨rk, 0, none⟩ rcz.out (by simp)).trans rc_0.out)
  replace rc_1 := Lib.hid ((kk.out.cell_far ⟨rk, 1, none⟩ rcz.out (by simp)).trans rc_1.out)
  replace rc_2 := Lib.hid ((kk.out.cell_far ⟨rk, 2, none⟩ rcz.out (by simp)).trans rc_2.out)
  replace rc_3 := Lib.hid ((kk.out.cell_far ⟨rk, 3, none⟩ rcz.out (by simp)).trans rc_3.out)
  replace rcz := Lib.hid (Nat.lt_of_lt_of_le rcz.out kk.out.size)
  replace qc_0 := Lib.hid ((kk.out.cell_far ⟨v11.heap.size, 0, none⟩ qcz.out (by simp)).trans qc_0.out)
  replace qc_1 := Lib.hid ((kk.out.cell_far ⟨v11.heap.size, 1, none⟩ qcz.out (by simp)).trans qc_1.out)
  replace qc_2 := Lib.hid ((kk.out.cell_far ⟨v11.heap.size, 2, none⟩ qcz.out (by simp)).trans qc_2.out)
  replace qc_3 := Lib.hid ((kk.out.cell_far ⟨v11.heap.size, 3, none⟩ qcz.out (by simp)).trans qc_3.out)
  replace qcz := Lib.hid (Nat.lt_of_lt_of_le qcz.out kk.out.size)
  clear kk
  have hz : (v11.alloc (.cells #[.int .i64 0, .int .u64 0, .int .u64 0, .int .u64 0] 33)).heap.size = v11.heap.size + 1 := by simp
  have RL : Reads ((v11.alloc (.cells #[.int .i64 0, .int .u64 0, .int .u64 0, .int .u64 0] 33)).alloc (.cells #[.int .i64 1, .int .i64 0] 3)) (.slice (some ⟨v11.heap.size + 1, 0, none⟩) 2 2) [1, 0] := ⟨_, 2, rfl, fun j hj => ⟨_, 0, rfl, by simp, by
    have hj : j < 2 := hj
    match j, hj with
    | 0, _ => rw [← hz]; exact World.cell?_alloc_at _ _ _ 0 rfl
    | 1, _ => rw [← hz]; exact World.cell?_alloc_at _ _ _ 1 rfl⟩⟩
  have C : Hid (Calls Tryd.prog 21 #[.slice (some ⟨r, 0, none⟩) 2 cp, .slice (some ⟨v11.heap.size + 1, 0, none⟩) 2 2] ((v11.alloc (.cells #[.int .i64 0, .int .u64 0, .int .u64 0, .int .u64 0] 33)).alloc (.cells #[.int .i64 1, .int .i64 0] 3)) fun e w' => e = .returned (.bool true) ∧ ((v11.alloc (.cells #[.int .i64 0, .int .u64 0, .int .u64 0, .int .u64 0] 33)).alloc (.cells #[.int .i64 1, .int .i64 0] 3)).grownBy w' none) := Lib.hid (same_yes R13.out.reads RL (by decide))
  clear RL hz
  go_wp2_with fail
  refine C.out.mono ?_
  rintro e v14 ⟨rfl, k⟩
  have kk := Lib.hid k
  clear C
  have H14 := Lib.hid (H13.out.grown k)
  have G14 := Lib.hid (G13.out.trans k)
  have R14 := Lib.hid (R13.out.kept k (by simp))
  clear H13 G13 k R13
  replace rc_0 := Lib.hid ((kk.out.cell_far ⟨rk, 0, none⟩ rcz.out (by simp)).trans rc_0.out)
  replace rc_1 := Lib.hid ((kk.out.cell_far ⟨rk, 1, none⟩ rcz.out (by simp)).trans rc_1.out)
  replace rc_2 := Lib.hid ((kk.out.cell_far ⟨rk, 2, none⟩ rcz.out (by simp)).trans rc_2.out)
  replace rc_3 := Lib.hid ((kk.out.cell_far ⟨rk, 3, none⟩ rcz.out (by simp)).trans rc_3.out)
  replace rcz := Lib.hid (Nat.lt_of_lt_of_le rcz.out kk.out.size)
  replace qc_0 := Lib.hid ((kk.out.cell_far ⟨v11.heap.size, 0, none⟩ qcz.out (by simp)).trans qc_0.out)
  replace qc_1 := Lib.hid ((kk.out.cell_far ⟨v11.heap.size, 1, none⟩ qcz.out (by simp)).trans qc_1.out)
  replace qc_2 := Lib.hid ((kk.out.cell_far ⟨v11.heap.size, 2, none⟩ qcz.out (by simp)).trans qc_2.out)
  replace qc_3 := Lib.hid ((kk.out.cell_far ⟨v11.heap.size, 3, none⟩ qcz.out (by simp)).trans qc_3.out)
  replace qcz := Lib.hid (Nat.lt_of_lt_of_le qcz.out kk.out.size)
  clear kk
  generalize v11.heap.size = qk at *
  have rcp0 := rc_0.out
  have rcp1 := rc_1.out
  have rcp2 := rc_2.out
  have rcp3 := rc_3.out
  have qcp0 := qc_0.out
  have qcp1 := qc_1.out
  have qcp2 := qc_2.out
  have qcp3 := qc_3.out
  have C : Hid (Calls Tryd.prog 16 #[.pointer (some ⟨bb, 0, none⟩), .int .i64 0] v14 fun e w' => e = .returned (.bool true) ∧ Only lo hi v14 w' ∧ Bo w' lo hi bb 2 160 3 (two Ti.idle Ti.idle)) := Lib.hid (by
    have h := bo_stop_in 0 H14.out (by decide)
    rw [two_up0] at h
    exact h)
  go_wp2_with fail
  refine C.out.mono ?_
  rintro e v15 ⟨rfl, k, h⟩
  clear C
  have H15 := Lib.hid h
  have G15 := Lib.hid (Only.on G14.out k hlo)
  have R15 := Lib.hid (R14.out.only k (Or.inr (Nat.le_trans hhi.out R14.out.lt.1)))
  clear H14 G14 k h R14
  clear rc_0 rcp0 rc_1 rcp1 rc_2 rcp2 rc_3 rcp3 qc_0 qcp0 qc_1 qcp1 qc_2 qcp2 qc_3 qcp3
  have C : Hid (Calls Tryd.prog 16 #[.pointer (some ⟨bb, 0, none⟩), .int .i64 0] v15 fun e w' => e = .returned (.bool false) ∧ Only lo hi v15 w' ∧ Bo w' lo hi bb 2 160 3 (two Ti.idle Ti.idle)) := Lib.hid (by
    have h := bo_stop_no 0 H15.out rfl
    exact h)
  go_wp2_with fail
  refine C.out.mono ?_
  rintro e v16 ⟨rfl, k, h⟩
  clear C
  have H16 := Lib.hid h
  have G16 := Lib.hid (Only.on G15.out k hlo)
  have R16 := Lib.hid (R15.out.only k (Or.inr (Nat.le_trans hhi.out R15.out.lt.1)))
  clear H15 G15 k h R15
  have C : Hid (Calls Tryd.prog 14 #[.pointer (some ⟨bb, 0, none⟩)] v16 fun e w' => e = .returned (.int .i64 0) ∧ v16 = w') := Lib.hid (bo_armed H16.out)
  go_wp2_with fail
  refine (C.out).mono ?_
  rintro e w' ⟨rfl, rfl⟩
  clear C
  have C : Hid (Calls Tryd.prog 17 #[.pointer (some ⟨bb, 0, none⟩), .int .i64 0] v16 fun e w' => e = .returned (.bool true) ∧ Only lo hi v16 w' ∧ Bo w' lo hi bb 2 160 3 (two Ti.none Ti.idle)) := Lib.hid (by
    have h := bo_free_in 0 H16.out
    rw [two_up0] at h
    exact h)
  go_wp2_with fail
  refine C.out.mono ?_
  rintro e v17 ⟨rfl, k, h⟩
  clear C
  have H17 := Lib.hid h
  have G17 := Lib.hid (Only.on G16.out k hlo)
  have R17 := Lib.hid (R16.out.only k (Or.inr (Nat.le_trans hhi.out R16.out.lt.1)))
  clear H16 G16 k h R16
  have C : Hid (Calls Tryd.prog 15 #[.pointer (some ⟨bb, 0, none⟩)] v17 fun e w' => e = .returned (.int .i64 1) ∧ v17 = w') := Lib.hid (bo_count H17.out)
  go_wp2_with fail
  refine (C.out).mono ?_
  rintro e w' ⟨rfl, rfl⟩
  clear C
  go_wp2
  go_ret
  exact ⟨rfl, G17.out⟩
end Go.Proofs.YtkkodhjolgcokaaDoor
