/-
  The law's alive: the document's example.
-/
import Derived.Test.YtpnipmjjhiaieaaPoll9
namespace Go.Proofs.Ytpnipmjjhiaieaa
open Go.RowKit Go.Lib BN
set_option maxRecDepth 100000
set_option linter.unusedVariables false
def aS0 : Ps := ⟨fun _ => gz, [], 0, []⟩
def aS1 : Ps := sOpen aS0 0
def aS2 : Ps := sOpen aS1 1
def aS3 : Ps := sWatch 0 2 aS2 0 7 1 0
def aS4 : Ps := sWatch 0 2 aS3 1 8 7 1
def aS5 : Ps := sPost 1 aS4 0 1
def aS6 : Ps := sPost 1 aS5 1 2
def aS7 : Ps := sPost 1 aS6 1 1
def aS8 : Ps := sSettle 2 0 2 2 aS7
def aS9 : Ps := sQ aS8 [1]
def aS10 : Ps := sQ aS9 []
def aS11 : Ps := sTell aS10 0
def aS12 : Ps := sTell aS11 1
def aS13 : Ps := sClose 0 2 aS12 0
def aS14 : Ps := sClose 0 2 aS13 0

set_option maxRecDepth 100000 in
set_option maxHeartbeats 8000000 in
theorem alive13 (W : World) : Calls Try.prog 7 #[] W fun e w' => e = .returned (.bool true) ∧ W.grownBy w' none := by
  have CQ := Lib.hid (qu_new 0 2 2 0 2 (by decide) (by decide) W)
  go_enter Try.func7, Try.ntmps7
  go_wp2_with fail
  refine CQ.out.mono ?_
  rintro e u1 ⟨qb, rfl, k1, hq⟩
  have CN := Lib.hid (po_new hq 2 1 2 1 (by decide) (by decide))
  have K1 := Lib.hid k1
  clear k1 hq CQ
  go_wp2_with fail
  refine CN.out.mono ?_
  rintro e u2 ⟨pb, rfl, k2, h2⟩
  have H0 : Hid (P1 W u2 (fun _ => False) pb qb 2 1 0 2 2 aS0) := Lib.hid (P1.new (World.grownBy.refl _ _) K1.out k2 h2)
  clear k2 h2 CN K1
  have C := pf_open H0.out.1 0 (by decide)
  rw [show (gOpen (aS0.G 0)).2 = true by decide +kernel] at C
  have CC := Lib.hid C
  clear C
  go_wp2_with fail
  refine CC.out.mono ?_
  rintro e u ⟨rfl, h, k⟩
  have HX := H0
  have H1 : Hid (P1 W u (fun _ => False) pb qb 2 1 0 2 2 aS1) := Lib.hid (HX.out.step h k)
  clear h k CC H0 HX
  have C := pf_open H1.out.1 1 (by decide)
  rw [show (gOpen (aS1.G 1)).2 = true by decide +kernel] at C
  have CC := Lib.hid C
  clear C
  go_wp2_with fail
  refine CC.out.mono ?_
  rintro e u ⟨rfl, h, k⟩
  have HX := H1
  have H2 : Hid (P1 W u (fun _ => False) pb qb 2 1 0 2 2 aS2) := Lib.hid (HX.out.step h k)
  clear h k CC H1 HX
  have CX : Hid (Calls Try.prog 10 #[.pointer (some ⟨pb, 0, none⟩), .int .i64 2] u fun e w' => e = .returned (.bool false) ∧ u = w') := Lib.hid (by
    obtain ⟨gb, bb, c, lo, hi, L, H, hN, hF⟩ := H2.out.1
    exact po_open_no H 2 (by decide))
  go_wp2_with fail
  refine CX.out.mono ?_
  rintro e u' ⟨rfl, rfl⟩
  clear CX
  have C := pf_watch H2.out.1 0 7 1 0 (by decide)
  rw [show (gWatch (aS2.G 0) 7 1 0).2 = true by decide +kernel] at C
  have CC := Lib.hid C
  clear C
  go_wp2_with fail
  refine CC.out.mono ?_
  rintro e u ⟨rfl, h, k⟩
  have HX := H2
  have H3 : Hid (P1 W u (fun _ => False) pb qb 2 1 0 2 2 aS3) := Lib.hid (HX.out.step h k)
  clear h k CC H2 HX
  have C := pf_watch H3.out.1 1 8 7 1 (by decide)
  rw [show (gWatch (aS3.G 1) 8 7 1).2 = true by decide +kernel] at C
  have CC := Lib.hid C
  clear C
  go_wp2_with fail
  refine CC.out.mono ?_
  rintro e u ⟨rfl, h, k⟩
  have HX := H3
  have H4 : Hid (P1 W u (fun _ => False) pb qb 2 1 0 2 2 aS4) := Lib.hid (HX.out.step h k)
  clear h k CC H3 HX
  have C := pf_post H4.out.1 0 1 (by decide)
  rw [show decide (bits .and .i64 1 7 ≠ 0 ∧ (aS4.G 0).op = true) = true by decide +kernel] at C
  have CC := Lib.hid C
  clear C
  go_wp2_with fail
  refine CC.out.mono ?_
  rintro e u ⟨rfl, h, k⟩
  have HX := H4
  have H5 : Hid (P1 W u (fun _ => False) pb qb 2 1 0 2 2 aS5) := Lib.hid (HX.out.step h k)
  clear h k CC H4 HX
  have C := pf_post H5.out.1 1 2 (by decide)
  rw [show decide (bits .and .i64 2 7 ≠ 0 ∧ (aS5.G 1).op = true) = true by decide +kernel] at C
  have CC := Lib.hid C
  clear C
  go_wp2_with fail
  refine CC.out.mono ?_
  rintro e u ⟨rfl, h, k⟩
  have HX := H5
  have H6 : Hid (P1 W u (fun _ => False) pb qb 2 1 0 2 2 aS6) := Lib.hid (HX.out.step h k)
  clear h k CC H5 HX
  have C := pf_post H6.out.1 1 1 (by decide)
  rw [show decide (bits .and .i64 1 7 ≠ 0 ∧ (aS6.G 1).op = true) = true by decide +kernel] at C
  have CC := Lib.hid C
  clear C
  go_wp2_with fail
  refine CC.out.mono ?_
  rintro e u ⟨rfl, h, k⟩
  have HX := H6
  have H7 : Hid (P1 W u (fun _ => False) pb qb 2 1 0 2 2 aS7) := Lib.hid (HX.out.step h k)
  clear h k CC H6 HX
  have C := pf_notes H7.out.1
  rw [show aS7.N.length = 1 by decide +kernel] at C
  have CC := Lib.hid C
  clear C
  go_wp2_with fail
  refine CC.out.mono ?_
  rintro e u ⟨⟨sa, cp, rfl⟩, h, k⟩
  have H7 := Lib.hid (H7.out.stay h k)
  clear h k CC
  have C := pf_look H7.out.1 1 (by decide)
  rw [show gval (aS7.G 1) = .agg #[.bool true, .int .i64 0, .int .i64 3, .int .u64 8, .int .i64 7, .int .i64 1, .int .i64 0] by kernel_rfl] at C
  have CC := Lib.hid C
  clear C
  go_wp2_with fail
  refine CC.out.mono ?_
  rintro e u ⟨rfl, k⟩
  have H7 := Lib.hid (H7.out.kept k)
  clear k CC
  obtain ⟨LKb, eLK⟩ : ∃ b, u.heap.size = b := ⟨_, rfl⟩
  have ka := World.grownBy_alloc u (.cells #[.bool true, .int .i64 0, .int .i64 3, .int .u64 8, .int .i64 7, .int .i64 1, .int .i64 0] 38) none
  have HX := H7
  have LK : Hid ((u.alloc (.cells #[.bool true, .int .i64 0, .int .i64 3, .int .u64 8, .int .i64 7, .int .i64 1, .int .i64 0] 38)).heap[LKb]? = some (.cells #[.bool true, .int .i64 0, .int .i64 3, .int .u64 8, .int .i64 7, .int .i64 1, .int .i64 0] 38 (0, 0))) := Lib.hid (by rw [← eLK]; exact heap_alloc_new _ _)
  have H7 : Hid (P1 W (u.alloc (.cells #[.bool true, .int .i64 0, .int .i64 3, .int .u64 8, .int .i64 7, .int .i64 1, .int .i64 0] 38)) (fun k => k = LKb) pb qb 2 1 0 2 2 aS7) := Lib.hid ((HX.out.add _).alt fun k hk => by simp only [eLK] at hk ⊢; omega)
  clear ka HX
  have C := pf_settle H7.out.1
  have CC := Lib.hid C
  clear C
  go_wp2_with fail
  refine CC.out.mono ?_
  rintro e u ⟨rfl, h, k⟩
  have HX := H7
  have LK := Lib.hid ((HX.out.own k (show LKb = LKb by omega)).trans LK.out)
  have H8 : Hid (P1 W u (fun k => k = LKb) pb qb 2 1 0 2 2 aS8) := Lib.hid (HX.out.step h k)
  clear h k CC H7 HX
  have C := pf_pop_some H8.out.1 0 [1] (by decide +kernel)
  rw [show thK 0 0 = 2 by decide +kernel] at C
  rw [show thI 0 0 = 0 by decide +kernel] at C
  have CC := Lib.hid C
  clear C
  go_wp2_with fail
  refine CC.out.mono ?_
  rintro e u ⟨rfl, h, k⟩
  have HX := H8
  have LK := Lib.hid ((HX.out.own k (show LKb = LKb by omega)).trans LK.out)
  have H9 : Hid (P1 W u (fun k => k = LKb) pb qb 2 1 0 2 2 aS9) := Lib.hid (HX.out.step h k)
  clear h k CC H8 HX
  obtain ⟨TAb, eTA⟩ : ∃ b, u.heap.size = b := ⟨_, rfl⟩
  have ka := World.grownBy_alloc u (.cells #[.int .i64 2, .int .i64 0] 46) none
  have HX := H9
  have LK := Lib.hid ((HX.out.blk ka (show LKb = LKb by omega)).trans LK.out)
  have TA : Hid ((u.alloc (.cells #[.int .i64 2, .int .i64 0] 46)).heap[TAb]? = some (.cells #[.int .i64 2, .int .i64 0] 46 (0, 0))) := Lib.hid (by rw [← eTA]; exact heap_alloc_new _ _)
  have H9 : Hid (P1 W (u.alloc (.cells #[.int .i64 2, .int .i64 0] 46)) (fun k => k = LKb ∨ k = TAb) pb qb 2 1 0 2 2 aS9) := Lib.hid ((HX.out.add _).alt fun k hk => by simp only [eTA] at hk ⊢; omega)
  clear ka HX
  have C := pf_pop_some H9.out.1 1 [] (by decide +kernel)
  rw [show thK 0 1 = 2 by decide +kernel] at C
  rw [show thI 0 1 = 1 by decide +kernel] at C
  have CC := Lib.hid C
  clear C
  go_wp2_with fail
  refine CC.out.mono ?_
  rintro e u ⟨rfl, h, k⟩
  have HX := H9
  have LK := Lib.hid ((HX.out.own k (show LKb = LKb ∨ LKb = TAb by omega)).trans LK.out)
  have TA := Lib.hid ((HX.out.own k (show TAb = LKb ∨ TAb = TAb by omega)).trans TA.out)
  have H10 : Hid (P1 W u (fun k => k = LKb ∨ k = TAb) pb qb 2 1 0 2 2 aS10) := Lib.hid (HX.out.step h k)
  clear h k CC H9 HX
  obtain ⟨TBb, eTB⟩ : ∃ b, u.heap.size = b := ⟨_, rfl⟩
  have ka := World.grownBy_alloc u (.cells #[.int .i64 2, .int .i64 1] 46) none
  have HX := H10
  have LK := Lib.hid ((HX.out.blk ka (show LKb = LKb ∨ LKb = TAb by omega)).trans LK.out)
  have TA := Lib.hid ((HX.out.blk ka (show TAb = LKb ∨ TAb = TAb by omega)).trans TA.out)
  have TB : Hid ((u.alloc (.cells #[.int .i64 2, .int .i64 1] 46)).heap[TBb]? = some (.cells #[.int .i64 2, .int .i64 1] 46 (0, 0))) := Lib.hid (by rw [← eTB]; exact heap_alloc_new _ _)
  have H10 : Hid (P1 W (u.alloc (.cells #[.int .i64 2, .int .i64 1] 46)) (fun k => k = LKb ∨ k = TAb ∨ k = TBb) pb qb 2 1 0 2 2 aS10) := Lib.hid ((HX.out.add _).alt fun k hk => by simp only [eTB] at hk ⊢; omega)
  clear ka HX
  have C := pf_tell H10.out.1 0 (by decide)
  rw [show (tells (aS10.G 0)).2.1 = 7 by decide +kernel] at C
  rw [show (tells (aS10.G 0)).2.2 = 1 by decide +kernel] at C
  have CC := Lib.hid C
  clear C
  go_wp2_with fail
  refine CC.out.mono ?_
  rintro e u ⟨rfl, h, k⟩
  have HX := H10
  have LK := Lib.hid ((HX.out.own k (show LKb = LKb ∨ LKb = TAb ∨ LKb = TBb by omega)).trans LK.out)
  have TA := Lib.hid ((HX.out.own k (show TAb = LKb ∨ TAb = TAb ∨ TAb = TBb by omega)).trans TA.out)
  have TB := Lib.hid ((HX.out.own k (show TBb = LKb ∨ TBb = TAb ∨ TBb = TBb by omega)).trans TB.out)
  have H11 : Hid (P1 W u (fun k => k = LKb ∨ k = TAb ∨ k = TBb) pb qb 2 1 0 2 2 aS11) := Lib.hid (HX.out.step h k)
  clear h k CC H10 HX
  have C := pf_tell H11.out.1 1 (by decide)
  rw [show (tells (aS11.G 1)).2.1 = 8 by decide +kernel] at C
  rw [show (tells (aS11.G 1)).2.2 = 3 by decide +kernel] at C
  have CC := Lib.hid C
  clear C
  go_wp2_with fail
  refine CC.out.mono ?_
  rintro e u ⟨rfl, h, k⟩
  have HX := H11
  have LK := Lib.hid ((HX.out.own k (show LKb = LKb ∨ LKb = TAb ∨ LKb = TBb by omega)).trans LK.out)
  have TA := Lib.hid ((HX.out.own k (show TAb = LKb ∨ TAb = TAb ∨ TAb = TBb by omega)).trans TA.out)
  have TB := Lib.hid ((HX.out.own k (show TBb = LKb ∨ TBb = TAb ∨ TBb = TBb by omega)).trans TB.out)
  have H12 : Hid (P1 W u (fun k => k = LKb ∨ k = TAb ∨ k = TBb) pb qb 2 1 0 2 2 aS12) := Lib.hid (HX.out.step h k)
  clear h k CC H11 HX
  have l2 := cell_blk LK.out 2
  have a1 := cell_blk TA.out 1
  have b1 := cell_blk TB.out 1
  simp only [List.getElem?_toArray, List.getElem?_cons_zero, List.getElem?_cons_succ] at l2 a1 b1
  have C := pf_opened H12.out.1
  rw [show openN aS12.G 2 = 2 by decide +kernel] at C
  have CC := Lib.hid C
  clear C
  go_wp2_with fail
  refine CC.out.mono ?_
  rintro e u ⟨rfl, k⟩
  have H12 := Lib.hid (H12.out.kept k)
  clear k CC LK TA TB l2 a1 b1
  have C := pf_close H12.out.1 0 (by decide)
  rw [show (aS12.G 0).op = true by decide +kernel] at C
  have CC := Lib.hid C
  clear C
  go_wp2_with fail
  refine CC.out.mono ?_
  rintro e u ⟨rfl, h, k⟩
  have HX := H12
  have H13 : Hid (P1 W u (fun k => k = LKb ∨ k = TAb ∨ k = TBb) pb qb 2 1 0 2 2 aS13) := Lib.hid (HX.out.step h k)
  clear h k CC H12 HX
  have C := pf_close H13.out.1 0 (by decide)
  rw [show (aS13.G 0).op = false by decide +kernel] at C
  have CC := Lib.hid C
  clear C
  go_wp2_with fail
  refine CC.out.mono ?_
  rintro e u ⟨rfl, h, k⟩
  have HX := H13
  have H14 : Hid (P1 W u (fun k => k = LKb ∨ k = TAb ∨ k = TBb) pb qb 2 1 0 2 2 aS14) := Lib.hid (HX.out.step h k)
  clear h k CC H13 HX
  go_wp2
  go_ret
  exact ⟨rfl, H14.out.2.1⟩
end Go.Proofs.Ytpnipmjjhiaieaa
