/-
  The walk of layer 6's first test 'alive', over this seat's translation: it answers true, and leaves all that was as it was.
-/
import Derived.Test.YtchookgdajkipaaLedOneI
import Derived.Test.YtchookgdajkipaaLedOneS
namespace Go.Proofs.Ytchookgdajkipaa
open Go.RowKit Go.Lib
set_option maxRecDepth 100000

/-- Where a book's blocks lie behind a call on it. -/
theorem Off.grown_own {W w w' : World} {bb : Nat} {o : Option Nat} (k : Off bb o w w') (h : W.grownBy w none) (hb : W.heap.size ≤ bb ∧ ∀ r, o = some r → W.heap.size ≤ r) : W.grownBy w' none := Off.grown (B := 0) h k hb.1 hb.2

set_option maxRecDepth 100000 in
set_option maxHeartbeats 8000000 in
theorem alive6 (w : World) : Calls Try.prog 8 #[] w fun e w' => e = .returned (.bool true) ∧ w.grownBy w' none := by
  have ka := World.grownBy_alloc w (.cells #[.slice none 0 0] 26) none
  have kb := World.grownBy_alloc (w.alloc (.cells #[.slice none 0 0] 26)) (.cells #[.slice none 0 0] 43) none
  have S0' := (LS.bk_new w w.heap.size (Nat.le_refl _)).kept kb
  have hs1 : (w.alloc (.cells #[.slice none 0 0] 26)).heap.size = w.heap.size + 1 := by simp
  have I0' := LI.bk_new (w.alloc (.cells #[.slice none 0 0] 26)) w.heap.size (by omega)
  rw [hs1] at I0'
  have G0' := ka.trans kb
  have CS := Lib.hid (LS.one_limit0 3 S0' (by omega) ⟨#[120]⟩)
  have HI := Lib.hid I0'
  have HG := Lib.hid G0'
  clear S0' I0' G0' ka kb
  unfold LS.kv at *
  go_enter Try.func8, Try.ntmps8
  go_wp2_with fail
  generalize (w.alloc (.cells #[.slice none 0 0] 26)).alloc (.cells #[.slice none 0 0] 43) = u0 at *
  refine CS.out.mono ?_
  rintro e u1 ⟨⟨y, rfl⟩, q1, vs, hv, S1⟩
  have A1 : Apt w.heap.size vs (w.heap.size + 1) (.slice none 0 0) := Apt.new (v := .slice none 0 0) ⟨by omega, (by intro h; cases h), (by intro h; cases h), Or.inl rfl⟩ hv HI.out.lb.2 (fun r h => by cases h)
  have I1 := HI.out.off q1 A1.a.symm (by intro h; cases h) (by intro h; cases h) (Or.inl rfl)
  have g1 := q1.grown_own HG.out ⟨Nat.le_refl _, fun r h => by cases h⟩
  have hS : w.heap.size ≤ w.heap.size ∧ ∀ r, vs.ownBlock = some r → w.heap.size ≤ r := ⟨Nat.le_refl _, fun r h => (LS.Bk.rowlt S1 r h).1⟩
  have hSl : ∀ r, vs.ownBlock = some r → r < u1.heap.size := fun r h => (LS.Bk.rowlt S1 r h).2
  have hSb : w.heap.size < u1.heap.size := S1.lb.2
  clear CS HI HG q1 hv
  have CI := Lib.hid (LI.one_limit0 1 I1 (by omega) 7)
  unfold LI.kv at *
  go_wp2_with fail
  refine CI.out.mono ?_
  rintro e w0 ⟨⟨y2, rfl⟩, q2, vi, hv2, I0⟩
  have A := (Apt.new A1.symm hv2 hSb hSl).symm
  have S0 := LS.Bk.off S1 q2 A1.a (by intro h; cases h) (fun e => A1.b e.symm) (by cases h : vs.ownBlock with | none => exact Or.inl rfl | some r => exact Or.inr (by intro h; cases h))
  have G0 := q2.grown_own g1 ⟨by omega, fun r h => by cases h⟩
  have hI : w.heap.size ≤ w.heap.size + 1 ∧ ∀ r, vi.ownBlock = some r → w.heap.size ≤ r := ⟨by omega, fun r h => (LI.Bk.rowlt I0 r h).1⟩
  clear CI I1 g1 S1 A1 q2 hv2 hSl hSb hs1
  have S0 : LS.One w0 w.heap.size w.heap.size vs ⟨#[120]⟩ 3 0 := S0
  have I0 : LI.One w0 w.heap.size (w.heap.size + 1) vi 7 1 0 := I0

  have C0 : Hid (Calls Try.prog 12 #[.pointer (some ⟨w.heap.size, 0, none⟩), .string ⟨#[120]⟩, .int .i64 2] w0 fun e w' => e = .returned (.bool true) ∧ Off w.heap.size vs.ownBlock w0 w' ∧ LS.One w' w.heap.size w.heap.size vs ⟨#[120]⟩ 3 2) := Lib.hid (LS.one_take 2 S0 (by omega) (by omega))
  go_wp2_with fail
  refine C0.out.mono ?_
  rintro e w1 ⟨rfl, k0, S1⟩
  have I1 := I0.off k0 A.a.symm A.b A.c A.d
  have G1 := k0.grown_own G0 hS
  clear C0 S0 I0 G0 k0
  have C1 : Hid (Calls Try.prog 12 #[.pointer (some ⟨w.heap.size, 0, none⟩), .string ⟨#[120]⟩, .int .i64 2] w1 fun e w' => e = .returned (.bool false) ∧ w1.grownBy w' none) := Lib.hid (LS.one_take_no 2 S1 (by omega))
  go_wp2_with fail
  refine C1.out.mono ?_
  rintro e w2 ⟨rfl, k1⟩
  have S2 := S1.kept k1
  have I2 := I1.kept k1
  have G2 := G1.trans k1
  clear C1 S1 I1 G1 k1
  have C2 : Hid (Calls Try.prog 15 #[.pointer (some ⟨w.heap.size, 0, none⟩), .string ⟨#[120]⟩] w2 fun e w' => e = .returned (.int .i64 2) ∧ w2.grownBy w' none) := Lib.hid (LS.one_used S2)
  go_wp2_with fail
  refine C2.out.mono ?_
  rintro e w3 ⟨rfl, k2⟩
  have S3 := S2.kept k2
  have I3 := I2.kept k2
  have G3 := G2.trans k2
  clear C2 S2 I2 G2 k2
  have C3 : Hid (Calls Try.prog 17 #[.pointer (some ⟨w.heap.size, 0, none⟩), .string ⟨#[120]⟩] w3 fun e w' => e = .returned (.int .i64 1) ∧ w3.grownBy w' none) := Lib.hid (LS.one_left S3)
  go_wp2_with fail
  refine C3.out.mono ?_
  rintro e w4 ⟨rfl, k3⟩
  have S4 := S3.kept k3
  have I4 := I3.kept k3
  have G4 := G3.trans k3
  clear C3 S3 I3 G3 k3
  have C4 : Hid (Calls Try.prog 14 #[.pointer (some ⟨w.heap.size, 0, none⟩), .string ⟨#[120]⟩, .int .i64 1] w4 fun e w' => e = .returned (.bool true) ∧ Off w.heap.size vs.ownBlock w4 w' ∧ LS.One w' w.heap.size w.heap.size vs ⟨#[120]⟩ 3 1) := Lib.hid (LS.one_give 1 S4 (by omega) (by omega))
  go_wp2_with fail
  refine C4.out.mono ?_
  rintro e w5 ⟨rfl, k4, S5⟩
  have I5 := I4.off k4 A.a.symm A.b A.c A.d
  have G5 := k4.grown_own G4 hS
  clear C4 S4 I4 G4 k4
  have C5 : Hid (Calls Try.prog 14 #[.pointer (some ⟨w.heap.size, 0, none⟩), .string ⟨#[120]⟩, .int .i64 2] w5 fun e w' => e = .returned (.bool false) ∧ w5.grownBy w' none) := Lib.hid (LS.one_give_no 2 S5 (by omega))
  go_wp2_with fail
  refine C5.out.mono ?_
  rintro e w6 ⟨rfl, k5⟩
  have S6 := S5.kept k5
  have I6 := I5.kept k5
  have G6 := G5.trans k5
  clear C5 S5 I5 G5 k5
  have C6 : Hid (Calls Try.prog 12 #[.pointer (some ⟨w.heap.size, 0, none⟩), .string ⟨#[121]⟩, .int .i64 0] w6 fun e w' => e = .returned (.bool false) ∧ w6.grownBy w' none) := Lib.hid (LS.one_take_un ⟨#[121]⟩ 0 S6 (by decide +kernel))
  go_wp2_with fail
  refine C6.out.mono ?_
  rintro e w7 ⟨rfl, k6⟩
  have S7 := S6.kept k6
  have I7 := I6.kept k6
  have G7 := G6.trans k6
  clear C6 S6 I6 G6 k6
  have C7 : Hid (Calls Try.prog 22 #[.pointer (some ⟨w.heap.size + 1, 0, none⟩), .int .i64 7, .int .i64 1] w7 fun e w' => e = .returned (.bool true) ∧ Off (w.heap.size + 1) vi.ownBlock w7 w' ∧ LI.One w' w.heap.size (w.heap.size + 1) vi 7 1 1) := Lib.hid (LI.one_take 1 I7 (by omega) (by omega))
  go_wp2_with fail
  refine C7.out.mono ?_
  rintro e w8 ⟨rfl, k7, I8⟩
  have S8 := LS.Bk.off S7 k7 A.symm.a.symm A.symm.b A.symm.c A.symm.d
  have G8 := k7.grown_own G7 hI
  clear C7 S7 I7 G7 k7
  have C8 : Hid (Calls Try.prog 24 #[.pointer (some ⟨w.heap.size + 1, 0, none⟩), .int .i64 7] w8 fun e w' => e = .returned (.int .i64 0) ∧ w8.grownBy w' none) := Lib.hid (LI.one_left I8)
  go_wp2_with fail
  refine C8.out.mono ?_
  rintro e w9 ⟨rfl, k8⟩
  have S9 := S8.kept k8
  have I9 := I8.kept k8
  have G9 := G8.trans k8
  clear C8 S8 I8 G8 k8
  have CK := Lib.hid (LS.keys_any S9)
  go_wp2_with fail
  refine CK.out.mono ?_
  rintro e wk ⟨r, cp, rfl, kk, _⟩
  go_wp2
  go_ret
  exact ⟨rfl, G9.trans kk⟩
end Go.Proofs.Ytchookgdajkipaa
