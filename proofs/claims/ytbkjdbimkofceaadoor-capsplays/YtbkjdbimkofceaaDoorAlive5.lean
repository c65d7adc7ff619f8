/-
  The walk of layer 5's first test 'alive', over this seat's translation: it answers true, and leaves all that was as it was. What 'table' makes.
-/
import Derived.Test.YtbkjdbimkofceaaDoorCapsObj
namespace Go.Proofs.YtbkjdbimkofceaaDoor
open Go.RowKit Go.Lib
set_option maxRecDepth 100000

theorem upV_twice {α : Type} (f : Nat → α) (k : Nat) (a b : α) : upV (upV f k a) k b = upV f k b := funext fun i => by unfold upV; split <;> rfl

theorem one_all {T : Nat → Pl} {G : Nat} (h : (T 0).full G = true) : ∀ q, q < 1 → (T q).full G = true := fun q hq => by
  obtain rfl : q = 0 := by omega
  exact h
theorem one_out {T : Nat → Pl} {x : Nat} (h : (T 0).out = false) : ∀ p, p < 1 → (T p).out = true → hbits p (T p).gen (T p).r ≠ x := fun q hq ho => by
  obtain rfl : q = 0 := by omega
  rw [h] at ho
  cases ho
set_option maxRecDepth 100000 in
set_option maxHeartbeats 8000000 in
theorem alive5 (w : World) (hT : TabAt w) : Calls Tryd.prog 6 #[] w fun e w' => e = .returned (.bool true) ∧ w.grownBy w' none := by
  have hp := tab_pos hT
  have ka := World.grownBy_alloc w (.cells #[.int .i64 1] 3) none
  have CA := Lib.hid (SR.new_made _ 1 1 _ _ (caps_one w 1))
  have KA := Lib.hid ka
  clear ka
  go_enter Tryd.func6, Tryd.ntmps6
  go_wp2_with fail
  refine CA.out.mono ?_
  rintro e u0 ⟨sb, rb, rfl, q0, A0⟩
  have g0 := grow_to KA.out q0
  have hlo : w.heap.size ≤ (w.alloc (.cells #[.int .i64 1] 3)).heap.size := KA.out.size
  generalize (w.alloc (.cells #[.int .i64 1] 3)).heap.size = lo at A0 hlo
  have hl0 : 0 < lo := by omega
  clear CA q0
  have C1 : Hid (Calls Tryd.prog 19 #[.pointer (some ⟨sb, 0, none⟩), .int .i64 0] u0 fun e w' => e = .returned (.pointer (some ⟨rb, 0, none⟩)) ∧ u0.grownBy w' none) := Lib.hid (SR.region_in 0 A0 (by decide))
  go_wp2_with fail
  refine C1.out.mono ?_
  rintro e u1 ⟨rfl, q1⟩
  have A1 := A0.grown q1
  have g1 := grow_to g0 q1
  clear C1 A0 g0 q1
  have C1 : Hid (Calls Tryd.prog 19 #[.pointer (some ⟨sb, 0, none⟩), .int .i64 0] u1 fun e w' => e = .returned (.pointer (some ⟨rb, 0, none⟩)) ∧ u1.grownBy w' none) := Lib.hid (SR.region_in 0 A1 (by decide))
  go_wp2_with fail
  refine C1.out.mono ?_
  rintro e u2 ⟨rfl, q2⟩
  have A2 := A1.grown q2
  have g2 := grow_to g1 q2
  clear C1 A1 g1 q2
  have C1 : Hid (Calls Tryd.prog 18 #[.pointer (some ⟨rb, 0, none⟩), .int .i64 2] u2 fun e w' => ∃ tb, e = .returned (.pointer (some ⟨tb, 0, none⟩)) ∧ u2.grownBy w' none ∧ Tb w' lo w'.heap.size tb 1 2 (fun _ => Pl.fresh)) := Lib.hid (tnew_made 0 2 (by decide) A2)
  go_wp2_with fail
  refine C1.out.mono ?_
  rintro e w0 ⟨tb, rfl, k0, H0⟩
  have G0 := grow_to g2 k0
  have T0 := hT.kept G0
  obtain ⟨hi, hhi⟩ : ∃ h, h = w0.heap.size := ⟨_, rfl⟩
  rw [← hhi] at H0
  clear C1 A2 g2 k0 hT
  have C0 : Hid (Calls Tryd.prog 9 #[.pointer (some ⟨tb, 0, none⟩), .agg #[.int .i64 2, .int .i64 7, .int .i64 5]] w0 fun e w' => e = .returned (.tuple #[.int .u64 16777221, .int .i64 0]) ∧ Only lo hi w0 w' ∧ Tb w' lo hi tb 1 2 (upV (fun _ => Pl.fresh) 0 ⟨1, true, 2, 7, 5⟩)) := Lib.hid (tmint_ok 0 2 7 5 H0 T0 (by decide) rfl (by decide) (fun q h => absurd h (Nat.not_lt_zero q)))
  go_wp2_with fail
  refine C0.out.mono ?_
  rintro e w1 ⟨rfl, k0, H1⟩
  have G1 := Only.on G0 k0 hlo
  have T1 := tab_only T0 k0 hl0
  clear C0 H0 G0 T0 k0
  have C1 : Hid (Calls Tryd.prog 9 #[.pointer (some ⟨tb, 0, none⟩), .agg #[.int .i64 0, .int .i64 0, .int .i64 0]] w1 fun e w' => e = .returned (.tuple #[.int .u64 0, .int .i64 4]) ∧ w1.grownBy w' none) := Lib.hid (tmint_no 0 0 0 H1 T1 (one_all rfl))
  go_wp2_with fail
  refine C1.out.mono ?_
  rintro e w2 ⟨rfl, k1⟩
  have H2 := H1.grown k1
  have G2 := grow_to G1 k1
  have T2 := T1.kept k1
  clear C1 H1 G1 T1 k1
  have C2 : Hid (Calls Tryd.prog 14 #[.pointer (some ⟨tb, 0, none⟩), .int .u64 16777221] w2 fun e w' => e = .returned (.tuple #[.agg #[.int .i64 2, .int .i64 7, .int .i64 5], .int .i64 0]) ∧ w2.grownBy w' none) := Lib.hid (tlook_in 0 H2 (by decide) rfl)
  go_wp2_with fail
  refine C2.out.mono ?_
  rintro e w3 ⟨rfl, k2⟩
  have H3 := H2.grown k2
  have G3 := grow_to G2 k2
  have T3 := T2.kept k2
  clear C2 H2 G2 T2 k2
  have hcb : hi ≤ w3.heap.size := H3.sz.1
  have k3 := World.grownBy_alloc w3 (.cells #[.int .i64 2, .int .i64 7, .int .i64 5] 33) none
  have X4 : (w3.alloc (.cells #[.int .i64 2, .int .i64 7, .int .i64 5] 33)).cell? ⟨w3.heap.size, 1, none⟩ = some (.int .i64 7) ∧ w3.heap.size < (w3.alloc (.cells #[.int .i64 2, .int .i64 7, .int .i64 5] 33)).heap.size := ⟨World.cell?_alloc_new .., by simp⟩
  have H4 := H3.grown k3
  have G4 := grow_to G3 k3
  have T4 := T3.kept k3
  clear H3 G3 T3 k3
  have C4 : Hid (Calls Tryd.prog 23 #[.pointer (some ⟨tb, 0, none⟩), .int .u64 16777221, .int .i64 2, .int .i64 4] (w3.alloc (.cells #[.int .i64 2, .int .i64 7, .int .i64 5] 33)) fun e w' => e = .returned (.tuple #[.int .i64 7, .int .i64 0]) ∧ (w3.alloc (.cells #[.int .i64 2, .int .i64 7, .int .i64 5] 33)).grownBy w' none) := Lib.hid (tneed_in 0 2 4 H4 (by decide) rfl)
  go_wp2_with fail
  generalize (w3.alloc (.cells #[.int .i64 2, .int .i64 7, .int .i64 5] 33)) = w4 at *
  generalize w3.heap.size = cb at *
  refine C4.out.mono ?_
  rintro e w5 ⟨rfl, k4⟩
  have H5 := H4.grown k4
  have G5 := grow_to G4 k4
  have T5 := T4.kept k4
  have X5 := (k4.cell_far ⟨cb, 1, none⟩ X4.2 (by simp)).trans X4.1
  have X5 := And.intro X5 (Nat.lt_of_lt_of_le X4.2 k4.size)
  clear C4 H4 G4 T4 k4 X4
  have C5 : Hid (Calls Tryd.prog 23 #[.pointer (some ⟨tb, 0, none⟩), .int .u64 16777221, .int .i64 2, .int .i64 2] w5 fun e w' => e = .returned (.tuple #[.int .i64 0, .int .i64 6]) ∧ w5.grownBy w' none) := Lib.hid (tneed_in 0 2 2 H5 (by decide) rfl)
  go_wp2_with fail
  refine C5.out.mono ?_
  rintro e w6 ⟨rfl, k5⟩
  have H6 := H5.grown k5
  have G6 := grow_to G5 k5
  have T6 := T5.kept k5
  have X6 := (k5.cell_far ⟨cb, 1, none⟩ X5.2 (by simp)).trans X5.1
  have X6 := And.intro X6 (Nat.lt_of_lt_of_le X5.2 k5.size)
  clear C5 H5 G5 T5 k5 X5
  have C6 : Hid (Calls Tryd.prog 23 #[.pointer (some ⟨tb, 0, none⟩), .int .u64 16777221, .int .i64 1, .int .i64 4] w6 fun e w' => e = .returned (.tuple #[.int .i64 0, .int .i64 7]) ∧ w6.grownBy w' none) := Lib.hid (tneed_in 0 1 4 H6 (by decide) rfl)
  go_wp2_with fail
  refine C6.out.mono ?_
  rintro e w7 ⟨rfl, k6⟩
  have H7 := H6.grown k6
  have G7 := grow_to G6 k6
  have T7 := T6.kept k6
  have X7 := (k6.cell_far ⟨cb, 1, none⟩ X6.2 (by simp)).trans X6.1
  have X7 := And.intro X7 (Nat.lt_of_lt_of_le X6.2 k6.size)
  clear C6 H6 G6 T6 k6 X6
  have CX : Hid (Calls Tryd.prog 24 #[.int .u64 16777221] w7 fun e w' => e = .returned (.tuple #[.int .i64 0, .int .u64 1, .int .i64 5]) ∧ w7 = w') := Lib.hid (parts_any 16777221 w7 (by decide))
  go_wp2_with fail
  refine (CX.out).mono ?_
  rintro e w' ⟨rfl, rfl⟩
  clear CX
  have C7 : Hid (Calls Tryd.prog 12 #[.pointer (some ⟨tb, 0, none⟩), .int .u64 16777221] w7 fun e w' => e = .returned (.int .i64 0) ∧ Only lo hi w7 w' ∧ Tb w' lo hi tb 1 2 (upV (fun _ => Pl.fresh) 0 ⟨1, false, 0, 0, 0⟩)) := Lib.hid ((trev_ok 0 H7 (by decide) rfl).mono fun e w2 ⟨a, b, c⟩ => ⟨a, b, c.same (by rw [upV_twice]; rfl)⟩)
  go_wp2_with fail
  refine C7.out.mono ?_
  rintro e w8 ⟨rfl, k7, H8⟩
  have G8 := Only.on G7 k7 hlo
  have T8 := tab_only T7 k7 hl0
  have X8 := (k7.cell' cb 1 X7.2 (Or.inr hcb)).trans X7.1
  have X8 := And.intro X8 (Nat.lt_of_lt_of_le X7.2 k7.size)
  clear C7 H7 G7 T7 k7 X7
  have C8 : Hid (Calls Tryd.prog 12 #[.pointer (some ⟨tb, 0, none⟩), .int .u64 16777221] w8 fun e w' => e = .returned (.int .i64 5) ∧ w8.grownBy w' none) := Lib.hid (trev_no 16777221 H8 (by decide) (one_out rfl))
  go_wp2_with fail
  refine C8.out.mono ?_
  rintro e w9 ⟨rfl, k8⟩
  have H9 := H8.grown k8
  have G9 := grow_to G8 k8
  have T9 := T8.kept k8
  have X9 := (k8.cell_far ⟨cb, 1, none⟩ X8.2 (by simp)).trans X8.1
  have X9 := And.intro X9 (Nat.lt_of_lt_of_le X8.2 k8.size)
  clear C8 H8 G8 T8 k8 X8
  have C9 : Hid (Calls Tryd.prog 9 #[.pointer (some ⟨tb, 0, none⟩), .agg #[.int .i64 1, .int .i64 0, .int .i64 5]] w9 fun e w' => e = .returned (.tuple #[.int .u64 33554437, .int .i64 0]) ∧ Only lo hi w9 w' ∧ Tb w' lo hi tb 1 2 (upV (fun _ => Pl.fresh) 0 ⟨2, true, 1, 0, 5⟩)) := Lib.hid ((tmint_ok 0 1 0 5 H9 T9 (by decide) rfl (by decide) (fun q h => absurd h (Nat.not_lt_zero q))).mono fun e w2 ⟨a, b, c⟩ => ⟨a, b, c.same (by rw [upV_twice]; rfl)⟩)
  go_wp2_with fail
  refine C9.out.mono ?_
  rintro e w10 ⟨rfl, k9, H10⟩
  have G10 := Only.on G9 k9 hlo
  have T10 := tab_only T9 k9 hl0
  have X10 := (k9.cell' cb 1 X9.2 (Or.inr hcb)).trans X9.1
  have X10 := And.intro X10 (Nat.lt_of_lt_of_le X9.2 k9.size)
  clear C9 H9 G9 T9 k9 X9
  have C10 : Hid (Calls Tryd.prog 12 #[.pointer (some ⟨tb, 0, none⟩), .int .u64 33554437] w10 fun e w' => e = .returned (.int .i64 0) ∧ Only lo hi w10 w' ∧ Tb w' lo hi tb 1 2 (upV (fun _ => Pl.fresh) 0 ⟨2, false, 0, 0, 0⟩)) := Lib.hid ((trev_ok 0 H10 (by decide) rfl).mono fun e w2 ⟨a, b, c⟩ => ⟨a, b, c.same (by rw [upV_twice]; rfl)⟩)
  go_wp2_with fail
  refine C10.out.mono ?_
  rintro e w11 ⟨rfl, k10, H11⟩
  have G11 := Only.on G10 k10 hlo
  have T11 := tab_only T10 k10 hl0
  have X11 := (k10.cell' cb 1 X10.2 (Or.inr hcb)).trans X10.1
  have X11 := And.intro X11 (Nat.lt_of_lt_of_le X10.2 k10.size)
  clear C10 H10 G10 T10 k10 X10
  have C11 : Hid (Calls Tryd.prog 9 #[.pointer (some ⟨tb, 0, none⟩), .agg #[.int .i64 0, .int .i64 0, .int .i64 0]] w11 fun e w' => e = .returned (.tuple #[.int .u64 0, .int .i64 4]) ∧ w11.grownBy w' none) := Lib.hid (tmint_no 0 0 0 H11 T11 (one_all rfl))
  go_wp2_with fail
  refine C11.out.mono ?_
  rintro e w12 ⟨rfl, k11⟩
  have H12 := H11.grown k11
  have G12 := grow_to G11 k11
  have T12 := T11.kept k11
  have X12 := (k11.cell_far ⟨cb, 1, none⟩ X11.2 (by simp)).trans X11.1
  have X12 := And.intro X12 (Nat.lt_of_lt_of_le X11.2 k11.size)
  clear C11 H11 G11 T11 k11 X11
  have X := X12.1
  have C12 : Hid (Calls Tryd.prog 16 #[.pointer (some ⟨tb, 0, none⟩)] w12 fun e w' => e = .returned (.int .i64 1) ∧ w12.grownBy w' none) := Lib.hid (tdead H12 T12)
  go_wp2_with fail
  refine C12.out.mono ?_
  rintro e w13 ⟨rfl, k12⟩
  have H13 := H12.grown k12
  have G13 := grow_to G12 k12
  have T13 := T12.kept k12
  have X13 := (k12.cell_far ⟨cb, 1, none⟩ X12.2 (by simp)).trans X12.1
  have X13 := And.intro X13 (Nat.lt_of_lt_of_le X12.2 k12.size)
  clear C12 H12 G12 T12 k12 X12
  have C13 : Hid (Calls Tryd.prog 15 #[.pointer (some ⟨tb, 0, none⟩)] w13 fun e w' => e = .returned (.int .i64 0) ∧ w13.grownBy w' none) := Lib.hid (tcount H13 T13)
  go_wp2_with fail
  refine C13.out.mono ?_
  rintro e w14 ⟨rfl, k13⟩
  have H14 := H13.grown k13
  have G14 := grow_to G13 k13
  have T14 := T13.kept k13
  have X14 := (k13.cell_far ⟨cb, 1, none⟩ X13.2 (by simp)).trans X13.1
  have X14 := And.intro X14 (Nat.lt_of_lt_of_le X13.2 k13.size)
  clear C13 H13 G13 T13 k13 X13
  have CX : Hid (Calls Tryd.prog 25 #[.int .i64 0, .int .i64 1, .int .i64 5] w14 fun e w' => e = .returned (.int .u64 16777221) ∧ w14 = w') := Lib.hid (pack_any 0 1 5 w14 (by decide) (by decide) (by decide))
  go_wp2_with fail
  refine (CX.out).mono ?_
  rintro e w' ⟨rfl, rfl⟩
  clear CX
  go_wp2
  go_ret
  exact ⟨rfl, G14⟩

set_option maxHeartbeats 2000000 in
/-- What 'table' makes. -/
theorem table_made (room : Nat) (gens : Int) (w : World) (hr : room ≤ 256) : Calls Tryd.prog 7 #[.int .i64 room, .int .i64 gens] w fun e w' => ∃ tb, e = .returned (.pointer (some ⟨tb, 0, none⟩)) ∧ w.grownBy w' none ∧ Tb w' w.heap.size w'.heap.size tb room (gensOf gens) (fun _ => Pl.fresh) := by
  have ka := World.grownBy_alloc w (.cells #[.int .i64 3, .int .i64 room] 3) none
  have CA := Lib.hid (SR.new_made _ 2 2 _ _ (caps_two w 3 room))
  have KA := Lib.hid ka
  clear ka
  go_enter Tryd.func7, Tryd.ntmps7
  go_wp2_with fail
  refine CA.out.mono ?_
  rintro e u0 ⟨sb, rb, rfl, q0, A0⟩
  have g0 := grow_to KA.out q0
  have hlo : w.heap.size ≤ (w.alloc (.cells #[.int .i64 3, .int .i64 room] 3)).heap.size := KA.out.size
  generalize (w.alloc (.cells #[.int .i64 3, .int .i64 room] 3)).heap.size = lo at A0 hlo
  clear CA q0
  have C1 : Hid (Calls Tryd.prog 19 #[.pointer (some ⟨sb, 0, none⟩), .int .i64 1] u0 fun e w' => e = .returned (.pointer (some ⟨rb, 2, none⟩)) ∧ u0.grownBy w' none) := Lib.hid (SR.region_in 1 A0 (by decide))
  go_wp2_with fail
  refine C1.out.mono ?_
  rintro e u1 ⟨rfl, q1⟩
  have A1 := A0.grown q1
  have g1 := grow_to g0 q1
  clear C1 A0 g0 q1
  have C1 : Hid (Calls Tryd.prog 18 #[.pointer (some ⟨rb, 2, none⟩), .int .i64 gens] u1 fun e w' => ∃ tb, e = .returned (.pointer (some ⟨tb, 0, none⟩)) ∧ u1.grownBy w' none ∧ Tb w' lo w'.heap.size tb room (gensOf gens) (fun _ => Pl.fresh)) := Lib.hid (by
    have := tnew_made 1 gens (by decide) A1
    have e1 : nOf (fun j => if j = 0 then 3 else (room : Int)) 1 = room := by simp [nOf, roomN]; omega
    rwa [e1] at this)
  go_wp2_with fail
  refine C1.out.mono ?_
  rintro e w0 ⟨tb, rfl, k0, H0⟩
  have G0 := grow_to g1 k0
  clear C1 A1 g1 k0
  go_wp2
  go_ret
  obtain ⟨rb, ro, pb, po, b, g, hb, H, r, s⟩ := H0
  exact ⟨tb, rfl, G0, rb, ro, pb, po, b, g, hb, H, by omega, s⟩
end Go.Proofs.YtbkjdbimkofceaaDoor
