/-
  The walk of layer 3's first test 'alive', over this seat's translation: it answers true, and leaves all that was as it was.
-/
import Derived.Test.YtchookgdajkipaaDoorSlabTop
import Derived.Test.YtchookgdajkipaaDoorSlabTopP
import Derived.Test.YtchookgdajkipaaDoorTabOf
namespace Go.Proofs.YtchookgdajkipaaDoor
open Go.RowKit Go.Lib
set_option maxRecDepth 100000

set_option maxRecDepth 100000 in
set_option maxHeartbeats 8000000 in
theorem alive3 (w : World) (hT : TabAt w) : Calls Tryd.prog 10 #[] w fun e w' => e = .returned (.bool true) ∧ w.grownBy w' none := by
  have hp := tab_pos hT
  have ka := World.grownBy_alloc w (.cells #[.int .i64 2, .int .i64 3] 3) none
  have CA := Lib.hid (SI.new_made _ 2 2 _ _ (caps_two w 2 3))
  have KA := Lib.hid ka
  clear ka
  go_enter Tryd.func10, Tryd.ntmps10
  go_wp2_with fail
  refine CA.out.mono ?_
  rintro e w0 ⟨sbA, rbA, rfl, k1, A0'⟩
  have G0' := grow_to KA.out k1
  obtain ⟨loA, hloA⟩ : ∃ lo, lo = (w.alloc (.cells #[.int .i64 2, .int .i64 3] 3)).heap.size := ⟨_, rfl⟩
  rw [← hloA] at A0'
  have hlA : w.heap.size ≤ loA := by rw [hloA]; exact KA.out.size
  obtain ⟨hiA, hhA⟩ : ∃ h, h = w0.heap.size := ⟨_, rfl⟩
  rw [← hhA] at A0'
  have kb := World.grownBy_alloc w0 (.cells #[.int .i64 1] 3) none
  have CB := Lib.hid (SP.new_made _ 1 1 _ _ (caps_one w0 1))
  have hlB0 : hiA ≤ (w0.alloc (.cells #[.int .i64 1] 3)).heap.size := by rw [hhA]; exact kb.size
  clear CA k1 hloA
  go_wp2_with fail
  refine CB.out.mono ?_
  rintro e v0 ⟨sbB, rbB, rfl, k2, B0⟩
  have A0 := (A0'.grown kb).grown k2
  have G0 := grow_to (grow_to G0' kb) k2
  have T0 := hT.kept G0
  generalize (w0.alloc (.cells #[.int .i64 1] 3)).heap.size = loB at B0 hlB0
  generalize v0.heap.size = hiB at B0
  have hlh : loA ≤ hiA := by
    obtain ⟨_, _, _, _, HH⟩ := A0
    have := HH.r0
    omega
  clear A0' G0' kb k2 CB KA hhA hT
  have e2 : min 2 64 = 2 := rfl
  have e1 : min 1 64 = 1 := rfl
  rw [e2] at A0
  rw [e1] at B0
  clear e1 e2
  have C0 : Hid (Calls Tryd.prog 14 #[.pointer (some ⟨sbA, 0, none⟩), .int .i64 0] v0 fun e w' => e = .returned (.pointer (some ⟨rbA, 0, none⟩)) ∧ v0.grownBy w' none) := Lib.hid (SI.region_in 0 A0 (by decide))
  go_wp2_with fail
  refine C0.out.mono ?_
  rintro e v1 ⟨rfl, k0⟩
  have A1 := A0.grown k0
  have B1 := B0.grown k0
  have G1 := grow_to G0 k0
  have T1 := T0.kept k0
  clear C0 A0 B0 G0 T0 k0
  have C1 : Hid (Calls Tryd.prog 14 #[.pointer (some ⟨sbA, 0, none⟩), .int .i64 1] v1 fun e w' => e = .returned (.pointer (some ⟨rbA, 2, none⟩)) ∧ v1.grownBy w' none) := Lib.hid (SI.region_in 1 A1 (by decide))
  go_wp2_with fail
  refine C1.out.mono ?_
  rintro e v2 ⟨rfl, k1⟩
  have A2 := A1.grown k1
  have B2 := B1.grown k1
  have G2 := grow_to G1 k1
  have T2 := T1.kept k1
  clear C1 A1 B1 G1 T1 k1
  have C2 : Hid (Calls Tryd.prog 39 #[.pointer (some ⟨sbB, 0, none⟩), .int .i64 0] v2 fun e w' => e = .returned (.pointer (some ⟨rbB, 0, none⟩)) ∧ v2.grownBy w' none) := Lib.hid (SP.region_in 0 B2 (by decide))
  go_wp2_with fail
  refine C2.out.mono ?_
  rintro e v3 ⟨rfl, k2⟩
  have A3 := A2.grown k2
  have B3 := B2.grown k2
  have G3 := grow_to G2 k2
  have T3 := T2.kept k2
  clear C2 A2 B2 G2 T2 k2
  have C3 : Hid (Calls Tryd.prog 14 #[.pointer (some ⟨sbA, 0, none⟩), .int .i64 2] v3 fun e w' => e = .returned (.pointer none) ∧ v3.grownBy w' none) := Lib.hid (SI.region_out 2 A3 (Or.inr (by decide)))
  go_wp2_with fail
  refine C3.out.mono ?_
  rintro e v4 ⟨rfl, k3⟩
  have A4 := A3.grown k3
  have B4 := B3.grown k3
  have G4 := grow_to G3 k3
  have T4 := T3.kept k3
  clear C3 A3 B3 G3 T3 k3
  have C4 : Hid (Calls Tryd.prog 14 #[.pointer (some ⟨sbA, 0, none⟩), .int .i64 0] v4 fun e w' => e = .returned (.pointer (some ⟨rbA, 0, none⟩)) ∧ v4.grownBy w' none) := Lib.hid (SI.region_in 0 A4 (by decide))
  go_wp2_with fail
  refine C4.out.mono ?_
  rintro e v5 ⟨rfl, k4⟩
  have A5 := A4.grown k4
  have B5 := B4.grown k4
  have G5 := grow_to G4 k4
  have T5 := T4.kept k4
  clear C4 A4 B4 G4 T4 k4
  obtain ⟨pb, po, b, g, R5, ST5⟩ := A5.region 0 (by decide)
  have C5 : Hid (Calls Tryd.prog 40 #[.pointer (some ⟨rbA, 0, none⟩), .int .i64 7] v5 fun e w' => e = .returned (.tuple #[.int .i64 0, .bool true]) ∧ _ ∧ _) := Lib.hid (SI.take_some 0 7 R5 T5 (by decide) (by rfl) (by decide))
  go_wp2_with fail
  refine C5.out.mono ?_
  rintro e v6 ⟨rfl, t5, q5⟩
  obtain ⟨y5, A6⟩ := ST5 _ _ _ t5 q5
  have B6 := B5.kept y5 (Or.inr (by omega))
  have G6 := Only.on G5 y5 (by omega)
  have T6 := tab_only T5 y5 (by omega)
  clear C5 A5 B5 G5 T5 y5 t5 q5 R5 ST5
  obtain ⟨pb, po, b, g, R6, ST6⟩ := A6.region 0 (by decide)
  have C6 : Hid (Calls Tryd.prog 40 #[.pointer (some ⟨rbA, 0, none⟩), .int .i64 8] v6 fun e w' => e = .returned (.tuple #[.int .i64 1, .bool true]) ∧ _ ∧ _) := Lib.hid (SI.take_some 1 8 R6 T6 (by decide) (by rfl) (by decide))
  go_wp2_with fail
  refine C6.out.mono ?_
  rintro e v7 ⟨rfl, t6, q6⟩
  obtain ⟨y6, A7⟩ := ST6 _ _ _ t6 q6
  have B7 := B6.kept y6 (Or.inr (by omega))
  have G7 := Only.on G6 y6 (by omega)
  have T7 := tab_only T6 y6 (by omega)
  clear C6 A6 B6 G6 T6 y6 t6 q6 R6 ST6
  obtain ⟨pb, po, b, g, R7, ST7⟩ := A7.region 0 (by decide)
  have C7x : Hid (Calls Tryd.prog 40 #[.pointer (some ⟨rbA, 0, none⟩), .int .i64 9] v7 fun e w' => e = .returned (.tuple #[.int .i64 0, .bool false]) ∧ v7 = w') := Lib.hid (SI.take_none 9 R7 T7 (by decide))
  go_wp2_with fail
  refine C7x.out.mono ?_
  rintro e w' ⟨rfl, rfl⟩
  clear C7x
  have C7 : Hid (Calls Tryd.prog 41 #[.pointer (some ⟨rbA, 0, none⟩), .int .i64 1] v7 fun e w' => e = .returned (.tuple #[.int .i64 8, .bool true]) ∧ v7.grownBy w' none) := Lib.hid (SI.at_in 1 R7 (by decide) (by rfl))
  go_wp2_with fail
  refine C7.out.mono ?_
  rintro e v8 ⟨rfl, k7⟩
  have A8 := A7.grown k7
  have B8 := B7.grown k7
  have G8 := grow_to G7 k7
  have T8 := T7.kept k7
  clear C7 A7 B7 G7 T7 k7
  clear R7 ST7
  obtain ⟨pb, po, b, g, R8, ST8⟩ := A8.region 0 (by decide)
  have C8 : Hid (Calls Tryd.prog 42 #[.pointer (some ⟨rbA, 0, none⟩), .int .i64 0] v8 fun e w' => e = .returned (.bool true) ∧ _ ∧ _) := Lib.hid (SI.give_in 0 R8 (by decide) (by rfl))
  go_wp2_with fail
  refine C8.out.mono ?_
  rintro e v9 ⟨rfl, t8, q8⟩
  obtain ⟨y8, A9⟩ := ST8 _ _ _ t8 q8
  have B9 := B8.kept y8 (Or.inr (by omega))
  have G9 := Only.on G8 y8 (by omega)
  have T9 := tab_only T8 y8 (by omega)
  clear C8 A8 B8 G8 T8 y8 t8 q8 R8 ST8
  obtain ⟨pb, po, b, g, R9, ST9⟩ := A9.region 0 (by decide)
  have C9 : Hid (Calls Tryd.prog 40 #[.pointer (some ⟨rbA, 0, none⟩), .int .i64 5] v9 fun e w' => e = .returned (.tuple #[.int .i64 0, .bool true]) ∧ _ ∧ _) := Lib.hid (SI.take_some 0 5 R9 T9 (by decide) (by rfl) (by decide))
  go_wp2_with fail
  refine C9.out.mono ?_
  rintro e v10 ⟨rfl, t9, q9⟩
  obtain ⟨y9, A10⟩ := ST9 _ _ _ t9 q9
  have B10 := B9.kept y9 (Or.inr (by omega))
  have G10 := Only.on G9 y9 (by omega)
  have T10 := tab_only T9 y9 (by omega)
  clear C9 A9 B9 G9 T9 y9 t9 q9 R9 ST9
  have C10 : Hid (Calls Tryd.prog 39 #[.pointer (some ⟨sbB, 0, none⟩), .int .i64 0] v10 fun e w' => e = .returned (.pointer (some ⟨rbB, 0, none⟩)) ∧ v10.grownBy w' none) := Lib.hid (SP.region_in 0 B10 (by decide))
  go_wp2_with fail
  refine C10.out.mono ?_
  rintro e v11 ⟨rfl, k10⟩
  have A11 := A10.grown k10
  have B11 := B10.grown k10
  have G11 := grow_to G10 k10
  have T11 := T10.kept k10
  clear C10 A10 B10 G10 T10 k10
  obtain ⟨pb, po, b, g, R11, ST11⟩ := B11.region 0 (by decide)
  have C11 : Hid (Calls Tryd.prog 43 #[.pointer (some ⟨rbB, 0, none⟩), .agg #[.int .u64 1, .int .u64 2, .string ⟨#[120]⟩]] v11 fun e w' => e = .returned (.tuple #[.int .i64 0, .bool true]) ∧ _ ∧ _) := Lib.hid (SP.take_some 0 ⟨1, 2, ⟨#[120]⟩⟩ R11 T11 (by decide) (by rfl) (by decide))
  go_wp2_with fail
  refine C11.out.mono ?_
  rintro e v12 ⟨rfl, t11, q11⟩
  obtain ⟨y11, B12⟩ := ST11 _ _ _ t11 q11
  have A12 := A11.kept y11 (Or.inl (by omega))
  have G12 := Only.on G11 y11 (by omega)
  have T12 := tab_only T11 y11 (by omega)
  clear C11 A11 B11 G11 T11 y11 t11 q11 R11 ST11
  have C12 : Hid (Calls Tryd.prog 39 #[.pointer (some ⟨sbB, 0, none⟩), .int .i64 0] v12 fun e w' => e = .returned (.pointer (some ⟨rbB, 0, none⟩)) ∧ v12.grownBy w' none) := Lib.hid (SP.region_in 0 B12 (by decide))
  go_wp2_with fail
  refine C12.out.mono ?_
  rintro e v13 ⟨rfl, k12⟩
  have A13 := A12.grown k12
  have B13 := B12.grown k12
  have G13 := grow_to G12 k12
  have T13 := T12.kept k12
  clear C12 A12 B12 G12 T12 k12
  obtain ⟨pb, po, b, g, R13, ST13⟩ := B13.region 0 (by decide)
  have C13 : Hid (Calls Tryd.prog 44 #[.pointer (some ⟨rbB, 0, none⟩), .int .i64 0] v13 fun e w' => e = .returned (.tuple #[.agg #[.int .u64 1, .int .u64 2, .string ⟨#[120]⟩], .bool true]) ∧ v13.grownBy w' none) := Lib.hid (SP.at_in 0 R13 (by decide) (by rfl))
  go_wp2_with fail
  refine C13.out.mono ?_
  rintro e v14 ⟨rfl, k13⟩
  have A14 := A13.grown k13
  have B14 := B13.grown k13
  have G14 := grow_to G13 k13
  have T14 := T13.kept k13
  clear C13 A13 B13 G13 T13 k13
  clear R13 ST13
  have kp := World.grownBy_alloc v14 (.cells #[.int .u64 1, .int .u64 2, .string ⟨#[120]⟩] 91) none
  have A15 := A14.grown kp
  have B15 := B14.grown kp
  have G15 := grow_to G14 kp
  have T15 := T14.kept kp
  have px : (v14.alloc (.cells #[.int .u64 1, .int .u64 2, .string ⟨#[120]⟩] 91)).cell? ⟨v14.heap.size, 2, none⟩ = some (.string ⟨#[120]⟩) := World.cell?_alloc_new ..
  have pl : v14.heap.size < (v14.alloc (.cells #[.int .u64 1, .int .u64 2, .string ⟨#[120]⟩] 91)).heap.size := by simp
  clear A14 B14 G14 T14 kp
  obtain ⟨v15, hw15⟩ : ∃ v, v = v14.alloc (.cells #[.int .u64 1, .int .u64 2, .string ⟨#[120]⟩] 91) := ⟨_, rfl⟩
  rw [← hw15] at A15 B15 G15 T15 px pl
  have HW := Lib.hid hw15
  clear hw15
  obtain ⟨pb, po, b, g, R15, ST15⟩ := A15.region 0 (by decide)
  have D1 : Hid (Calls Tryd.prog 45 #[.pointer (some ⟨rbA, 0, none⟩)] v15 fun e w' => e = .returned (.int .i64 2) ∧ v15 = w') := Lib.hid (SI.count_any R15)
  have D2 : Hid (Calls Tryd.prog 46 #[.pointer (some ⟨rbA, 0, none⟩)] v15 fun e w' => e = .returned (.int .i64 2) ∧ v15 = w') := Lib.hid (SI.room_any R15)
  clear R15 ST15
  rw [HW.out] at D1 D2 A15 B15 G15 T15 px pl
  go_wp2_with fail
  refine (D1.out).mono ?_
  rintro e w' ⟨rfl, rfl⟩
  go_wp2_with fail
  refine (D2.out).mono ?_
  rintro e w' ⟨rfl, rfl⟩
  rw [← HW.out] at A15 B15 G15 T15 px pl ⊢
  clear D1 D2 HW
  have pk : Hid (∀ v : World, v15.grownBy v none → v.cell? ⟨v14.heap.size, 2, none⟩ = some (.string ⟨#[120]⟩)) := Lib.hid fun v k => (k.cell_far ⟨v14.heap.size, 2, none⟩ pl (by simp)).trans px
  have KP := Lib.hid (SI.grow_refl v15)
  have C15 : Hid (Calls Tryd.prog 14 #[.pointer (some ⟨sbA, 0, none⟩), .int .i64 1] v15 fun e w' => e = .returned (.pointer (some ⟨rbA, 2, none⟩)) ∧ v15.grownBy w' none) := Lib.hid (SI.region_in 1 A15 (by decide))
  go_wp2_with fail
  refine C15.out.mono ?_
  rintro e v16 ⟨rfl, k15⟩
  have A16 := A15.grown k15
  have G16 := grow_to G15 k15
  have T16 := T15.kept k15
  have px2 := pk.out v16 k15
  clear C15 A15 B15 G15 T15
  obtain ⟨pb, po, b, g, R1, ST1⟩ := A16.region 1 (by decide)
  have D3 : Hid (Calls Tryd.prog 45 #[.pointer (some ⟨rbA, 2, none⟩)] v16 fun e w' => e = .returned (.int .i64 0) ∧ v16 = w') := Lib.hid (SI.count_any R1)
  have D4 : Hid (Calls Tryd.prog 13 #[.pointer (some ⟨sbA, 0, none⟩)] v16 fun e w' => e = .returned (.int .i64 2) ∧ v16 = w') := Lib.hid (SI.regions_any A16)
  obtain ⟨pb0, po0, b0, g0, R0, ST0⟩ := A16.region 0 (by decide)
  have D5 : Hid (Calls Tryd.prog 47 #[.pointer (some ⟨rbA, 0, none⟩)] v16 fun e w' => ∃ r cp, e = .returned (.slice (some ⟨r, 0, none⟩) 2 cp) ∧ v16.grownBy w' none ∧ _) := Lib.hid (SI.held_any R0 T16)
  clear R0 ST0 R1 ST1 A16 T16
  go_wp2_with fail
  refine (D3.out).mono ?_
  rintro e w' ⟨rfl, rfl⟩
  go_wp2_with fail
  refine (D4.out).mono ?_
  rintro e w' ⟨rfl, rfl⟩
  go_wp2_with fail
  refine D5.out.mono ?_
  rintro e v17 ⟨r, cp, rfl, k5, _⟩
  have GG := grow_to G16 k5
  go_wp2
  go_ret
  exact ⟨rfl, GG⟩

end Go.Proofs.YtchookgdajkipaaDoor
