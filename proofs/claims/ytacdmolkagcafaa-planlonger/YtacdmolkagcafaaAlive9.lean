/-
  The statements' first test 'alive' of layer 9.
-/
import Derived.Test.YtacdmolkagcafaaPlanN
namespace Go.Proofs.Ytacdmolkagcafaa
open Go.RowKit Go.Lib
set_option maxRecDepth 100000
set_option linter.unusedVariables false

def zA : Nat → Nat → Int := fun j i => if i = 0 then (if j = 1 then 1 else 0) else (if j = 0 then 3 else if j = 1 then 2 else 1)
theorem right_A : RightP 3 zA 2 := by
  refine ⟨by omega, by omega, by omega, fun j hj => ?_, fun t ht => ?_⟩
  · match j, hj with
    | 0, _ | 1, _ | 2, _ => decide
  · match t, ht with
    | 0, _ => exact ⟨0, by omega, rfl⟩
    | 1, _ => exact ⟨1, by omega, rfl⟩
    | t + 2, h => omega
theorem slots_A (w : World) : SlAt (w.alloc (.cells #[.int .i64 0, .int .i64 3, .int .i64 1, .int .i64 2, .int .i64 0, .int .i64 1] 26)) (some ⟨w.heap.size, 0, none⟩) w.heap.size 0 3 zA := by
  refine ⟨fun _ => rfl, fun j hj => ?_, fun j hj => ?_⟩
  · match j, hj with
    | 0, _ | 1, _ | 2, _ => simp [zA]
  · match j, hj with
    | 0, _ | 1, _ | 2, _ => simp [zA]
theorem right_no (sa : Option Addr) (w : World) : SlAt w none 0 0 0 zA := ⟨fun h => absurd h (by omega), fun j hj => absurd hj (by omega), fun j hj => absurd hj (by omega)⟩

abbrev oA : Nat → Int := fun i => zA i 0
abbrev lA : Nat → Nat := fun i => (zA i 1).toNat

theorem turns_A {P E m : Nat → Nat} (T : TurnsOf oA lA 3 0 P E m) : m 4 = 1 ∧ P 1 = 5 ∧ E 1 = 6 ∧ E 2 = 9 := by
  have h0 := T.is 0 (by decide)
  have h2 := T.is 2 (by decide)
  have h3 := T.is 3 (by decide)
  have a0 : ownN oA 3 0 0 = 0 := by decide
  have a2 : ownN oA 3 0 2 = 1 := by decide
  have a3 : ownN oA 3 0 3 = 2 := by decide
  have b0 : begN lA 3 0 = 0 := by decide
  have b2 : begN lA 3 2 = 5 := by decide
  have b3 : begN lA 3 (2 + 1) = 6 := by decide
  have b4 : begN lA 3 (3 + 1) = 9 := by decide
  rw [a0, b0] at h0
  rw [a2, b2, b3] at h2
  rw [a3, b4] at h3
  have m1 := T.t.mem 4 0
  have m2 := T.t.m_le (r := 1) (t := 4)
  rw [h0.1] at m1
  rw [h2.1] at m2
  have := m1.1 (by omega)
  have := m2.2 (by omega)
  exact ⟨by omega, h2.1, h2.2, h3.2⟩

set_option maxHeartbeats 4000000 in
theorem alive9 (w : World) : Calls Try.prog 9 #[] w fun e w' => e = .returned (.bool true) ∧ w.grownBy w' none := by
  obtain ⟨P, E, m, T⟩ := turns_of (O := oA) (L := lA) (n := 3) 0 (by omega) (fun i hi => by match i, hi with | 0, _ | 1, _ | 2, _ => decide) (by decide)
  obtain ⟨tm, tp, te, te2⟩ := turns_A T
  have hC : sumN lA 3 = 6 := by decide
  have hz := zero_run
  have hzs := zero_size
  have hz1 := zero_one
  have CN := Lib.hid (fun (v : World) => of_no (w := v) (cap := 0) (right_no none v) (by unfold maxLen; omega) 1 (fun h => by obtain ⟨j, hj, _⟩ := h.2.2.2.2 0 (by omega); omega))
  obtain ⟨zp, hzp⟩ : ∃ zp, zeroPl = zp := ⟨_, rfl⟩
  rw [hzp] at hz hzs hz1 CN
  clear hzp
  have k0 := World.grownBy_alloc w (.cells #[.int .i64 0, .int .i64 3, .int .i64 1, .int .i64 2, .int .i64 0, .int .i64 1] 26) none
  have K0 := Lib.hid k0
  have C1 := Lib.hid (of_ok (cap := 3) (slots_A w) (by unfold maxLen; omega) 2 right_A)
  have TT := Lib.hid T
  clear k0 T
  go_enter Try.func9, Try.ntmps9
  go_wp2_with fail
  refine C1.out.mono ?_
  rintro e w1 ⟨a, rfl, PV, k1⟩
  have K1 := Lib.hid (K0.out.trans k1)
  have hs := PV.size
  have h1 := PV.one
  obtain ⟨R2, k2⟩ := laid_plan w1 zp a hzs hs
  have TN := Lib.hid (there_new w1 zp 29 130 hzs)
  have PP : Hid (PlV a oA lA 3 6) := Lib.hid (by rw [← hC]; exact PV)
  have RR := Lib.hid R2
  have K2 := Lib.hid (K1.out.trans k2)
  clear C1 K0 K1 k1 PV R2 k2
  go_wp2_with (first | (refine store_plan w1.heap.size a TN.out hs h1 rfl rfl ?_))
  generalize (w1.alloc (.cells zp 29)).setCells w1.heap.size 0 a.toList = w2 at *
  generalize w1.heap.size = pb at *
  refine (CN.out _).mono ?_
  rintro e w3 ⟨rfl, k3⟩
  have R3 := Lib.hid (rangeAt_kept RR.out k3)
  have K3 := Lib.hid (K2.out.trans k3)
  obtain ⟨R4, k4⟩ := laid_plan w3 zp zp hzs hzs
  have TN3 := Lib.hid (there_new w3 zp 29 130 hzs)
  have R5 := Lib.hid (rangeAt_kept R3.out k4)
  have K4 := Lib.hid (K3.out.trans k4)
  clear RR K2 R3 K3 R4 k4 TN CN k3
  have CA : Hid (∀ v : World, Calls Try.prog 13 #[.agg a, .int .u64 5] v fun e w' => e = .returned (.tuple #[.int .i64 1, .bool true]) ∧ v.grownBy w' none) := Lib.hid (at_slot PP.out 4 1 4 (by omega) (by decide) (by omega) (by decide) (by decide))
  go_wp2_with (first | (refine store_plan w3.heap.size zp TN3.out hzs hz1 rfl rfl ?_) | (refine load_plan pb a R5.out hs rfl ?_))
  generalize (w3.alloc (.cells zp 29)).setCells w3.heap.size 0 zp.toList = w4 at *
  refine (CA.out _).mono ?_
  rintro e w5 ⟨rfl, k5⟩
  have R6 := Lib.hid (rangeAt_kept R5.out k5)
  have K5 := Lib.hid (K4.out.trans k5)
  have CB : Hid (∀ v : World, Calls Try.prog 13 #[.agg a, .int .u64 4] v fun e w' => e = .returned (.tuple #[.int .i64 1, .bool false]) ∧ v.grownBy w' none) := Lib.hid (at_slot PP.out 3 1 3 (by omega) (by decide) (by omega) (by decide) (by decide))
  clear CA R5 K4 k5 TN3
  go_wp2_with (first | (refine load_plan pb a R6.out hs rfl ?_))
  refine (CB.out _).mono ?_
  rintro e w6 ⟨rfl, k6⟩
  have R7 := Lib.hid (rangeAt_kept R6.out k6)
  have K6 := Lib.hid (K5.out.trans k6)
  have CC := Lib.hid (fun v => next_at PP.out TT.out 4 (by omega) v 5 6 true (by rw [tm, tp, te]; simp))
  clear CB R6 K5 k6
  go_wp2_with (first | (refine load_plan pb a R7.out hs rfl ?_))
  refine (CC.out _).mono ?_
  rintro e w7 ⟨rfl, k7⟩
  have R8 := Lib.hid (rangeAt_kept R7.out k7)
  have K7 := Lib.hid (K6.out.trans k7)
  have CD := Lib.hid (fun v => kth_at PP.out TT.out 1 4 (by omega) (by omega) v 9 true (by rw [tm, te2]; simp))
  clear CC R7 K6 k7
  go_wp2_with (first | (refine load_plan pb a R8.out hs rfl ?_))
  refine (CD.out _).mono ?_
  rintro e w8 ⟨rfl, k8⟩
  have R9 := Lib.hid (rangeAt_kept R8.out k8)
  have K8 := Lib.hid (K7.out.trans k8)
  have CE := Lib.hid (fun v => cycle_any PP.out v)
  clear CD R8 K7 k8
  go_wp2_with (first | (refine load_plan pb a R9.out hs rfl ?_))
  refine (CE.out _).mono ?_
  rintro e w9 ⟨rfl, k9⟩
  have K9 := Lib.hid (K8.out.trans k9)
  clear CE R9 K8 k9
  go_wp2
  go_ret
  exact ⟨rfl, K9.out⟩
end Go.Proofs.Ytacdmolkagcafaa
