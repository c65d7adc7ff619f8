/-
  PlanTurns: a cycle on, all is the same; each tick is one tenant's; just as many slots end in a cycle as there are.
-/
import Derived.Test.YtacdmolkagcafaaTicks9
namespace Go.Proofs.Ytacdmolkagcafaa
open Go.RowKit Go.Lib
set_option maxRecDepth 100000
set_option linter.unusedVariables false

set_option maxHeartbeats 8000000 in
set_option maxRecDepth 100000 in
theorem turns_walk (sa : Option Addr) (n cap sb off : Nat) (Z : Nat → Nat → Int) (tn : Int) (t0 : Nat) (w : World)
    (hm : n ≤ maxLen) (hs0 : 0 < n → sa = some ⟨sb, off, none⟩ ∧ sb < w.heap.size) (hz0 : ∀ j, j < n → ∀ i, i < 2 → w.cell? ⟨sb, off + j * 2 + i, none⟩ = some (.int .i64 (Z j i))) (ht0 : t0 < 18446744073709551616) :
    Calls Try.prog 4 #[.slice sa n cap, .int .i64 tn, .int .u64 t0] w fun e w' => e = .returned (.bool true) ∧ w.grownBy w' none := by
  have HS := Lib.hid (SlAt.of hs0 hz0)
  have HM := Lib.hid hm
  clear hs0 hz0 hm
  have CA := Lib.hid (alive9 w)
  by_cases hn : 8 < n
  · skip
    go_enter Try.func4, Try.ntmps4
    go_wp2_with fail
    refine CA.out.mono ?_
    rintro e w1 ⟨rfl, k1⟩
    go_wp2
    go_ret
    exact ⟨rfl, k1⟩
  by_cases hR : RightP n Z tn
  case neg =>
    go_enter Try.func4, Try.ntmps4
    go_wp2_with fail
    refine CA.out.mono ?_
    rintro e w1 ⟨rfl, k1⟩
    have CR := Lib.hid (right_any (cap := cap) (HS.out.kept k1) HM.out tn false ⟨(fun e => by cases e), fun e => absurd e hR⟩)
    clear hR
    go_wp2_with fail
    refine CR.out.mono ?_
    rintro e w' ⟨rfl, rfl⟩
    go_wp2
    go_ret
    exact ⟨rfl, k1⟩
  have hn0 : 0 < n := by obtain ⟨j, hj, _⟩ := hR.2.2.2.2 0 (by have := hR.2.1; omega); omega
  obtain rfl := HS.out.at_ hn0
  obtain ⟨C, hC⟩ : ∃ C, sumN (fun i => (Z i 1).toNat) n = C := ⟨_, rfl⟩
  have hCl : C ≤ 8000 := by
    have := sumN_le (fun i => (Z i 1).toNat) 1000 n (fun i hi => by have := hR.2.2.2.1 i hi; omega)
    omega
  obtain ⟨tN, rfl⟩ : ∃ tN : Nat, tn = (tN : Int) := ⟨tn.toNat, by have := hR.2.1; omega⟩
  have htN : tN ≤ 8 := by have := hR.2.2.1; omega
  have hL0 : ∀ i, i < n → 0 < (Z i 1).toNat := fun i hi => by have := hR.2.2.2.1 i hi; omega
  obtain ⟨sl, hsl⟩ := slots_at (L := fun i => (Z i 1).toNat) (n := n) hn0 hL0
  have TK : Tk Z n sl := ⟨fun x => (hsl x).1, fun x => (hsl x).2⟩
  obtain ⟨x0, hx0⟩ : ∃ x0, t0 % 2 ^ 60 = x0 := ⟨_, rfl⟩
  have m1 : bits .and .u64 (t0 : Int) 1152921504606846975 = (x0 : Int) := by have := u64_mask 60 (by omega) t0 ht0; rw [hx0] at this; exact this
  have lx : x0 < 1152921504606846976 := by rw [← hx0]; exact Nat.mod_lt _ (by decide)
  obtain ⟨t, htt⟩ : ∃ t, x0 + 1 = t := ⟨_, rfl⟩
  have xt : IntKind.u64.wrap (1 + (x0 : Int)) = (t : Int) := by rw [IntKind.wrap_u64]; omega
  -- what the two searches answer
  have ATB : Hid (∀ (a : Array Value), PlV a (fun i => Z i 0) (fun i => (Z i 1).toNat) n C → ∀ y, y ≤ 8000 → ∃ (o : Nat) (b : Bool), o < tN ∧ Z (sl (x0 + y) % n) 0 = (o : Int) ∧ endN Z n sl (x0 + y) = (if b then 1 else 0) ∧
      (∀ z : Nat, z = t + y → ∀ v : World, Calls Try.prog 13 #[.agg a, .int .u64 (z : Nat)] v fun e w' => e = .returned (.tuple #[.int .i64 (o : Nat), .bool b]) ∧ v.grownBy w' none) ∧
      (∀ z : Nat, z = t + y + C → ∀ v : World, Calls Try.prog 13 #[.agg a, .int .u64 (z : Nat)] v fun e w' => e = .returned (.tuple #[.int .i64 (o : Nat), .bool b]) ∧ v.grownBy w' none)) :=
    Lib.hid fun a h y hy => by
      have hm := Nat.mod_lt (sl (x0 + y)) hn0
      obtain ⟨g0, g1, -, -⟩ := hR.2.2.2.1 _ hm
      refine ⟨(Z (sl (x0 + y) % n) 0).toNat, decide (x0 + y + 1 = begN (fun i => (Z i 1).toNat) n (sl (x0 + y) + 1)), by omega, by omega, ?_, fun z hz v => ?_, fun z hz v => ?_⟩
      · unfold endN
        by_cases h1 : x0 + y + 1 = begN (fun i => (Z i 1).toNat) n (sl (x0 + y) + 1)
        · rw [if_pos h1]; simp [h1]
        · rw [if_neg h1]; simp [h1]
      · have := at_time h hn0 (x0 + y) (sl (x0 + y)) (by omega) (TK.lo _) (TK.hi _) v
        rw [show ((Z (sl (x0 + y) % n) 0).toNat : Int) = Z (sl (x0 + y) % n) 0 by omega, hz, ← htt, show x0 + 1 + y = x0 + y + 1 by omega]
        exact this
      · have hon := TK.on hn0 hL0 hC (x0 + y)
        have e2 := begN_on (fun i => (Z i 1).toNat) n (sl (x0 + y) + 1) 1
        simp only [Nat.one_mul, hC] at e2
        have := at_time h hn0 (x0 + y + C) (sl (x0 + y + C)) (by omega) (TK.lo _) (TK.hi _) v
        rw [hon, Nat.add_mod_right, show sl (x0 + y) + n + 1 = sl (x0 + y) + 1 + n by omega, e2] at this
        rw [show ((Z (sl (x0 + y) % n) 0).toNat : Int) = Z (sl (x0 + y) % n) 0 by omega, hz, ← htt, show x0 + 1 + y + C = x0 + y + C + 1 by omega]
        have hd : decide (x0 + y + C + 1 = begN (fun i => (Z i 1).toNat) n (sl (x0 + y) + 1) + C) = decide (x0 + y + 1 = begN (fun i => (Z i 1).toNat) n (sl (x0 + y) + 1)) := decide_eq_decide.2 (by omega)
        rw [hd] at this
        exact this
  have TALL : Hid (∀ u : Int, sumN (fun y => tickN Z n sl u (x0 + y)) C = lensN Z u n) := Lib.hid fun u => ticks_all TK hn0 hL0 hC u x0
  have EALL : Hid (sumN (fun y => endN Z n sl (x0 + y)) C = n) := Lib.hid (ends_all TK hn0 hL0 hC x0)
  have LALL : Hid (sumN (fun u => lensN Z (u : Int) n) tN = C) := Lib.hid (by rw [← hC]; exact lens_all hR.2.2.2.1 n (Nat.le_refl _))
  have HTT := Lib.hid htt
  have HLX := Lib.hid lx
  have HR := Lib.hid hR
  have HC := Lib.hid hC
  have HN := Lib.hid hn
  clear hR hC hn hx0 htt lx TK hsl
  have hmk : ∀ W : World, (Instr.makeSlice 46 (.int .i64 (tN : Int)) (.int .i64 (tN : Int))).run Try.prog W = .ok (.slice (some ⟨W.heap.size, 0, none⟩) tN tN) (W.alloc (.cells (madeCells #[.int .i64 0] tN) 3)) := fun W => tk_make tN (by omega) W
  have hz := zero_run
  have hzs := zero_size
  obtain ⟨zp, hzp⟩ : ∃ zp, zeroPl = zp := ⟨_, rfl⟩
  rw [hzp] at hz hzs
  clear hzp
  have hn8 : ¬ (8 : Int) < (n : Int) := by have := HN.out; omega
  go_enter Try.func4, Try.ntmps4
  go_wp2_with fail
  refine CA.out.mono ?_
  rintro e w1 ⟨rfl, k1'⟩
  have CR := Lib.hid (right_any (cap := cap) (HS.out.kept k1') HM.out (tN : Int) true ⟨fun _ => HR.out, fun _ => rfl⟩)
  have CO := Lib.hid (of_ok (cap := cap) (HS.out.kept k1') HM.out (tN : Int) HR.out)
  have K1 := Lib.hid k1'
  clear CA k1'
  go_wp2_with fail
  refine CR.out.mono ?_
  rintro e w' ⟨rfl, rfl⟩
  go_wp2_with fail
  refine CO.out.mono ?_
  rintro e w2 ⟨a, rfl, PV, k2'⟩
  have K2 := Lib.hid (K1.out.trans k2')
  have hs := PV.size
  have h1 := PV.one
  obtain ⟨R2, k3'⟩ := laid_plan w2 zp a hzs hs
  have TN := Lib.hid (there_new w2 zp 29 130 hzs)
  rw [HC.out] at PV
  have PP := Lib.hid PV
  have R3 := Lib.hid R2
  have K3 := Lib.hid (K2.out.trans k3')
  clear CR CO K1 K2 k2' PV R2 k3'
  go_wp2_with (first | (refine store_plan w2.heap.size a TN.out hs h1 rfl rfl ?_) | (refine load_plan w2.heap.size a R3.out hs rfl ?_) | (refine load_plan_g w2.heap.size a R3.out hs rfl (by first | rfl | go_simp) ?_))
  generalize (w2.alloc (.cells zp 29)).setCells w2.heap.size 0 a.toList = w3 at *
  generalize w2.heap.size = pb at *
  clear TN hz hzs
  have CZ := Lib.hid (fun v => cycle_any PP.out v)
  refine (CZ.out _).mono ?_
  rintro e w4 ⟨rfl, k4⟩
  have R4 := Lib.hid (rangeAt_kept R3.out k4)
  have K4 := Lib.hid (K3.out.trans k4)
  clear R3 K3 k4
  by_cases hC160 : (160 : Int) < (C : Int)
  · go_wp2
    go_ret
    exact ⟨rfl, K4.out⟩
  have T0 := Lib.hid (TkAt.new w4 tN)
  have kn := World.grownBy_alloc w4 (.cells (madeCells #[.int .i64 0] tN) 3) none
  have R5 := Lib.hid (rangeAt_kept R4.out kn)
  have K5 := Lib.hid (K4.out.trans kn)
  have hq0 : Hid (w.heap.size ≤ w4.heap.size) := Lib.hid K4.out.size
  have hpq : Hid (pb ≠ w4.heap.size) := Lib.hid (by have := World.block_lt_of_cell? w4 _ (R4.out 0 a[0] (by simp)); simp at this; omega)
  clear kn R4
  go_wp2_with (first | (refine load_plan pb a R5.out hs rfl ?_))
  generalize w4.alloc (.cells (madeCells #[.int .i64 0] tN) 3) = w5 at *
  generalize w4.heap.size = q at *
  clear hmk
  refine (CZ.out _).mono ?_
  rintro e w6 ⟨rfl, k6⟩
  have R6 := Lib.hid (rangeAt_kept R5.out k6)
  have K6 := Lib.hid (K5.out.trans k6)
  have T6 := Lib.hid (T0.out.kept k6)
  clear R5 K5 T0 k6 K4
  have HC160 : Hid (C < 161) := Lib.hid (by omega)
  go_wp2
  clear hn8 hC160
  try (rename (n : Int) ≤ 8 => q1; clear q1)
  try (rename (C : Int) ≤ 160 => q1; clear q1)
  try (rename C ≤ 160 => q1; clear q1)
  go_loopw [9, 55] (fun ev it w7 => ∃ y : Nat, y ≤ C ∧ it = .int .u64 y ∧ ev = .int .i64 (sumN (fun i => endN Z n sl (x0 + i)) y : Nat) ∧ Hid (TkAt w7 q tN (fun u => sumN (fun i => tickN Z n sl (u : Int) (x0 + i)) y)) ∧ Hid (w7.rangeAt pb 0 a.toList) ∧ Hid (w.grownBy w7 none)) (fun ev it _ => C - (intOf it).toNat)
  case atStart => exact ⟨0, Nat.zero_le _, rfl, rfl, T6, R6, K6⟩
  case round =>
    obtain ⟨y, hy, rfl, rfl, T7, R7, K7⟩ := hrel
    clear T6 R6 K6
    by_cases hyC : y < C
    · obtain ⟨o, b, ho, hzo, hen, A1, A2⟩ := ATB.out a PP.out y (by have := HC160.out; omega)
      have hel : Hid (sumN (fun i => endN Z n sl (x0 + i)) y ≤ y * 1) := Lib.hid (sumN_le _ 1 y (fun i _ => by unfold endN; split <;> omega))
      have htl : Hid (sumN (fun i => tickN Z n sl (o : Int) (x0 + i)) y ≤ y * 1) := Lib.hid (sumN_le _ 1 y (fun i _ => by unfold tickN; split <;> omega))
      have es : Hid (sumN (fun i => endN Z n sl (x0 + i)) (y + 1) = sumN (fun i => endN Z n sl (x0 + i)) y + (if b then 1 else 0)) := Lib.hid (by rw [← hen]; rfl)
      have ts : Hid (∀ u : Nat, sumN (fun i => tickN Z n sl (u : Int) (x0 + i)) (y + 1) = if u = o then sumN (fun i => tickN Z n sl (o : Int) (x0 + i)) y + 1 else sumN (fun i => tickN Z n sl (u : Int) (x0 + i)) y) := Lib.hid fun u => by
        show _ + (if Z (sl (x0 + y) % n) 0 = (u : Int) then 1 else 0) = _
        rw [hzo]
        by_cases e : u = o
        · subst e; rw [if_pos rfl, if_pos rfl]
        · rw [if_neg (by omega), if_neg e]; rfl
      obtain ⟨z1, hz1⟩ : ∃ z1, t + y = z1 := ⟨_, rfl⟩
      obtain ⟨z2, hz2⟩ : ∃ z2, t + y + C = z2 := ⟨_, rfl⟩
      have lz : z2 < 18446744073709551616 := by have := HTT.out; have := HLX.out; have := HC160.out; omega
      have x1 : IntKind.u64.wrap ((t : Int) + (y : Int)) = (z1 : Int) := by rw [IntKind.wrap_u64]; omega
      have x2 : IntKind.u64.wrap ((z1 : Int) + (C : Int)) = (z2 : Int) := by rw [IntKind.wrap_u64]; omega
      have C7 := Lib.hid (A1 z1 hz1.symm)
      have C8 := Lib.hid (A2 z2 hz2.symm)
      have xy : IntKind.u64.wrap ((y : Int) + 1) = ((y + 1 : Nat) : Int) := by have := HC160.out; rw [IntKind.wrap_u64]; omega
      clear A1 A2 hzo hen hz1 hz2 lz
      go_wp2_with (first | (refine load_plan pb a R7.out hs rfl ?_))
      refine (C7.out _).mono ?_
      rintro e w8 ⟨rfl, k8⟩
      have R8 := Lib.hid (rangeAt_kept R7.out k8)
      have K8 := Lib.hid (K7.out.trans k8)
      have T8 := Lib.hid (T7.out.kept k8)
      clear C7 R7 K7 T7 k8
      go_wp2
      have R9 := Lib.hid (rangeAt_kept R8.out (drew_grown w8))
      have K9 := Lib.hid (K8.out.trans (drew_grown w8))
      have T9 := Lib.hid (T8.out.kept (drew_grown w8))
      have hrd : w8.drew.rangeAt pb 0 a.toList := R9.out
      refine wp_region_held_drew (S := fun w' => w'.rangeAt pb 0 a.toList) (by kernel_rfl) hrd (fun hHeld => ?_)
      clear T8 R8 K8
      generalize w8.drew = w9 at *
      refine wpAnyH_take (i := 0) (oi := ⟨_, _, _, _, _, _⟩) (v := _) rfl (by kernel_rfl) (by kernel_rfl) (by kernel_rfl) (fun _ _ _ h => h) (yieldsIf_load_mid (by rfl) _ _ rfl _ _ rfl _ _ (fun w hw => hw) Try.underlying29 rfl (by rw [plan_info]; simp [hs])) (by assumption) ?_
      simp only [Act.put, List.setIfInBounds_toArray, List.set_cons_zero, List.set_cons_succ]
      refine wpAnyH_take (i := 1) (oi := ⟨_, _, _, _, _, _⟩) (v := ?_) rfl (by kernel_rfl) (by kernel_rfl) (by kernel_rfl) (fun _ _ _ h => h) (Or.inl ⟨by rfl, ?_⟩) (by assumption) ?_
      rotate_left
      · intro wz hSw
        go_simp
        try with_reducible rfl
      simp only [Act.put, List.setIfInBounds_toArray, List.set_cons_zero, List.set_cons_succ]
      refine wpAnyH_take (i := 2) (oi := ⟨_, _, _, _, _, _⟩) (v := ?_) rfl (by kernel_rfl) (by kernel_rfl) (by kernel_rfl) (fun _ _ _ h => h) (Or.inl ⟨by rfl, ?_⟩) (by assumption) ?_
      rotate_left
      · intro wz hSw
        go_simp
        try with_reducible rfl
      simp only [Act.put, List.setIfInBounds_toArray, List.set_cons_zero, List.set_cons_succ]
      refine wpAnyH_take (i := 3) (oi := ⟨_, _, _, _, _, _⟩) (v := ?_) rfl (by kernel_rfl) (by kernel_rfl) (by kernel_rfl) (fun _ _ _ h => h) (Or.inl ⟨by rfl, ?_⟩) (by assumption) ?_
      rotate_left
      · intro wz hSw
        go_simp
        try with_reducible rfl
      simp only [Act.put, List.setIfInBounds_toArray, List.set_cons_zero, List.set_cons_succ]
      refine wpAnyH_take (i := 4) (oi := ⟨_, _, _, _, _, _⟩) (v := _) rfl (by kernel_rfl) (by kernel_rfl) (by kernel_rfl) (fun _ _ _ h => h) (yieldsIf_load_mid (by rfl) _ _ rfl _ _ rfl _ _ (fun w hw => hw) Try.underlying29 rfl (by rw [plan_info]; simp [hs])) (by assumption) ?_
      simp only [Act.put, List.setIfInBounds_toArray, List.set_cons_zero, List.set_cons_succ]
      refine wpAnyH_ready (rs := [5]) (by kernel_rfl) (by simp) ?_
      refine AllReadyH.cons (o := ⟨_, _, _, _, _, _⟩) rfl (fun K hK => ?_) AllReadyH.nil
      go_simp
      refine (CZ.out _).mono ?_
      rintro e w10 ⟨rfl, k10⟩
      refine hK.out _ _ (rangeAt_kept R9.out k10) (fun hHeld2 => ?_)
      have R10 := Lib.hid (rangeAt_kept R9.out k10)
      have K10 := Lib.hid (K9.out.trans k10)
      have T10 := Lib.hid (T9.out.kept k10)
      clear hK K R9 K9 T9 k10
      try simp only [Act.put, List.setIfInBounds_toArray, List.set_cons_zero, List.set_cons_succ]
      refine wpAnyH_take (i := 6) (oi := ⟨_, _, _, _, _, _⟩) (v := ?_) rfl (by kernel_rfl) (by kernel_rfl) (by kernel_rfl) (fun _ _ _ h => h) (Or.inl ⟨by rfl, ?_⟩) (by assumption) ?_
      rotate_left
      · intro wz hSw
        go_simp
        try with_reducible rfl
      simp only [Act.put, List.setIfInBounds_toArray, List.set_cons_zero, List.set_cons_succ]
      refine wpAnyH_ready (rs := [7]) (by kernel_rfl) (by simp) ?_
      refine AllReadyH.cons (o := ⟨_, _, _, _, _, _⟩) rfl (fun K hK => ?_) AllReadyH.nil
      go_simp
      refine (C8.out _).mono ?_
      rintro e w11 ⟨rfl, k11⟩
      refine hK.out _ _ (rangeAt_kept R10.out k11) (fun hHeld3 => ?_)
      have R11 := Lib.hid (rangeAt_kept R10.out k11)
      have K11 := Lib.hid (K10.out.trans k11)
      have T11 := Lib.hid (T10.out.kept k11)
      clear hK K R10 K10 T10 k11
      try simp only [Act.put, List.setIfInBounds_toArray, List.set_cons_zero, List.set_cons_succ]
      refine wpAnyH_take (i := 8) (oi := ⟨_, _, _, _, _, _⟩) (v := ?_) rfl (by kernel_rfl) (by kernel_rfl) (by kernel_rfl) (fun _ _ _ h => h) (Or.inl ⟨by rfl, ?_⟩) (by assumption) ?_
      rotate_left
      · intro wz hSw
        go_simp
        try with_reducible rfl
      simp only [Act.put, List.setIfInBounds_toArray, List.set_cons_zero, List.set_cons_succ]
      refine wpAnyH_take (i := 9) (oi := ⟨_, _, _, _, _, _⟩) (v := ?_) rfl (by kernel_rfl) (by kernel_rfl) (by kernel_rfl) (fun _ _ _ h => h) (Or.inl ⟨by rfl, ?_⟩) (by assumption) ?_
      rotate_left
      · intro wz hSw
        go_simp
        try with_reducible rfl
      simp only [Act.put, List.setIfInBounds_toArray, List.set_cons_zero, List.set_cons_succ]
      refine wpAnyH_take (i := 10) (oi := ⟨_, _, _, _, _, _⟩) (v := ?_) rfl (by kernel_rfl) (by kernel_rfl) (by kernel_rfl) (fun _ _ _ h => h) (Or.inl ⟨by rfl, ?_⟩) (by assumption) ?_
      rotate_left
      · intro wz hSw
        go_simp
        try with_reducible rfl
      simp only [Act.put, List.setIfInBounds_toArray, List.set_cons_zero, List.set_cons_succ]
      refine wpAnyH_take (i := 11) (oi := ⟨_, _, _, _, _, _⟩) (v := ?_) rfl (by kernel_rfl) (by kernel_rfl) (by kernel_rfl) (fun _ _ _ h => h) (Or.inl ⟨by rfl, ?_⟩) (by assumption) ?_
      rotate_left
      · intro wz hSw
        go_simp
        try with_reducible rfl
      simp only [Act.put, List.setIfInBounds_toArray, List.set_cons_zero, List.set_cons_succ]
      refine wpAnyH_take (i := 12) (oi := ⟨_, _, _, _, _, _⟩) (v := ?_) rfl (by kernel_rfl) (by kernel_rfl) (by kernel_rfl) (fun _ _ _ h => h) (Or.inl ⟨by rfl, ?_⟩) (by assumption) ?_
      rotate_left
      · intro wz hSw
        go_simp
        try with_reducible rfl
      simp only [Act.put, List.setIfInBounds_toArray, List.set_cons_zero, List.set_cons_succ]
      refine wpAnyH_done (by kernel_rfl) ?_ _
      clear hHeld hHeld2 hHeld3 C8
      have d0 := T11.out.cell o ho
      have d1 := T11.out.free o ho
      have TS := Lib.hid (T11.out.set o (sumN (fun i => tickN Z n sl (o : Int) (x0 + i)) y + 1) ho (g := fun u => sumN (fun i => tickN Z n sl (u : Int) (x0 + i)) (y + 1)) (fun j _ => ts.out j))
      have KS : Hid (∀ v, w.grownBy (w11.setCell ⟨q, o, none⟩ v) none) := Lib.hid fun v => Only.on K11.out (Only.set (lo := q) (hi := q + 1) _ _ _ (Nat.le_refl _) (Nat.lt_succ_self _)) hq0.out
      have RS : Hid (∀ v, (w11.setCell ⟨q, o, none⟩ v).rangeAt pb 0 a.toList) := Lib.hid fun v j u hu => by
        rw [World.cell?_setCell_other _ _ _ _ (by intro x; injection x with x1; exact hpq.out x1.symm)]; exact R11.out j u hu
      have o0 : ¬ (o : Int) < 0 := by omega
      have o1 : ¬ (tN : Int) ≤ (o : Int) := by omega
      have o2 : (0 : Int) ≤ (o : Int) := by omega
      have o3 : (o : Int) < (tN : Int) := by omega
      generalize hf0 : sumN (fun i => tickN Z n sl (o : Int) (x0 + i)) y = f0 at *
      generalize he0 : sumN (fun i => endN Z n sl (x0 + i)) y = e0 at *
      have xf : IntKind.i64.wrap ((f0 : Int) + 1) = ((f0 + 1 : Nat) : Int) := by have := htl.out; have := HC160.out; rw [IntKind.wrap_i64]; omega
      have xe : IntKind.i64.wrap ((e0 : Int) + 1) = ((e0 + 1 : Nat) : Int) := by have := hel.out; have := HC160.out; rw [IntKind.wrap_i64]; omega
      clear T11 hf0 he0
      cases b
      · go_wp2
        go_roundw
        case rel => exact ⟨y + 1, by omega, by go_num, by rw [es.out]; simp, TS, Lib.hid (RS.out _), Lib.hid (KS.out _)⟩
        case measure => simp [intOf]; omega
      · go_wp2
        go_roundw
        case rel => exact ⟨y + 1, by omega, by go_num, by rw [es.out]; simp, TS, Lib.hid (RS.out _), Lib.hid (KS.out _)⟩
        case measure => simp [intOf]; omega
    · obtain rfl : y = C := by omega
      have T8 : Hid (TkAt wr q tN (fun u => lensN Z (u : Int) n)) := Lib.hid (by have := T7.out; simpa only [TALL.out] using this)
      rw [EALL.out]
      clear T7 hyC ATB
      go_wp2
      go_loopw [16, 106] (fun sv it w8 => ∃ k : Nat, k ≤ tN ∧ it = .int .i64 k ∧ sv = .int .i64 (sumN (fun u => lensN Z (u : Int) n) k : Nat) ∧ Hid (TkAt w8 q tN (fun u => lensN Z (u : Int) n)) ∧ Hid (w8.rangeAt pb 0 a.toList) ∧ Hid (w.grownBy w8 none)) (fun sv it _ => tN - (intOf it).toNat)
      case atStart => exact ⟨0, Nat.zero_le _, rfl, rfl, T8, R7, K7⟩
      case round =>
        obtain ⟨k, hk, rfl, rfl, T9, R9, K9⟩ := hrel
        clear T8 R7 K7
        have hn64 : Hid (n ≤ 8) := Lib.hid (by have := HN.out; omega)
        by_cases hkt : k < tN
        · have d0 := T9.out.cell k hkt
          have ki1 : (k : Int) < (tN : Int) := by omega
          go_wp2
          go_loopw [19, 113] (fun wv it w10 => ∃ j : Nat, j ≤ n ∧ it = .int .i64 j ∧ wv = .int .i64 (lensN Z (k : Int) j : Nat) ∧ Hid (TkAt w10 q tN (fun u => lensN Z (u : Int) n)) ∧ Hid (w10.rangeAt pb 0 a.toList) ∧ Hid (w.grownBy w10 none)) (fun wv it _ => n - (intOf it).toNat)
          case atStart => exact ⟨0, Nat.zero_le _, rfl, rfl, T9, R9, K9⟩
          case round =>
            obtain ⟨j, hj, rfl, rfl, T10, R10, K10⟩ := hrel
            clear T9 R9 K9 d0
            by_cases hjn : j < n
            · have d0 := (HS.out.kept K10.out).own j hjn
              have d1 := (HS.out.kept K10.out).len j hjn
              have hls := lens_le HR.out.2.2.2.1 (k : Int) j hj
              obtain ⟨g0, g1, g2, g3⟩ := HR.out.2.2.2.1 j hjn
              obtain ⟨l, hl⟩ : ∃ l : Nat, Z j 1 = (l : Int) := ⟨(Z j 1).toNat, by omega⟩
              have ka := Lib.hid (fun v0 v1 => World.grownBy_alloc wr (.cells #[.int .i64 v0, .int .i64 v1] 26) none)
              have R11 : Hid (∀ v0 v1, (wr.alloc (.cells #[.int .i64 v0, .int .i64 v1] 26)).rangeAt pb 0 a.toList) := Lib.hid fun v0 v1 => rangeAt_kept R10.out (ka.out v0 v1)
              have K11 : Hid (∀ v0 v1, w.grownBy (wr.alloc (.cells #[.int .i64 v0, .int .i64 v1] 26)) none) := Lib.hid fun v0 v1 => K10.out.trans (ka.out v0 v1)
              have T11 : Hid (∀ v0 v1, TkAt (wr.alloc (.cells #[.int .i64 v0, .int .i64 v1] 26)) q tN (fun u => lensN Z (u : Int) n)) := Lib.hid fun v0 v1 => T10.out.kept (ka.out v0 v1)
              by_cases ho : Z j 0 = (k : Int)
              · have hly := Lib.hid (lens_yes ho)
                have xl : IntKind.i64.wrap ((lensN Z (k : Int) j : Int) + (l : Int)) = ((lensN Z (k : Int) (j + 1) : Nat) : Int) := by have := hn64.out; rw [hly.out, IntKind.wrap_i64]; omega
                have hj100 : (j : Int) < 100 := by have := hn64.out; omega
                rw [hl] at d1
                clear hls g0 g1 g2 g3 hl
                go_wp2
                go_roundw
                case rel => exact ⟨j + 1, by omega, by go_num, rfl, Lib.hid (T11.out _ _), Lib.hid (R11.out _ _), Lib.hid (K11.out _ _)⟩
                case measure => simp [intOf]; omega
              · have hly := Lib.hid (lens_no ho)
                have hj100 : (j : Int) < 100 := by have := hn64.out; omega
                clear hls g0 g1 g2 g3 hl
                go_wp2
                go_roundw
                case rel => exact ⟨j + 1, by omega, by go_num, by rw [hly.out], Lib.hid (T11.out _ _), Lib.hid (R11.out _ _), Lib.hid (K11.out _ _)⟩
                case measure => simp [intOf]; omega
            · obtain rfl : j = n := by omega
              have ss : Hid (sumN (fun u => lensN Z (u : Int) j) (k + 1) = sumN (fun u => lensN Z (u : Int) j) k + lensN Z (k : Int) j) := Lib.hid rfl
              have hl1 := lens_le HR.out.2.2.2.1 (k : Int) j (Nat.le_refl _)
              have hl2 : sumN (fun u => lensN Z (u : Int) j) k ≤ k * 8000 := sumN_le _ 8000 k (fun i _ => by have := lens_le HR.out.2.2.2.1 (i : Int) j (Nat.le_refl _); have := hn64.out; omega)
              have xs : IntKind.i64.wrap ((sumN (fun u => lensN Z (u : Int) j) k : Int) + (lensN Z (k : Int) j : Int)) = ((sumN (fun u => lensN Z (u : Int) j) (k + 1) : Nat) : Int) := by have := hn64.out; rw [ss.out, IntKind.wrap_i64]; omega
              have HKT : Hid (k < tN ∧ tN ≤ 8) := Lib.hid ⟨hkt, htN⟩
              clear hjn hl1 hl2
              generalize lensN Z (k : Int) j = lk at *
              generalize hs1 : sumN (fun u => lensN Z (u : Int) j) (k + 1) = s1 at *
              generalize sumN (fun u => lensN Z (u : Int) j) k = s0 at *
              have HS1 := Lib.hid hs1
              clear hs1
              go_wp2
              go_roundw
              case rel => exact ⟨k + 1, by omega, by have := HKT.out; go_num, by rw [HS1.out], T10, R10, K10⟩
              case measure => simp [intOf]; omega
        · obtain rfl : k = tN := by omega
          rw [LALL.out]
          have xc : IntKind.u64.wrap (y : Int) = (y : Int) := by have := HC160.out; rw [IntKind.wrap_u64]; omega
          have R9' := R9
          clear hkt R9'
          go_wp2_with (first | (refine load_plan pb a R9.out hs rfl ?_) | (refine load_plan_g pb a R9.out hs rfl (by first | rfl | go_simp) ?_))
          refine (CZ.out _).mono ?_
          rintro e w10 ⟨rfl, k10⟩
          have R10 := Lib.hid (rangeAt_kept R9.out k10)
          have K10 := Lib.hid (K9.out.trans k10)
          clear CZ R9 K9 k10
          go_wp2
          go_ret
          exact ⟨rfl, K10.out⟩
end Go.Proofs.Ytacdmolkagcafaa
