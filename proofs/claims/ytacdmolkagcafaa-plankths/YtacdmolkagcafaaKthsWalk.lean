/-
  PlanKths: the k-th slots rise with k and with the time, one goes on behind the other, and whole turns are whole cycles.
-/
import Derived.Test.YtacdmolkagcafaaSlots9
namespace Go.Proofs.Ytacdmolkagcafaa
open Go.RowKit Go.Lib
set_option maxRecDepth 100000
set_option linter.unusedVariables false

set_option maxHeartbeats 8000000 in
set_option maxRecDepth 100000 in
theorem kths_walk (sa : Option Addr) (n cap sb off : Nat) (Z : Nat → Nat → Int) (tn who : Int) (t0 : Nat) (kz tz : Int) (w : World)
    (hm : n ≤ maxLen) (hs0 : 0 < n → sa = some ⟨sb, off, none⟩ ∧ sb < w.heap.size) (hz0 : ∀ j, j < n → ∀ i, i < 2 → w.cell? ⟨sb, off + j * 2 + i, none⟩ = some (.int .i64 (Z j i))) (ht0 : t0 < 18446744073709551616) :
    Calls Try.prog 6 #[.slice sa n cap, .int .i64 tn, .int .i64 who, .int .u64 t0, .int .i64 kz, .int .i64 tz] w fun e w' => e = .returned (.bool true) ∧ w.grownBy w' none := by
  have HS := Lib.hid (SlAt.of hs0 hz0)
  have HM := Lib.hid hm
  clear hs0 hz0 hm
  have CA := Lib.hid (alive9 w)
  by_cases hn : 8 < n
  · go_enter Try.func6, Try.ntmps6
    go_wp2_with fail
    refine CA.out.mono ?_
    rintro e w1 ⟨rfl, k1⟩
    go_wp2
    go_ret
    exact ⟨rfl, k1⟩
  by_cases hR : RightP n Z tn
  case neg =>
    go_enter Try.func6, Try.ntmps6
    go_wp2_with fail
    refine CA.out.mono ?_
    rintro e w1 ⟨rfl, k1⟩
    have CR := Lib.hid (right_any (cap := cap) (HS.out.kept k1) HM.out tn false ⟨(fun e => by cases e), fun e => absurd e hR⟩)
    clear hR
    go_wp2_with fail
    refine CR.out.mono ?_
    rintro e w' ⟨rfl, rfl⟩
    go_wp2
    go_ret
    exact ⟨rfl, k1⟩
  by_cases hw0 : who < 0
  · go_enter Try.func6, Try.ntmps6
    go_wp2_with fail
    refine CA.out.mono ?_
    rintro e w1 ⟨rfl, k1⟩
    have CR := Lib.hid (right_any (cap := cap) (HS.out.kept k1) HM.out tn true ⟨fun _ => hR, fun _ => rfl⟩)
    clear hR
    go_wp2_with fail
    refine CR.out.mono ?_
    rintro e w' ⟨rfl, rfl⟩
    go_wp2
    go_ret
    exact ⟨rfl, k1⟩
  by_cases hw1 : tn ≤ who
  · go_enter Try.func6, Try.ntmps6
    go_wp2_with fail
    refine CA.out.mono ?_
    rintro e w1 ⟨rfl, k1⟩
    have CR := Lib.hid (right_any (cap := cap) (HS.out.kept k1) HM.out tn true ⟨fun _ => hR, fun _ => rfl⟩)
    clear hR
    go_wp2_with fail
    refine CR.out.mono ?_
    rintro e w' ⟨rfl, rfl⟩
    go_wp2
    go_ret
    exact ⟨rfl, k1⟩
  obtain ⟨P, E, m, T⟩ := turns_right hR (by omega) (by omega : who < tn)
  have hTT := T.t
  rw [mine_own] at hTT
  have hn0 : 0 < n := by obtain ⟨j, hj, _⟩ := hR.2.2.2.2 0 (by have := hR.2.1; omega); omega
  obtain rfl := HS.out.at_ hn0
  obtain ⟨each, heach⟩ : ∃ each, mineN Z who n = each := ⟨_, rfl⟩
  obtain ⟨C, hC⟩ : ∃ C, sumN (fun i => (Z i 1).toNat) n = C := ⟨_, rfl⟩
  rw [heach, hC] at hTT
  have hCl : C ≤ 8000 := by
    have := sumN_le (fun i => (Z i 1).toNat) 1000 n (fun i hi => by have := hR.2.2.2.1 i hi; omega)
    omega
  have hel : each ≤ 8 := by have := mine_le Z who n; omega
  obtain ⟨t, ht⟩ : ∃ t, t0 % 2 ^ 50 = t := ⟨_, rfl⟩
  obtain ⟨k, hk⟩ : ∃ k : Nat, kz % ((2 ^ 30 : Nat) : Int) = (k : Int) := ⟨(kz % ((2 ^ 30 : Nat) : Int)).toNat, by omega⟩
  obtain ⟨u, hu⟩ : ∃ u : Nat, tz % ((2 ^ 10 : Nat) : Int) = (u : Int) := ⟨(tz % ((2 ^ 10 : Nat) : Int)).toNat, by omega⟩
  have m1 : bits .and .u64 (t0 : Int) 1125899906842623 = (t : Int) := by have := u64_mask 50 (by omega) t0 ht0; rw [ht] at this; exact this
  have m2 : bits .and .i64 kz 1073741823 = (k : Int) := by rw [← hk]; exact i64_mask 30 (by omega) kz
  have m3 : bits .and .i64 tz 1023 = (u : Int) := by rw [← hu]; exact i64_mask 10 (by omega) tz
  have lt : t < 1125899906842624 := by rw [← ht]; exact Nat.mod_lt _ (by decide)
  have lk : k < 1073741824 := by omega
  have lu : u < 1024 := by omega
  have hue : u * each ≤ 1023 * 8 := Nat.mul_le_mul (by omega) hel
  have huC : u * C ≤ 1023 * 8000 := Nat.mul_le_mul (by omega) hCl
  -- the six answers
  have bnd : ∀ s x, s ≤ 1125899906842624 + 8000 * 1073741824 → x ≤ 1073741824 + 1023 * 8 + 8 → E (m s + x) < 18446744073709551616 := fun s x h1 h2 => by
    have h3 := hTT.bound s x
    have h4 : (x + 3) * C ≤ (1073741824 + 1023 * 8 + 8 + 3) * 8000 := Nat.mul_le_mul (by omega) hCl
    omega
  obtain ⟨av, hav⟩ : ∃ av, E (m t + k) = av := ⟨_, rfl⟩
  obtain ⟨bv, hbv⟩ : ∃ bv, E (m t + (k + 1)) = bv := ⟨_, rfl⟩
  obtain ⟨cv, hcv⟩ : ∃ cv, E (m (t + 1) + k) = cv := ⟨_, rfl⟩
  obtain ⟨dv, hdv⟩ : ∃ dv, E (m t + (k + u * each)) = dv := ⟨_, rfl⟩
  obtain ⟨fr, hfr⟩ : ∃ fr, P (m t) = fr := ⟨_, rfl⟩
  have frl : fr ≤ t + 3 * 8000 := by
    have h1 := hTT.bound t 0
    have h2 := (hTT.ends (m t)).1
    rw [Nat.add_zero] at h1
    omega
  have la := bnd t k (by omega) (by omega)
  have lb := bnd t (k + 1) (by omega) (by omega)
  have lc := bnd (t + 1) k (by omega) (by omega)
  have ld := bnd t (k + u * each) (by omega) (by omega)
  have ln := bnd t 0 (by omega) (by omega)
  have lf := bnd (fr + 1) k (by omega) (by omega)
  rw [Nat.add_zero] at ln
  have hmf : m (fr + 1) = m t + 1 := by rw [← hfr]; exact hTT.m_next (m t)
  have hfv : E (m (fr + 1) + k) = bv := by rw [hmf, ← hbv]; congr 1; omega
  have rab : av < bv := by rw [← hav, ← hbv]; exact hTT.elt (by omega)
  have rac : av ≤ cv := by
    rw [← hav, ← hcv]
    have h1 := hTT.m_mono (show t ≤ t + 1 by omega)
    rcases Nat.lt_or_ge (m t) (m (t + 1)) with h | h
    · exact Nat.le_of_lt (hTT.elt (by omega))
    · have : m (t + 1) = m t := by omega
      rw [this]; exact Nat.le_refl _
  have rcb : cv ≤ bv := by
    rw [← hcv, ← hbv]
    have h1 : m (t + 1) ≤ m t + 1 := hTT.m_le.2 (by have := hTT.m_ge t; have := hTT.rise (m t); omega)
    rcases Nat.lt_or_ge (m (t + 1) + k) (m t + (k + 1)) with h | h
    · exact Nat.le_of_lt (hTT.elt h)
    · have : m (t + 1) + k = m t + (k + 1) := by omega
      rw [this]; exact Nat.le_refl _
  have rad : dv = av + u * C := by rw [← hdv, ← hav, ← Nat.add_assoc]; exact hTT.perEs _ _
  obtain ⟨ue, hue'⟩ : ∃ ue, u * each = ue := ⟨_, rfl⟩
  obtain ⟨uc, huc'⟩ : ∃ uc, u * C = uc := ⟨_, rfl⟩
  rw [hue'] at hue hdv ld
  rw [huc'] at huC rad
  rw [hav] at la
  rw [hbv] at lb
  rw [hcv] at lc
  rw [hdv] at ld
  rw [hfv] at lf
  -- the numbers that go in
  obtain ⟨k1, hk1⟩ : ∃ k1 : Int, ((k + 1 : Nat) : Int) = k1 := ⟨_, rfl⟩
  obtain ⟨k2, hk2⟩ : ∃ k2 : Int, ((k + 1 + 1 : Nat) : Int) = k2 := ⟨_, rfl⟩
  obtain ⟨kd, hkd⟩ : ∃ kd : Int, ((k + ue + 1 : Nat) : Int) = kd := ⟨_, rfl⟩
  obtain ⟨t1, ht1⟩ : ∃ t1, t + 1 = t1 := ⟨_, rfl⟩
  obtain ⟨f1, hf1⟩ : ∃ f1, fr + 1 = f1 := ⟨_, rfl⟩
  have x1 : IntKind.i64.wrap (1 + (k : Int)) = k1 := by rw [IntKind.wrap_i64]; omega
  have x2 : IntKind.i64.wrap (k1 + 1) = k2 := by rw [IntKind.wrap_i64]; omega
  have x3 : IntKind.u64.wrap ((t : Int) + 1) = (t1 : Int) := by rw [IntKind.wrap_u64]; omega
  have x4 : IntKind.i64.wrap ((u : Int) * (each : Int)) = (ue : Int) := by rw [← Int.natCast_mul, hue', IntKind.wrap_i64]; omega
  have x5 : IntKind.i64.wrap (k1 + (ue : Int)) = kd := by rw [IntKind.wrap_i64]; omega
  have x6 : IntKind.u64.wrap ((fr : Int) + 1) = (f1 : Int) := by rw [IntKind.wrap_u64]; omega
  have x7 : IntKind.u64.wrap (u : Int) = (u : Int) := by rw [IntKind.wrap_u64]; omega
  have x8 : IntKind.u64.wrap ((u : Int) * (C : Int)) = (uc : Int) := by rw [← Int.natCast_mul, huc', IntKind.wrap_u64]; omega
  have x9 : IntKind.u64.wrap ((av : Int) + (uc : Int)) = (dv : Int) := by rw [IntKind.wrap_u64]; omega
  have CKA : Hid (∀ (a : Array Value), PlV a (fun i => Z i 0) (fun i => (Z i 1).toNat) n C → ∀ v : World, Calls Try.prog 18 #[.agg a, .int .i64 who, .int .u64 t, .int .i64 k1] v fun e w' => e = .returned (.tuple #[.int .u64 (av : Int), .bool true]) ∧ v.grownBy w' none) :=
    Lib.hid fun a h v => by rw [← hk1]; exact kth_at h T k t (by omega) (by omega) v av true (by rw [hav, if_pos la]; exact ⟨rfl, rfl⟩)
  have CKB : Hid (∀ (a : Array Value), PlV a (fun i => Z i 0) (fun i => (Z i 1).toNat) n C → ∀ v : World, Calls Try.prog 18 #[.agg a, .int .i64 who, .int .u64 t, .int .i64 k2] v fun e w' => e = .returned (.tuple #[.int .u64 (bv : Int), .bool true]) ∧ v.grownBy w' none) :=
    Lib.hid fun a h v => by rw [← hk2]; exact kth_at h T (k + 1) t (by omega) (by omega) v bv true (by rw [hbv, if_pos lb]; exact ⟨rfl, rfl⟩)
  have CKC : Hid (∀ (a : Array Value), PlV a (fun i => Z i 0) (fun i => (Z i 1).toNat) n C → ∀ v : World, Calls Try.prog 18 #[.agg a, .int .i64 who, .int .u64 t1, .int .i64 k1] v fun e w' => e = .returned (.tuple #[.int .u64 (cv : Int), .bool true]) ∧ v.grownBy w' none) :=
    Lib.hid fun a h v => by rw [← hk1, ← ht1]; exact kth_at h T k (t + 1) (by omega) (by omega) v cv true (by rw [hcv, if_pos lc]; exact ⟨rfl, rfl⟩)
  have CKD : Hid (∀ (a : Array Value), PlV a (fun i => Z i 0) (fun i => (Z i 1).toNat) n C → ∀ v : World, Calls Try.prog 18 #[.agg a, .int .i64 who, .int .u64 t, .int .i64 kd] v fun e w' => e = .returned (.tuple #[.int .u64 (dv : Int), .bool true]) ∧ v.grownBy w' none) :=
    Lib.hid fun a h v => by rw [← hkd]; exact kth_at h T (k + ue) t (by omega) (by omega) v dv true (by rw [hdv, if_pos ld]; exact ⟨rfl, rfl⟩)
  have CKN : Hid (∀ (a : Array Value), PlV a (fun i => Z i 0) (fun i => (Z i 1).toNat) n C → ∀ v : World, Calls Try.prog 16 #[.agg a, .int .i64 who, .int .u64 t] v fun e w' => e = .returned (.tuple #[.int .u64 (fr : Int), .int .u64 (E (m t) : Nat), .bool true]) ∧ v.grownBy w' none) :=
    Lib.hid fun a h v => next_at h T t (by omega) v fr (E (m t)) true (by rw [if_pos ln]; exact ⟨rfl, hfr.symm, rfl⟩)
  have CKF : Hid (∀ (a : Array Value), PlV a (fun i => Z i 0) (fun i => (Z i 1).toNat) n C → ∀ v : World, Calls Try.prog 18 #[.agg a, .int .i64 who, .int .u64 f1, .int .i64 k1] v fun e w' => e = .returned (.tuple #[.int .u64 (bv : Int), .bool true]) ∧ v.grownBy w' none) :=
    Lib.hid fun a h v => by rw [← hk1, ← hf1]; exact kth_at h T k (fr + 1) (by omega) (by omega) v bv true (by rw [hfv, if_pos lf]; exact ⟨rfl, rfl⟩)
  generalize E (m t) = nx at CKN
  have iab : (av : Int) < bv := by omega
  have iac : (av : Int) ≤ cv := by omega
  have icb : (cv : Int) ≤ bv := by omega
  have HR := Lib.hid hR
  have HE := Lib.hid heach
  have HC := Lib.hid hC
  have HN := Lib.hid hn
  clear T hTT heach hC ht hk hu bnd la lb lc ld ln lf hmf hfv rab rac rcb rad hue' huc' hav hbv hcv hdv hfr frl hk1 hk2 hkd ht1 hf1 hCl hel lt lk lu hue huC hR hn hn0
  have hz := zero_run
  have hzs := zero_size
  obtain ⟨zp, hzp⟩ : ∃ zp, zeroPl = zp := ⟨_, rfl⟩
  rw [hzp] at hz hzs
  clear hzp
  have hn8 : ¬ (8 : Int) < (n : Int) := by have := HN.out; omega
  go_enter Try.func6, Try.ntmps6
  go_wp2_with fail
  refine CA.out.mono ?_
  rintro e w1 ⟨rfl, k1'⟩
  have CR := Lib.hid (right_any (cap := cap) (HS.out.kept k1') HM.out tn true ⟨fun _ => HR.out, fun _ => rfl⟩)
  have CO := Lib.hid (of_ok (cap := cap) (HS.out.kept k1') HM.out tn HR.out)
  have K1 := Lib.hid k1'
  clear CA k1'
  go_wp2_with fail
  refine CR.out.mono ?_
  rintro e w' ⟨rfl, rfl⟩
  go_wp2_with fail
  refine CO.out.mono ?_
  rintro e w2 ⟨a, rfl, PV, k2'⟩
  have K2 := Lib.hid (K1.out.trans k2')
  have hs := PV.size
  have h1 := PV.one
  obtain ⟨R2, k3'⟩ := laid_plan w2 zp a hzs hs
  have TN := Lib.hid (there_new w2 zp 29 130 hzs)
  rw [HC.out] at PV
  have PP := Lib.hid PV
  have R3 := Lib.hid R2
  have K3 := Lib.hid (K2.out.trans k3')
  clear CR CO K1 K2 k2' PV R2 k3'
  go_wp2_with (first | (refine store_plan w2.heap.size a TN.out hs h1 rfl rfl ?_))
  generalize (w2.alloc (.cells zp 29)).setCells w2.heap.size 0 a.toList = w3 at *
  generalize w2.heap.size = pb at *
  clear TN hz hzs
  go_loopw [15, 66] (fun c it w4 => ∃ j : Nat, j ≤ n ∧ it = .int .i64 j ∧ c = .int .i64 (mineN Z who j : Nat) ∧ Hid (w4.rangeAt pb 0 a.toList) ∧ Hid (w.grownBy w4 none)) (fun c it _ => n - (intOf it).toNat)
  case atStart => exact ⟨0, Nat.zero_le _, rfl, rfl, R3, K3⟩
  case round =>
    obtain ⟨j, hj, rfl, rfl, R4, K4⟩ := hrel
    clear R3 K3
    by_cases hjn : j < n
    · have d0 := (HS.out.kept K4.out).own j hjn
      have d1 := (HS.out.kept K4.out).len j hjn
      have hle := mine_le Z who j
      have hn64 : n ≤ 8 := by have := HN.out; omega
      have ka := Lib.hid (fun v0 v1 => World.grownBy_alloc wr (.cells #[.int .i64 v0, .int .i64 v1] 26) none)
      have R5 : Hid (∀ v0 v1, (wr.alloc (.cells #[.int .i64 v0, .int .i64 v1] 26)).rangeAt pb 0 a.toList) := Lib.hid fun v0 v1 => rangeAt_kept R4.out (ka.out v0 v1)
      have K5 : Hid (∀ v0 v1, w.grownBy (wr.alloc (.cells #[.int .i64 v0, .int .i64 v1] 26)) none) := Lib.hid fun v0 v1 => K4.out.trans (ka.out v0 v1)
      by_cases ho : Z j 0 = who
      · have hmy := Lib.hid (mine_yes ho)
        have xm : IntKind.i64.wrap ((mineN Z who j : Int) + 1) = ((mineN Z who (j + 1) : Nat) : Int) := by rw [hmy.out, IntKind.wrap_i64]; omega
        clear hle
        go_wp2
        go_roundw
        case rel => exact ⟨j + 1, by omega, by go_num, rfl, Lib.hid (R5.out _ _), Lib.hid (K5.out _ _)⟩
        case measure => simp [intOf]; omega
      · have hmy := Lib.hid (mine_no ho)
        clear hle
        go_wp2
        go_roundw
        case rel => exact ⟨j + 1, by omega, by go_num, by rw [hmy.out], Lib.hid (R5.out _ _), Lib.hid (K5.out _ _)⟩
        case measure => simp [intOf]; omega
    · obtain rfl : j = n := by omega
      rw [HE.out]
      clear hjn
      have C4 := Lib.hid (CKA.out a PP.out)
      have C5 := Lib.hid (CKB.out a PP.out)
      have C6 := Lib.hid (CKC.out a PP.out)
      have C7 := Lib.hid (CKD.out a PP.out)
      have C8 := Lib.hid (CKN.out a PP.out)
      have C9 := Lib.hid (CKF.out a PP.out)
      have CZ := Lib.hid (fun v => cycle_any PP.out v)
      clear CKA CKB CKC CKD CKN CKF
      go_wp2_with (first | (refine load_plan pb a R4.out hs rfl ?_) | (refine load_plan_g pb a R4.out hs rfl (by first | rfl | go_simp) ?_))
      refine (C4.out _).mono ?_
      rintro e w5 ⟨rfl, k5⟩
      have R5 := Lib.hid (rangeAt_kept R4.out k5)
      have K5 := Lib.hid (K4.out.trans k5)
      clear C4 R4 K4 k5
      go_wp2_with (first | (refine load_plan pb a R5.out hs rfl ?_) | (refine load_plan_g pb a R5.out hs rfl (by first | rfl | go_simp) ?_))
      refine (C5.out _).mono ?_
      rintro e w6 ⟨rfl, k6⟩
      have R6 := Lib.hid (rangeAt_kept R5.out k6)
      have K6 := Lib.hid (K5.out.trans k6)
      clear C5 R5 K5 k6
      go_wp2_with (first | (refine load_plan pb a R6.out hs rfl ?_) | (refine load_plan_g pb a R6.out hs rfl (by first | rfl | go_simp) ?_))
      refine (C6.out _).mono ?_
      rintro e w7 ⟨rfl, k7⟩
      have R7 := Lib.hid (rangeAt_kept R6.out k7)
      have K7 := Lib.hid (K6.out.trans k7)
      clear C6 R6 K6 k7
      go_wp2_with (first | (refine load_plan pb a R7.out hs rfl ?_) | (refine load_plan_g pb a R7.out hs rfl (by first | rfl | go_simp) ?_))
      refine (C7.out _).mono ?_
      rintro e w8 ⟨rfl, k8⟩
      have R8 := Lib.hid (rangeAt_kept R7.out k8)
      have K8 := Lib.hid (K7.out.trans k8)
      clear C7 R7 K7 k8
      go_wp2_with (first | (refine load_plan pb a R8.out hs rfl ?_) | (refine load_plan_g pb a R8.out hs rfl (by first | rfl | go_simp) ?_))
      refine (C8.out _).mono ?_
      rintro e w9 ⟨rfl, k9⟩
      have R9 := Lib.hid (rangeAt_kept R8.out k9)
      have K9 := Lib.hid (K8.out.trans k9)
      clear C8 R8 K8 k9
      go_wp2_with (first | (refine load_plan pb a R9.out hs rfl ?_) | (refine load_plan_g pb a R9.out hs rfl (by first | rfl | go_simp) ?_))
      refine (C9.out _).mono ?_
      rintro e w10 ⟨rfl, k10⟩
      have R10 := Lib.hid (rangeAt_kept R9.out k10)
      have K10 := Lib.hid (K9.out.trans k10)
      clear C9 R9 K9 k10
      go_wp2_with (first | (refine load_plan pb a R10.out hs rfl ?_) | (refine load_plan_g pb a R10.out hs rfl (by first | rfl | go_simp) ?_))
      refine (CZ.out _).mono ?_
      rintro e w11 ⟨rfl, k11⟩
      have R11 := Lib.hid (rangeAt_kept R10.out k11)
      have K11 := Lib.hid (K10.out.trans k11)
      clear CZ R10 K10 k11
      go_wp2
      go_ret
      exact ⟨rfl, K11.out⟩
end Go.Proofs.Ytacdmolkagcafaa
