/-
  PlanCounts: from whichever time on, in a cycle a tenant has as many slots as it owns.
-/
import Derived.Test.YtacdmolkagcafaaSlots9
namespace Go.Proofs.Ytacdmolkagcafaa
open Go.RowKit Go.Lib
set_option maxRecDepth 100000
set_option linter.unusedVariables false

set_option maxHeartbeats 8000000 in
set_option maxRecDepth 100000 in
theorem counts_walk (sa : Option Addr) (n cap sb off : Nat) (Z : Nat → Nat → Int) (tn who : Int) (t0 : Nat) (w : World)
    (hm : n ≤ maxLen) (hs0 : 0 < n → sa = some ⟨sb, off, none⟩ ∧ sb < w.heap.size) (hz0 : ∀ j, j < n → ∀ i, i < 2 → w.cell? ⟨sb, off + j * 2 + i, none⟩ = some (.int .i64 (Z j i))) (ht0 : t0 < 18446744073709551616) :
    Calls Try.prog 7 #[.slice sa n cap, .int .i64 tn, .int .i64 who, .int .u64 t0] w fun e w' => e = .returned (.bool true) ∧ w.grownBy w' none := by
  have HS := Lib.hid (SlAt.of hs0 hz0)
  have HM := Lib.hid hm
  clear hs0 hz0 hm
  have CA := Lib.hid (alive9 w)
  by_cases hn : 8 < n
  · skip
    go_enter Try.func7, Try.ntmps7
    go_wp2_with fail
    refine CA.out.mono ?_
    rintro e w1 ⟨rfl, k1⟩
    go_wp2
    go_ret
    exact ⟨rfl, k1⟩
  by_cases hR : RightP n Z tn
  case neg =>
    go_enter Try.func7, Try.ntmps7
    go_wp2_with fail
    refine CA.out.mono ?_
    rintro e w1 ⟨rfl, k1⟩
    have CR := Lib.hid (right_any (cap := cap) (HS.out.kept k1) HM.out tn false ⟨(fun e => by cases e), fun e => absurd e hR⟩)
    clear hR
    go_wp2_with fail
    refine CR.out.mono ?_
    rintro e w' ⟨rfl, rfl⟩
    go_wp2
    go_ret
    exact ⟨rfl, k1⟩
  by_cases hw0 : who < 0
  · skip
    go_enter Try.func7, Try.ntmps7
    go_wp2_with fail
    refine CA.out.mono ?_
    rintro e w1 ⟨rfl, k1⟩
    have CR := Lib.hid (right_any (cap := cap) (HS.out.kept k1) HM.out tn true ⟨fun _ => hR, fun _ => rfl⟩)
    clear hR
    go_wp2_with fail
    refine CR.out.mono ?_
    rintro e w' ⟨rfl, rfl⟩
    go_wp2
    go_ret
    exact ⟨rfl, k1⟩
  by_cases hw1 : tn ≤ who
  · skip
    go_enter Try.func7, Try.ntmps7
    go_wp2_with fail
    refine CA.out.mono ?_
    rintro e w1 ⟨rfl, k1⟩
    have CR := Lib.hid (right_any (cap := cap) (HS.out.kept k1) HM.out tn true ⟨fun _ => hR, fun _ => rfl⟩)
    clear hR
    go_wp2_with fail
    refine CR.out.mono ?_
    rintro e w' ⟨rfl, rfl⟩
    go_wp2
    go_ret
    exact ⟨rfl, k1⟩
  have hn0 : 0 < n := by obtain ⟨j, hj, _⟩ := hR.2.2.2.2 0 (by have := hR.2.1; omega); omega
  obtain rfl := HS.out.at_ hn0
  obtain ⟨C, hC⟩ : ∃ C, sumN (fun i => (Z i 1).toNat) n = C := ⟨_, rfl⟩
  have hCl : C ≤ 8000 := by
    have := sumN_le (fun i => (Z i 1).toNat) 1000 n (fun i hi => by have := hR.2.2.2.1 i hi; omega)
    omega
  obtain ⟨P, E, m, T⟩ := turns_right hR (by omega) (by omega : who < tn)
  have hTT := T.t
  rw [mine_own] at hTT
  obtain ⟨each, heach⟩ : ∃ each, mineN Z who n = each := ⟨_, rfl⟩
  rw [heach, hC] at hTT
  have hel : each ≤ 8 := by have := mine_le Z who n; omega
  obtain ⟨t, ht⟩ : ∃ t, t0 % 2 ^ 60 = t := ⟨_, rfl⟩
  have m1 : bits .and .u64 (t0 : Int) 1152921504606846975 = (t : Int) := by have := u64_mask 60 (by omega) t0 ht0; rw [ht] at this; exact this
  have lt : t < 1152921504606846976 := by rw [← ht]; exact Nat.mod_lt _ (by decide)
  have bnd : ∀ x, x ≤ 8 → E (m t + x) < t + 88000 := fun x h2 => by
    have h3 := hTT.bound t x
    have h4 : (x + 3) * C ≤ 11 * 8000 := Nat.mul_le_mul (by omega) hCl
    omega
  have hper : P (m t + each) = P (m t) + C := hTT.perP (m t)
  have hlow : ∀ x, x < each → P (m t + x) < t + C := fun x hx => by
    have h1 := hTT.m_one t
    exact (hTT.mem (t + C) (m t + x)).2 (by omega)
  have hwin := T.window t
  rw [heach] at hwin
  have hlen : ∀ r, E r - P r ≤ 1000 := T.len_le hn0 (fun i hi => by have := hR.2.2.2.1 i hi; omega)
  have hgot : ∀ x, sumN (fun r => E (m t + r) - P (m t + r)) x ≤ x * 1000 := fun x => sumN_le _ 1000 x (fun i _ => hlen _)
  -- where each search begins
  have hat : ∃ at_ : Nat → Nat, at_ 0 = t ∧ (∀ x, at_ (x + 1) = P (m t + x) + 1) ∧ (∀ x, m (at_ x) = m t + x) ∧ (∀ x, at_ x ≤ P (m t + x)) := by
    refine ⟨fun x => if x = 0 then t else P (m t + (x - 1)) + 1, rfl, fun x => by simp, fun x => ?_, fun x => ?_⟩
    · cases x with
      | zero => rfl
      | succ x => simp only [Nat.add_eq_zero_iff, if_false, Nat.add_sub_cancel, Nat.succ_ne_zero, and_false]; rw [hTT.m_next]; omega
    · cases x with
      | zero => simpa using hTT.m_ge t
      | succ x => simp only [Nat.add_eq_zero_iff, if_false, Nat.add_sub_cancel, Nat.succ_ne_zero, and_false]; exact hTT.rise (m t + x)
  obtain ⟨at_, a0, aS, aM, aL⟩ := hat
  have NEXT : Hid (∀ (a : Array Value), PlV a (fun i => Z i 0) (fun i => (Z i 1).toNat) n C → ∀ x, x ≤ 8 → ∀ v : World, Calls Try.prog 16 #[.agg a, .int .i64 who, .int .u64 (at_ x : Nat)] v fun e w' => e = .returned (.tuple #[.int .u64 (P (m t + x) : Nat), .int .u64 (E (m t + x) : Nat), .bool true]) ∧ v.grownBy w' none) :=
    Lib.hid fun a h x hx v => by
      have b1 := bnd x hx
      have b2 := aL x
      have b3 := (hTT.ends (m t + x)).1
      exact next_at h T (at_ x) (by omega) v _ _ true (by rw [aM x, if_pos (by omega)]; exact ⟨rfl, rfl, rfl⟩)
  have KTH : Hid (∀ (a : Array Value), PlV a (fun i => Z i 0) (fun i => (Z i 1).toNat) n C → ∀ x, x ≤ 8 → ∀ kk : Int, kk = ((x + 1 : Nat) : Int) → ∀ v : World, Calls Try.prog 18 #[.agg a, .int .i64 who, .int .u64 t, .int .i64 kk] v fun e w' => e = .returned (.tuple #[.int .u64 (E (m t + x) : Nat), .bool true]) ∧ v.grownBy w' none) :=
    Lib.hid fun a h x hx kk hk v => by
      have b1 := bnd x hx
      subst hk
      exact kth_at h T x t (by omega) (by omega) v _ true (by rw [if_pos (by omega)]; exact ⟨rfl, rfl⟩)
  have FIRST : Hid (∀ (a : Array Value), PlV a (fun i => Z i 0) (fun i => (Z i 1).toNat) n C → ∀ v : World, Calls Try.prog 16 #[.agg a, .int .i64 who, .int .u64 t] v fun e w' => e = .returned (.tuple #[.int .u64 (P (m t) : Nat), .int .u64 (E (m t) : Nat), .bool true]) ∧ v.grownBy w' none) :=
    Lib.hid fun a h v => by have := NEXT.out a h 0 (by omega) v; rw [a0] at this; exact this
  have HP : Hid (∀ x, P (m t + x) < E (m t + x)) := Lib.hid fun x => (hTT.ends _).1
  have HBND := Lib.hid bnd
  have HGOT := Lib.hid hgot
  have HLOW := Lib.hid hlow
  have HPER := Lib.hid hper
  have HWIN := Lib.hid hwin
  have HA0 := Lib.hid a0
  have HAS := Lib.hid aS
  have HAL := Lib.hid aL
  have HR := Lib.hid hR
  have HE := Lib.hid heach
  have HC := Lib.hid hC
  have HN := Lib.hid hn
  clear T hTT heach hC ht bnd hper hlow hwin hlen hgot a0 aS aM aL hR hn hn0
  have hz := zero_run
  have hzs := zero_size
  obtain ⟨zp, hzp⟩ : ∃ zp, zeroPl = zp := ⟨_, rfl⟩
  rw [hzp] at hz hzs
  clear hzp
  have hn8 : ¬ (8 : Int) < (n : Int) := by have := HN.out; omega
  go_enter Try.func7, Try.ntmps7
  go_wp2_with fail
  refine CA.out.mono ?_
  rintro e w1 ⟨rfl, k1'⟩
  have CR := Lib.hid (right_any (cap := cap) (HS.out.kept k1') HM.out tn true ⟨fun _ => HR.out, fun _ => rfl⟩)
  have CO := Lib.hid (of_ok (cap := cap) (HS.out.kept k1') HM.out tn HR.out)
  have K1 := Lib.hid k1'
  clear CA k1'
  go_wp2_with fail
  refine CR.out.mono ?_
  rintro e w' ⟨rfl, rfl⟩
  go_wp2_with fail
  refine CO.out.mono ?_
  rintro e w2 ⟨a, rfl, PV, k2'⟩
  have K2 := Lib.hid (K1.out.trans k2')
  have hs := PV.size
  have h1 := PV.one
  obtain ⟨R2, k3'⟩ := laid_plan w2 zp a hzs hs
  have TN := Lib.hid (there_new w2 zp 29 130 hzs)
  rw [HC.out] at PV
  have PP := Lib.hid PV
  have R3 := Lib.hid R2
  have K3 := Lib.hid (K2.out.trans k3')
  clear CR CO K1 K2 k2' PV R2 k3'
  go_wp2_with (first | (refine store_plan w2.heap.size a TN.out hs h1 rfl rfl ?_))
  generalize (w2.alloc (.cells zp 29)).setCells w2.heap.size 0 a.toList = w3 at *
  generalize w2.heap.size = pb at *
  clear TN hz hzs
  go_loopw [11, 12, 59] (fun c s it w4 => ∃ j : Nat, j ≤ n ∧ it = .int .i64 j ∧ c = .int .i64 (mineN Z who j : Nat) ∧ s = .int .u64 (lensN Z who j : Nat) ∧ Hid (w4.rangeAt pb 0 a.toList) ∧ Hid (w.grownBy w4 none)) (fun c s it _ => n - (intOf it).toNat)
  case atStart => exact ⟨0, Nat.zero_le _, rfl, rfl, rfl, R3, K3⟩
  case round =>
    obtain ⟨j, hj, rfl, rfl, rfl, R4, K4⟩ := hrel
    clear R3 K3
    by_cases hjn : j < n
    · have d0 := (HS.out.kept K4.out).own j hjn
      have d1 := (HS.out.kept K4.out).len j hjn
      have hle := mine_le Z who j
      have hls := lens_le HR.out.2.2.2.1 who j hj
      obtain ⟨g0, g1, g2, g3⟩ := HR.out.2.2.2.1 j hjn
      obtain ⟨l, hl⟩ : ∃ l : Nat, Z j 1 = (l : Int) := ⟨(Z j 1).toNat, by omega⟩
      have hn64 : n ≤ 8 := by have := HN.out; omega
      have ka := Lib.hid (fun v0 v1 => World.grownBy_alloc wr (.cells #[.int .i64 v0, .int .i64 v1] 26) none)
      have R5 : Hid (∀ v0 v1, (wr.alloc (.cells #[.int .i64 v0, .int .i64 v1] 26)).rangeAt pb 0 a.toList) := Lib.hid fun v0 v1 => rangeAt_kept R4.out (ka.out v0 v1)
      have K5 : Hid (∀ v0 v1, w.grownBy (wr.alloc (.cells #[.int .i64 v0, .int .i64 v1] 26)) none) := Lib.hid fun v0 v1 => K4.out.trans (ka.out v0 v1)
      by_cases ho : Z j 0 = who
      · have hmy := Lib.hid (mine_yes ho)
        have hly := Lib.hid (lens_yes ho)
        have xm : IntKind.i64.wrap ((mineN Z who j : Int) + 1) = ((mineN Z who (j + 1) : Nat) : Int) := by rw [hmy.out, IntKind.wrap_i64]; omega
        have xl : IntKind.u64.wrap ((lensN Z who j : Int) + (l : Int)) = ((lensN Z who (j + 1) : Nat) : Int) := by rw [hly.out, IntKind.wrap_u64]; omega
        have xx : IntKind.u64.wrap (l : Int) = (l : Int) := by rw [IntKind.wrap_u64]; omega
        rw [hl] at d1
        clear hle hls g0 g1 g2 g3 hl
        go_wp2
        go_roundw
        case rel => exact ⟨j + 1, by omega, by go_num, rfl, rfl, Lib.hid (R5.out _ _), Lib.hid (K5.out _ _)⟩
        case measure => simp [intOf]; omega
      · have hmy := Lib.hid (mine_no ho)
        have hly := Lib.hid (lens_no ho)
        clear hle hls g0 g1 g2 g3 hl
        go_wp2
        go_roundw
        case rel => exact ⟨j + 1, by omega, by go_num, by rw [hmy.out], by rw [hly.out], Lib.hid (R5.out _ _), Lib.hid (K5.out _ _)⟩
        case measure => simp [intOf]; omega
    · obtain rfl : j = n := by omega
      rw [HE.out]
      clear hjn
      have C4 := Lib.hid (FIRST.out a PP.out)
      go_wp2_with (first | (refine load_plan pb a R4.out hs rfl ?_) | (refine load_plan_g pb a R4.out hs rfl (by first | rfl | go_simp) ?_))
      refine (C4.out _).mono ?_
      rintro e w5 ⟨rfl, k5⟩
      have R5 := Lib.hid (rangeAt_kept R4.out k5)
      have K5 := Lib.hid (K4.out.trans k5)
      clear C4 R4 K4 k5
      go_wp2
      go_loopw [18, 19, 85] (fun av g it w6 => ∃ x : Nat, x ≤ each ∧ it = .int .i64 x ∧ av = .int .u64 (at_ x : Nat) ∧ g = .int .u64 (sumN (fun r => E (m t + r) - P (m t + r)) x : Nat) ∧ Hid (w6.rangeAt pb 0 a.toList) ∧ Hid (w.grownBy w6 none)) (fun av g it _ => each - (intOf it).toNat)
      case atStart => exact ⟨0, Nat.zero_le _, rfl, by rw [HA0.out], rfl, R5, K5⟩
      case round =>
        obtain ⟨x, hx, rfl, rfl, rfl, R6, K6⟩ := hrel
        clear R5 K5
        by_cases hxe : x < each
        · have b1 := HBND.out x (by omega)
          have b2 := HAL.out x
          have b3 := HP.out x
          have b4 := HLOW.out x hxe
          have b5 := HGOT.out x
          have hsum : Hid (sumN (fun r => E (m t + r) - P (m t + r)) (x + 1) = sumN (fun r => E (m t + r) - P (m t + r)) x + (E (m t + x) - P (m t + x))) := Lib.hid rfl
          have hast := Lib.hid (HAS.out x)
          have C6 := Lib.hid (NEXT.out a PP.out x (by omega))
          obtain ⟨kk, hkk⟩ : ∃ kk : Int, ((x + 1 : Nat) : Int) = kk := ⟨_, rfl⟩
          have C7 := Lib.hid (KTH.out a PP.out x (by omega) kk hkk.symm)
          have C8 := Lib.hid (fun v => cycle_any PP.out v)
          have y1 : IntKind.i64.wrap ((x : Int) + 1) = kk := by rw [IntKind.wrap_i64]; omega
          generalize hp : P (m t + x) = p at *
          generalize he : E (m t + x) = e' at *
          generalize hax : at_ x = ax at *
          generalize hax1 : at_ (x + 1) = ax1 at *
          generalize hg0 : sumN (fun r => E (m t + r) - P (m t + r)) x = g0 at *
          generalize hg1 : sumN (fun r => E (m t + r) - P (m t + r)) (x + 1) = g1 at *
          have HX1 := Lib.hid hax1
          have HG1 := Lib.hid hg1
          have y2 : IntKind.u64.wrap ((t : Int) + (C : Int)) = ((t + C : Nat) : Int) := by rw [IntKind.wrap_u64]; omega
          obtain ⟨tc, htc⟩ : ∃ tc, t + C = tc := ⟨_, rfl⟩
          rw [htc] at y2 b4
          have y3 : IntKind.u64.wrap ((e' : Int) - (p : Int)) = ((e' - p : Nat) : Int) := by rw [IntKind.wrap_u64]; omega
          obtain ⟨ep, hep⟩ : ∃ ep, e' - p = ep := ⟨_, rfl⟩
          rw [hep] at y3
          have y4 : IntKind.u64.wrap ((g0 : Int) + (ep : Int)) = (g1 : Int) := by rw [hsum.out, hep, IntKind.wrap_u64]; omega
          have y5 : IntKind.u64.wrap ((p : Int) + 1) = (ax1 : Int) := by rw [hast.out, IntKind.wrap_u64]; omega
          have z1 : ¬ (p : Int) < (ax : Int) := by omega
          have z2 : ¬ (tc : Int) ≤ (p : Int) := by omega
          have hxl : Hid (x < each) := Lib.hid hxe
          have hel' := Lib.hid hel
          have HKK := Lib.hid hkk
          clear hp he hax hax1 hg0 hg1 b1 b2 b3 b4 b5 htc hep hkk
          go_wp2_with (first | (refine load_plan pb a R6.out hs rfl ?_) | (refine load_plan_g pb a R6.out hs rfl (by first | rfl | go_simp) ?_))
          refine (C6.out _).mono ?_
          rintro e w7 ⟨rfl, k7⟩
          have R7 := Lib.hid (rangeAt_kept R6.out k7)
          have K7 := Lib.hid (K6.out.trans k7)
          clear C6 R6 K6 k7
          go_wp2_with (first | (refine load_plan pb a R7.out hs rfl ?_) | (refine load_plan_g pb a R7.out hs rfl (by first | rfl | go_simp) ?_))
          refine (C7.out _).mono ?_
          rintro e w8 ⟨rfl, k8⟩
          have R8 := Lib.hid (rangeAt_kept R7.out k8)
          have K8 := Lib.hid (K7.out.trans k8)
          clear C7 R7 K7 k8
          go_wp2_with (first | (refine load_plan pb a R8.out hs rfl ?_) | (refine load_plan_g pb a R8.out hs rfl (by first | rfl | go_simp) ?_))
          refine (C8.out _).mono ?_
          rintro e w9 ⟨rfl, k9⟩
          have R9 := Lib.hid (rangeAt_kept R8.out k9)
          have K9 := Lib.hid (K8.out.trans k9)
          clear C8 R8 K8 k9
          go_wp2
          go_roundw
          case rel => exact ⟨x + 1, by have := hxl.out; omega, by rw [HKK.out], by rw [HX1.out], by rw [HG1.out], R9, K9⟩
          case measure => have := hxl.out; rw [← HKK.out]; simp [intOf]; omega
        · obtain rfl : x = each := by omega
          have b1 := HBND.out x (by omega)
          have b3 := HP.out x
          have C6 := Lib.hid (NEXT.out a PP.out x (by omega))
          have C7 := Lib.hid (fun v => cycle_any PP.out v)
          rw [HWIN.out]
          have y2 : IntKind.u64.wrap ((P (m t) : Int) + (C : Int)) = (P (m t + x) : Int) := by rw [HPER.out, IntKind.wrap_u64]; have := HPER.out; omega
          generalize P (m t + x) = p at *
          generalize P (m t) = p0 at *
          generalize E (m t + x) = e' at *
          generalize E (m t) = e0 at *
          generalize at_ x = ax at *
          clear b1 b3 hxe
          go_wp2_with (first | (refine load_plan pb a R6.out hs rfl ?_) | (refine load_plan_g pb a R6.out hs rfl (by first | rfl | go_simp) ?_))
          refine (C6.out _).mono ?_
          rintro e w7 ⟨rfl, k7⟩
          have R7 := Lib.hid (rangeAt_kept R6.out k7)
          have K7 := Lib.hid (K6.out.trans k7)
          clear C6 R6 K6 k7
          go_wp2_with (first | (refine load_plan pb a R7.out hs rfl ?_) | (refine load_plan_g pb a R7.out hs rfl (by first | rfl | go_simp) ?_))
          refine (C7.out _).mono ?_
          rintro e w8 ⟨rfl, k8⟩
          have R8 := Lib.hid (rangeAt_kept R7.out k8)
          have K8 := Lib.hid (K7.out.trans k8)
          clear C7 R7 K7 k8
          go_wp2
          go_ret
          exact ⟨rfl, K8.out⟩
end Go.Proofs.Ytacdmolkagcafaa
