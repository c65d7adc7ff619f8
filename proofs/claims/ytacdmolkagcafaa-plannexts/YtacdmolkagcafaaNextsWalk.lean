/-
  PlanNexts: the next slot of a tenant begins no earlier than asked, is its own, and no slot of it begins between.
-/
import Derived.Test.YtacdmolkagcafaaSlotsAt
namespace Go.Proofs.Ytacdmolkagcafaa
open Go.RowKit Go.Lib
set_option maxRecDepth 100000
set_option linter.unusedVariables false

set_option maxHeartbeats 8000000 in
set_option maxRecDepth 100000 in
theorem nexts_walk (sa : Option Addr) (n cap sb off : Nat) (Z : Nat → Nat → Int) (tn who : Int) (t0 : Nat) (w : World)
    (hm : n ≤ maxLen) (hs0 : 0 < n → sa = some ⟨sb, off, none⟩ ∧ sb < w.heap.size) (hz0 : ∀ j, j < n → ∀ i, i < 2 → w.cell? ⟨sb, off + j * 2 + i, none⟩ = some (.int .i64 (Z j i))) (ht0 : t0 < 18446744073709551616) :
    Calls Try.prog 5 #[.slice sa n cap, .int .i64 tn, .int .i64 who, .int .u64 t0] w fun e w' => e = .returned (.bool true) ∧ w.grownBy w' none := by
  have HS := Lib.hid (SlAt.of hs0 hz0)
  have HM := Lib.hid hm
  clear hs0 hz0 hm
  have CA := Lib.hid (alive9 w)
  by_cases hn : 8 < n
  · skip
    go_enter Try.func5, Try.ntmps5
    go_wp2_with fail
    refine CA.out.mono ?_
    rintro e w1 ⟨rfl, k1⟩
    go_wp2
    go_ret
    exact ⟨rfl, k1⟩
  by_cases hR : RightP n Z tn
  case neg =>
    go_enter Try.func5, Try.ntmps5
    go_wp2_with fail
    refine CA.out.mono ?_
    rintro e w1 ⟨rfl, k1⟩
    have CR := Lib.hid (right_any (cap := cap) (HS.out.kept k1) HM.out tn false ⟨(fun e => by cases e), fun e => absurd e hR⟩)
    clear hR
    go_wp2_with fail
    refine CR.out.mono ?_
    rintro e w' ⟨rfl, rfl⟩
    go_wp2
    go_ret
    exact ⟨rfl, k1⟩
  have hn0 : 0 < n := by obtain ⟨j, hj, _⟩ := hR.2.2.2.2 0 (by have := hR.2.1; omega); omega
  obtain rfl := HS.out.at_ hn0
  obtain ⟨C, hC⟩ : ∃ C, sumN (fun i => (Z i 1).toNat) n = C := ⟨_, rfl⟩
  have hCl : C ≤ 8000 := by
    have := sumN_le (fun i => (Z i 1).toNat) 1000 n (fun i hi => by have := hR.2.2.2.1 i hi; omega)
    omega
  obtain ⟨t, ht⟩ : ∃ t, t0 % 2 ^ 60 = t := ⟨_, rfl⟩
  have m1 : bits .and .u64 (t0 : Int) 1152921504606846975 = (t : Int) := by have := u64_mask 60 (by omega) t0 ht0; rw [ht] at this; exact this
  have lt : t < 1152921504606846976 := by rw [← ht]; exact Nat.mod_lt _ (by decide)
  have HR := Lib.hid hR
  have HC := Lib.hid hC
  have HN := Lib.hid hn
  by_cases hwo : who < 0 ∨ tn ≤ who
  · have hown : ownN (fun i => Z i 0) n who n = 0 := by
      rcases Nat.eq_zero_or_pos (ownN (fun i => Z i 0) n who n) with h | h
      · exact h
      · obtain ⟨i, hi, ho, _⟩ := own_before (fun i => Z i 0) n who 0 n h
        rw [Nat.mod_eq_of_lt hi] at ho
        have := hR.2.2.2.1 i hi
        omega
    have HOW := Lib.hid hown
    clear hown hR hC hn ht
    have hz := zero_run
    have hzs := zero_size
    obtain ⟨zp, hzp⟩ : ∃ zp, zeroPl = zp := ⟨_, rfl⟩
    rw [hzp] at hz hzs
    clear hzp
    have hn8 : ¬ (8 : Int) < (n : Int) := by have := HN.out; omega
    go_enter Try.func5, Try.ntmps5
    go_wp2_with fail
    refine CA.out.mono ?_
    rintro e w1 ⟨rfl, k1'⟩
    have CR := Lib.hid (right_any (cap := cap) (HS.out.kept k1') HM.out tn true ⟨fun _ => HR.out, fun _ => rfl⟩)
    have CO := Lib.hid (of_ok (cap := cap) (HS.out.kept k1') HM.out tn HR.out)
    have K1 := Lib.hid k1'
    clear CA k1'
    go_wp2_with fail
    refine CR.out.mono ?_
    rintro e w' ⟨rfl, rfl⟩
    go_wp2_with fail
    refine CO.out.mono ?_
    rintro e w2 ⟨a, rfl, PV, k2'⟩
    have K2 := Lib.hid (K1.out.trans k2')
    have hs := PV.size
    have h1 := PV.one
    obtain ⟨R2, k3'⟩ := laid_plan w2 zp a hzs hs
    have TN := Lib.hid (there_new w2 zp 29 130 hzs)
    rw [HC.out] at PV
    have PP := Lib.hid PV
    have R3 := Lib.hid R2
    have K3 := Lib.hid (K2.out.trans k3')
    clear CR CO K1 K2 k2' PV R2 k3'
    have C3 := Lib.hid (fun v => next_few PP.out who t HOW.out v)
    go_wp2_with (first | (refine store_plan w2.heap.size a TN.out hs h1 rfl rfl ?_) | (refine load_plan w2.heap.size a R3.out hs rfl ?_))
    generalize (w2.alloc (.cells zp 29)).setCells w2.heap.size 0 a.toList = w3 at *
    generalize w2.heap.size = pb at *
    clear TN hz hzs
    refine (C3.out _).mono ?_
    rintro e w4 ⟨rfl, k4⟩
    have K4 := Lib.hid (K3.out.trans k4)
    clear C3 K3 k4
    by_cases hw0 : who < 0
    · clear hwo
      go_wp2
      go_ret
      exact ⟨rfl, K4.out⟩
    · have hw1 : tn ≤ who := by omega
      clear hwo
      go_wp2
      go_ret
      exact ⟨rfl, K4.out⟩
  have hw0 : ¬ who < 0 := by omega
  have hw1 : ¬ tn ≤ who := by omega
  obtain ⟨P, E, m, T⟩ := turns_right hR (by omega) (by omega : who < tn)
  have hTT := T.t
  rw [mine_own] at hTT
  obtain ⟨each, heach⟩ : ∃ each, mineN Z who n = each := ⟨_, rfl⟩
  rw [heach, hC] at hTT
  have hel : each ≤ 8 := by have := mine_le Z who n; omega
  have hlen := T.len_le hn0 (fun i hi => by have := hR.2.2.2.1 i hi; omega) (m t)
  obtain ⟨i, hio, hic, hiP, hiE⟩ := T.at (m t)
  obtain ⟨fr, hfr⟩ : ∃ fr, P (m t) = fr := ⟨_, rfl⟩
  obtain ⟨to, hto⟩ : ∃ to, E (m t) = to := ⟨_, rfl⟩
  have hft : t ≤ fr := by rw [← hfr]; exact hTT.m_ge t
  have hfC : fr < t + C := by
    rw [← hfr]
    have h1 := hTT.m_one t
    have := hTT.pos
    exact (hTT.mem (t + C) (m t)).2 (by omega)
  have hfto : fr < to := by rw [← hfr, ← hto]; exact (hTT.ends _).1
  rw [hfr, hto] at hlen
  have hmf : m fr = m t := by rw [← hfr]; exact hTT.m_at _
  obtain ⟨hf, hhf⟩ : ∃ hf, t + (fr - t) / 2 = hf := ⟨_, rfl⟩
  have hmh : m hf = m t := hTT.m_same (by omega) (by rw [hfr]; omega)
  rw [hfr] at hiP
  rw [hto] at hiE
  have NEXT : Hid (∀ (a : Array Value), PlV a (fun i => Z i 0) (fun i => (Z i 1).toNat) n C → ∀ s, s = t ∨ s = fr ∨ s = hf → ∀ v : World, Calls Try.prog 16 #[.agg a, .int .i64 who, .int .u64 (s : Nat)] v fun e w' => e = .returned (.tuple #[.int .u64 (fr : Nat), .int .u64 (to : Nat), .bool true]) ∧ v.grownBy w' none) :=
    Lib.hid fun a h s hs v => by
      have hm : m s = m t := by rcases hs with rfl | rfl | rfl; rfl; exact hmf; exact hmh
      have hl : s < 18446744073709551616 := by rcases hs with rfl | rfl | rfl <;> omega
      exact next_at h T s hl v fr to true (by rw [hm, hfr, hto, if_pos (by omega)]; exact ⟨rfl, rfl, rfl⟩)
  have KTH : Hid (∀ (a : Array Value), PlV a (fun i => Z i 0) (fun i => (Z i 1).toNat) n C → ∀ v : World, Calls Try.prog 18 #[.agg a, .int .i64 who, .int .u64 t, .int .i64 1] v fun e w' => e = .returned (.tuple #[.int .u64 (to : Nat), .bool true]) ∧ v.grownBy w' none) :=
    Lib.hid fun a h v => kth_at h T 0 t (by omega) (by omega) v to true (by rw [Nat.add_zero, hto, if_pos (by omega)]; exact ⟨rfl, rfl⟩)
  have ATY : Hid (∀ (a : Array Value), PlV a (fun i => Z i 0) (fun i => (Z i 1).toNat) n C → ∀ y, fr < y → y ≤ to → ∀ b : Bool, b = decide (y = to) → ∀ v : World, Calls Try.prog 13 #[.agg a, .int .u64 (y : Nat)] v fun e w' => e = .returned (.tuple #[.int .i64 who, .bool b]) ∧ v.grownBy w' none) :=
    Lib.hid fun a h y h1 h2 b hb v => by
      obtain ⟨x, rfl⟩ : ∃ x, y = x + 1 := ⟨y - 1, by omega⟩
      have := at_time h hn0 x i (by omega) (by omega) (by omega) v
      rw [hio, ← hiE, ← hb] at this
      exact this
  have ATF : Hid (∀ (a : Array Value), PlV a (fun i => Z i 0) (fun i => (Z i 1).toNat) n C → ∀ v : World, ∃ (o : Int) (b : Bool), (0 < fr → b = true) ∧ Calls Try.prog 13 #[.agg a, .int .u64 (fr : Nat)] v fun e w' => e = .returned (.tuple #[.int .i64 o, .bool b]) ∧ v.grownBy w' none) :=
    Lib.hid fun a h v => by
      rcases Nat.eq_zero_or_pos fr with h0 | h0
      · rw [h0]; exact ⟨0, false, fun h => absurd h (by omega), at_zero h v⟩
      · obtain ⟨x, hx⟩ : ∃ x, fr = x + 1 := ⟨fr - 1, by omega⟩
        have hi0 : 0 < i := by
          rcases Nat.eq_zero_or_pos i with e | e
          · subst e; have : begN (fun i => (Z i 1).toNat) n 0 = 0 := rfl; omega
          · exact e
        have hlt := begN_lt (L := fun i => (Z i 1).toNat) (n := n) hn0 (fun i hi => by have := hR.2.2.2.1 i hi; omega) (show i - 1 < i by omega)
        have := at_time h hn0 x (i - 1) (by omega) (by omega) (by rw [Nat.sub_add_cancel hi0]; omega) v
        rw [Nat.sub_add_cancel hi0, ← hiP, ← hx] at this
        exact ⟨_, true, fun _ => rfl, by simpa using this⟩
  have z1 : ¬ ((fr : Int) < (t : Int)) := by omega
  obtain ⟨df, hdf⟩ : ∃ df, fr - t = df := ⟨_, rfl⟩
  obtain ⟨ln, hln⟩ : ∃ ln, to - fr = ln := ⟨_, rfl⟩
  have x1 : IntKind.u64.wrap ((fr : Int) - (t : Int)) = (df : Int) := by rw [IntKind.wrap_u64]; omega
  have x2 : IntKind.u64.wrap ((to : Int) - (fr : Int)) = (ln : Int) := by rw [IntKind.wrap_u64]; omega
  have z2 : ¬ ((C : Int) ≤ (df : Int)) := by omega
  have z3 : ¬ ((to : Int) ≤ (fr : Int)) := by omega
  have z4 : ¬ ((1000 : Int) < (ln : Int)) := by omega

  obtain ⟨f1, hf1⟩ : ∃ f1, fr + 1 = f1 := ⟨_, rfl⟩
  have x3 : IntKind.u64.wrap ((fr : Int) + 1) = (f1 : Int) := by rw [IntKind.wrap_u64]; omega
  have x4 : (df : Int) / 2 = ((df / 2 : Nat) : Int) := by omega
  obtain ⟨d2, hd2⟩ : ∃ d2, df / 2 = d2 := ⟨_, rfl⟩
  rw [hd2] at x4
  have x5 : IntKind.u64.wrap ((t : Int) + (d2 : Int)) = (hf : Int) := by rw [IntKind.wrap_u64]; omega
  have x6 : IntKind.u64.wrap (d2 : Int) = (d2 : Int) := by rw [IntKind.wrap_u64]; omega
  have HTO : Hid (to < 2305843009213693952) := Lib.hid (by omega)
  have hbr : Hid (fr = t ∨ t < fr) := Lib.hid (by omega)
  have HF1 := Lib.hid hf1
  have HFT := Lib.hid hfto
  clear T hTT heach hC ht hR hn hn0 hwo hmf hmh hiP hiE hio hic hfr hto hfC hdf hln hd2 hhf hel hf1 hlen lt hft hfto
  have hz := zero_run
  have hzs := zero_size
  obtain ⟨zp, hzp⟩ : ∃ zp, zeroPl = zp := ⟨_, rfl⟩
  rw [hzp] at hz hzs
  clear hzp
  have hn8 : ¬ (8 : Int) < (n : Int) := by have := HN.out; omega
  go_enter Try.func5, Try.ntmps5
  go_wp2_with fail
  refine CA.out.mono ?_
  rintro e w1 ⟨rfl, k1'⟩
  have CR := Lib.hid (right_any (cap := cap) (HS.out.kept k1') HM.out tn true ⟨fun _ => HR.out, fun _ => rfl⟩)
  have CO := Lib.hid (of_ok (cap := cap) (HS.out.kept k1') HM.out tn HR.out)
  have K1 := Lib.hid k1'
  clear CA k1'
  go_wp2_with fail
  refine CR.out.mono ?_
  rintro e w' ⟨rfl, rfl⟩
  go_wp2_with fail
  refine CO.out.mono ?_
  rintro e w2 ⟨a, rfl, PV, k2'⟩
  have K2 := Lib.hid (K1.out.trans k2')
  have hs := PV.size
  have h1 := PV.one
  obtain ⟨R2, k3'⟩ := laid_plan w2 zp a hzs hs
  have TN := Lib.hid (there_new w2 zp 29 130 hzs)
  rw [HC.out] at PV
  have PP := Lib.hid PV
  have R3 := Lib.hid R2
  have K3 := Lib.hid (K2.out.trans k3')
  clear CR CO K1 K2 k2' PV R2 k3'
  go_wp2_with (first | (refine store_plan w2.heap.size a TN.out hs h1 rfl rfl ?_) | (refine load_plan w2.heap.size a R3.out hs rfl ?_))
  generalize (w2.alloc (.cells zp 29)).setCells w2.heap.size 0 a.toList = w3 at *
  generalize w2.heap.size = pb at *
  clear TN hz hzs
  have C3 := Lib.hid (NEXT.out a PP.out t (Or.inl rfl))
  have C4 := Lib.hid (fun v => cycle_any PP.out v)
  have C6 := Lib.hid (NEXT.out a PP.out fr (Or.inr (Or.inl rfl)))
  have C7 := Lib.hid (KTH.out a PP.out)
  have C8 := Lib.hid (NEXT.out a PP.out hf (Or.inr (Or.inr rfl)))
  have CY := Lib.hid (ATY.out a PP.out)
  have CF := Lib.hid (ATF.out a PP.out)
  clear NEXT KTH ATY ATF
  go_wp2_with (first | (refine load_plan pb a R3.out hs rfl ?_) | (refine load_plan_g pb a R3.out hs rfl (by first | rfl | go_simp) ?_))
  refine (C3.out _).mono ?_
  rintro e w4 ⟨rfl, k4⟩
  have R4 := Lib.hid (rangeAt_kept R3.out k4)
  have K4 := Lib.hid (K3.out.trans k4)
  clear C3 R3 K3 k4
  go_wp2_with (first | (refine load_plan pb a R4.out hs rfl ?_) | (refine load_plan_g pb a R4.out hs rfl (by first | rfl | go_simp) ?_))
  refine (C4.out _).mono ?_
  rintro e w5 ⟨rfl, k5⟩
  have R5 := Lib.hid (rangeAt_kept R4.out k5)
  have K5 := Lib.hid (K4.out.trans k5)
  clear C4 R4 K4 k5
  go_wp2
  clear z1 z2 z3 z4 hn8 hw0 hw1
  try (rename (n : Int) ≤ 8 => q1; clear q1)
  try (rename 0 ≤ who ∧ who < tn => q2; clear q2)
  try (rename t ≤ fr => q3; clear q3)
  try (rename df < C => q4; clear q4)
  try (rename fr < to => q5; clear q5)
  try (rename ln ≤ 1000 => q6; clear q6)
  try (rename (ln : Int) ≤ 1000 => q6; clear q6)
  try (rename ((_ ∧ _) ∧ _) ∧ _ => q7; clear q7)
  go_loopw [14] (fun it w6 => ∃ y : Nat, f1 ≤ y ∧ y ≤ to + 1 ∧ it = .int .u64 y ∧ Hid (w6.rangeAt pb 0 a.toList) ∧ Hid (w.grownBy w6 none)) (fun it _ => to + 1 - (intOf it).toNat)
  case atStart => exact ⟨f1, Nat.le_refl _, by have := HF1.out; have := HFT.out; omega, rfl, R5, K5⟩
  case round =>
    obtain ⟨y, hy1, hy2, rfl, R6, K6⟩ := hrel
    clear R5 K5
    by_cases hyt : y ≤ to
    · have hy0 : fr < y := by have := HF1.out; omega
      have x7 : IntKind.u64.wrap ((y : Int) + 1) = ((y + 1 : Nat) : Int) := by have := HTO.out; rw [IntKind.wrap_u64]; omega
      by_cases hye : y = to
      · have C5 := Lib.hid (CY.out y hy0 hyt true (by rw [hye]; simp))
        subst hye
        go_wp2_with (first | (refine load_plan pb a R6.out hs rfl ?_) | (refine load_plan_g pb a R6.out hs rfl (by first | rfl | go_simp) ?_))
        refine (C5.out _).mono ?_
        rintro e w7 ⟨rfl, k7⟩
        have R7 := Lib.hid (rangeAt_kept R6.out k7)
        have K7 := Lib.hid (K6.out.trans k7)
        clear C5 R6 K6 k7
        go_wp2
        go_roundw
        case rel => exact ⟨y + 1, by omega, by omega, by go_num, R7, K7⟩
        case measure => simp [intOf] <;> omega
      · have C5 := Lib.hid (CY.out y hy0 hyt false (by simp [hye]))
        have hyi : ¬ (y : Int) = (to : Int) := by omega
        go_wp2_with (first | (refine load_plan pb a R6.out hs rfl ?_) | (refine load_plan_g pb a R6.out hs rfl (by first | rfl | go_simp) ?_))
        refine (C5.out _).mono ?_
        rintro e w7 ⟨rfl, k7⟩
        have R7 := Lib.hid (rangeAt_kept R6.out k7)
        have K7 := Lib.hid (K6.out.trans k7)
        clear C5 R6 K6 k7
        go_wp2
        go_roundw
        case rel => exact ⟨y + 1, by omega, by omega, by go_num, R7, K7⟩
        case measure => simp [intOf] <;> omega
    · have hyn : ¬ (y : Int) ≤ (to : Int) := by omega
      clear hyt
      go_wp2_with (first | (refine load_plan pb a R6.out hs rfl ?_))
      obtain ⟨ow, be, hbe, CFF⟩ := CF.out wr
      refine CFF.mono ?_
      rintro e w7 ⟨rfl, k7⟩
      have R7 := Lib.hid (rangeAt_kept R6.out k7)
      have K7 := Lib.hid (K6.out.trans k7)
      clear CFF CF R6 K6 k7
      have hpos : (be = true ∧ 0 < fr) ∨ fr = 0 := by
        rcases Nat.eq_zero_or_pos fr with h | h
        · exact Or.inr h
        · exact Or.inl ⟨hbe h, h⟩
      clear hbe
      rcases hpos with ⟨rfl, hp⟩ | hp
      · have hp' : (0 : Int) < (fr : Int) := by omega
        rcases hbr.out with hb | hb
        · have hb' : ¬ (t : Int) < (fr : Int) := by omega
          clear hb hp
          go_wp2_with (first | (refine load_plan pb a R7.out hs rfl ?_) | (refine load_plan_g pb a R7.out hs rfl (by first | rfl | go_simp) ?_))
          refine (C6.out _).mono ?_
          rintro e w8 ⟨rfl, k8⟩
          have R8 := Lib.hid (rangeAt_kept R7.out k8)
          have K8 := Lib.hid (K7.out.trans k8)
          clear C6 R7 K7 k8
          go_wp2_with (first | (refine load_plan pb a R8.out hs rfl ?_) | (refine load_plan_g pb a R8.out hs rfl (by first | rfl | go_simp) ?_))
          refine (C7.out _).mono ?_
          rintro e w9 ⟨rfl, k9⟩
          have R9 := Lib.hid (rangeAt_kept R8.out k9)
          have K9 := Lib.hid (K8.out.trans k9)
          clear C7 R8 K8 k9
          go_wp2
          go_ret
          exact ⟨rfl, K9.out⟩
        · have hb' : (t : Int) < (fr : Int) := by omega
          clear hb hp
          go_wp2_with (first | (refine load_plan pb a R7.out hs rfl ?_) | (refine load_plan_g pb a R7.out hs rfl (by first | rfl | go_simp) ?_))
          refine (C6.out _).mono ?_
          rintro e w8 ⟨rfl, k8⟩
          have R8 := Lib.hid (rangeAt_kept R7.out k8)
          have K8 := Lib.hid (K7.out.trans k8)
          clear C6 R7 K7 k8
          go_wp2_with (first | (refine load_plan pb a R8.out hs rfl ?_) | (refine load_plan_g pb a R8.out hs rfl (by first | rfl | go_simp) ?_))
          refine (C7.out _).mono ?_
          rintro e w9 ⟨rfl, k9⟩
          have R9 := Lib.hid (rangeAt_kept R8.out k9)
          have K9 := Lib.hid (K8.out.trans k9)
          clear C7 R8 K8 k9
          go_wp2_with (first | (refine load_plan pb a R9.out hs rfl ?_) | (refine load_plan_g pb a R9.out hs rfl (by first | rfl | go_simp) ?_))
          refine (C8.out _).mono ?_
          rintro e w10 ⟨rfl, k10⟩
          have R10 := Lib.hid (rangeAt_kept R9.out k10)
          have K10 := Lib.hid (K9.out.trans k10)
          clear C8 R9 K9 k10
          go_wp2
          go_ret
          exact ⟨rfl, K10.out⟩
      · have hp' : ¬ (0 : Int) < (fr : Int) := by omega
        have hb' : ¬ (t : Int) < (fr : Int) := by have := hbr.out; omega
        clear hp
        go_wp2_with (first | (refine load_plan pb a R7.out hs rfl ?_) | (refine load_plan_g pb a R7.out hs rfl (by first | rfl | go_simp) ?_))
        refine (C6.out _).mono ?_
        rintro e w8 ⟨rfl, k8⟩
        have R8 := Lib.hid (rangeAt_kept R7.out k8)
        have K8 := Lib.hid (K7.out.trans k8)
        clear C6 R7 K7 k8
        go_wp2_with (first | (refine load_plan pb a R8.out hs rfl ?_) | (refine load_plan_g pb a R8.out hs rfl (by first | rfl | go_simp) ?_))
        refine (C7.out _).mono ?_
        rintro e w9 ⟨rfl, k9⟩
        have R9 := Lib.hid (rangeAt_kept R8.out k9)
        have K9 := Lib.hid (K8.out.trans k9)
        clear C7 R8 K8 k9
        go_wp2
        go_ret
        exact ⟨rfl, K9.out⟩
end Go.Proofs.Ytacdmolkagcafaa
