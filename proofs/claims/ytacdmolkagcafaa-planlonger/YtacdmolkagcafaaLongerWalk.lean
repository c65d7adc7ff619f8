/-
  PlanLonger: with one more slot at the end of the cycle all ticks ahead of it are whose they were, in the first cycle.
-/
import Derived.Test.YtacdmolkagcafaaLonger9
namespace Go.Proofs.Ytacdmolkagcafaa
open Go.RowKit Go.Lib
set_option maxRecDepth 100000
set_option linter.unusedVariables false

set_option maxHeartbeats 8000000 in
set_option maxRecDepth 100000 in
theorem longer_walk (sa : Option Addr) (n cap sb off : Nat) (Z : Nat → Nat → Int) (tn oz nz : Int) (w : World)
    (hm : n ≤ maxLen) (hs0 : 0 < n → sa = some ⟨sb, off, none⟩ ∧ sb < w.heap.size) (hz0 : ∀ j, j < n → ∀ i, i < 2 → w.cell? ⟨sb, off + j * 2 + i, none⟩ = some (.int .i64 (Z j i))) :
    Calls Try.prog 8 #[.slice sa n cap, .int .i64 tn, .int .i64 oz, .int .i64 nz] w fun e w' => e = .returned (.bool true) ∧ w.grownBy w' none := by
  have HS := Lib.hid (SlAt.of hs0 hz0)
  have HM := Lib.hid hm
  clear hs0 hz0 hm
  have CA := Lib.hid (alive9 w)
  by_cases hn : 8 < n
  · skip
    go_enter Try.func8, Try.ntmps8
    go_wp2_with fail
    refine CA.out.mono ?_
    rintro e w1 ⟨rfl, k1⟩
    go_wp2
    go_ret
    exact ⟨rfl, k1⟩
  by_cases hR : RightP n Z tn
  case neg =>
    go_enter Try.func8, Try.ntmps8
    go_wp2_with fail
    refine CA.out.mono ?_
    rintro e w1 ⟨rfl, k1⟩
    have CR := Lib.hid (right_any (cap := cap) (HS.out.kept k1) HM.out tn false ⟨(fun e => by cases e), fun e => absurd e hR⟩)
    clear hR
    go_wp2_with fail
    refine CR.out.mono ?_
    rintro e w' ⟨rfl, rfl⟩
    go_wp2
    go_ret
    exact ⟨rfl, k1⟩
  have hn0 : 0 < n := by obtain ⟨j, hj, _⟩ := hR.2.2.2.2 0 (by have := hR.2.1; omega); omega
  obtain rfl := HS.out.at_ hn0
  obtain ⟨C, hC⟩ : ∃ C, sumN (fun i => (Z i 1).toNat) n = C := ⟨_, rfl⟩
  have hCl : C ≤ 8000 := by
    have := sumN_le (fun i => (Z i 1).toNat) 1000 n (fun i hi => by have := hR.2.2.2.1 i hi; omega)
    omega
  obtain ⟨tN, rfl⟩ : ∃ tN : Nat, tn = (tN : Int) := ⟨tn.toNat, by have := hR.2.1; omega⟩
  have htN : 0 < tN := by have := hR.2.1; omega
  have hL0 : ∀ i, i < n → 0 < (Z i 1).toNat := fun i hi => by have := hR.2.2.2.1 i hi; omega
  obtain ⟨o1, ho1⟩ : ∃ o1 : Nat, oz % ((2 ^ 8 : Nat) : Int) = (o1 : Int) := ⟨(oz % ((2 ^ 8 : Nat) : Int)).toNat, by omega⟩
  obtain ⟨n1, hn1⟩ : ∃ n1 : Nat, nz % ((2 ^ 4 : Nat) : Int) = (n1 : Int) := ⟨(nz % ((2 ^ 4 : Nat) : Int)).toNat, by omega⟩
  have m1 : bits .and .i64 oz 255 = (o1 : Int) := by rw [← ho1]; exact i64_mask 8 (by omega) oz
  have m2 : bits .and .i64 nz 15 = (n1 : Int) := by rw [← hn1]; exact i64_mask 4 (by omega) nz
  have l1 : n1 < 16 := by omega
  obtain ⟨ow, how⟩ : ∃ ow, o1 % tN = ow := ⟨_, rfl⟩
  have how2 : ow < tN := by rw [← how]; exact Nat.mod_lt _ htN
  obtain ⟨nn, hnn⟩ : ∃ nn, n1 + 1 = nn := ⟨_, rfl⟩
  have x1 : Int.tmod (o1 : Int) (tN : Int) = (ow : Int) := by rw [← how]; exact (Int.ofNat_tmod o1 tN).symm
  have x2 : IntKind.i64.wrap (1 + (n1 : Int)) = (nn : Int) := by rw [IntKind.wrap_i64]; omega
  have x3 : IntKind.u64.wrap (nn : Int) = (nn : Int) := by rw [IntKind.wrap_u64]; omega
  have hz0' : ((tN : Int) == 0) = false := by simp; omega
  have hRQ := more_right hR (by omega) (by omega : (0 : Int) ≤ (ow : Int)) (by omega : (ow : Int) < (tN : Int)) (by omega : (1 : Int) ≤ (nn : Int)) (by omega)
  have hCQ := more_sum Z n (ow : Int) nn
  rw [hC] at hCQ
  have BOTH : Hid (∀ (a q : Array Value), PlV a (fun i => Z i 0) (fun i => (Z i 1).toNat) n C → PlV q (fun i => moreZ Z n ow nn i 0) (fun i => (moreZ Z n ow nn i 1).toNat) (n + 1) (C + nn) → ∀ t, t ≤ C → ∃ (o : Int) (b : Bool),
      (∀ v : World, Calls Try.prog 13 #[.agg a, .int .u64 (t : Nat)] v fun e w' => e = .returned (.tuple #[.int .i64 o, .bool b]) ∧ v.grownBy w' none) ∧
      (∀ v : World, Calls Try.prog 13 #[.agg q, .int .u64 (t : Nat)] v fun e w' => e = .returned (.tuple #[.int .i64 o, .bool b]) ∧ v.grownBy w' none)) :=
    Lib.hid fun a q hp hq t ht => both_at hn0 hL0 hC hCl t ht hp hq
  have NEW : Hid (∀ (q : Array Value), PlV q (fun i => moreZ Z n ow nn i 0) (fun i => (moreZ Z n ow nn i 1).toNat) (n + 1) (C + nn) → ∀ x, x < nn → ∀ b : Bool, b = decide (x + 1 = nn) → ∀ z, z = C + x + 1 → ∀ v : World,
      Calls Try.prog 13 #[.agg q, .int .u64 (z : Nat)] v fun e w' => e = .returned (.tuple #[.int .i64 (ow : Int), .bool b]) ∧ v.grownBy w' none) :=
    Lib.hid fun q hq x hx b hb z hz v => new_at hC hCl x hx (by omega) b hb hq z hz v
  have HRQ := Lib.hid hRQ
  have HCQ := Lib.hid hCQ
  have HNN : Hid (nn ≤ 16 ∧ 0 < nn) := Lib.hid (by omega)
  have HCL := Lib.hid hCl
  have HR := Lib.hid hR
  have HC := Lib.hid hC
  have HN := Lib.hid hn
  obtain ⟨i0, hi0, hz0, hz1, hz2⟩ := slot_info
  have I0 := Lib.hid hi0
  have I1 := Lib.hid hz0
  have I2 := Lib.hid hz1
  have I3 := Lib.hid hz2
  clear hR hC hn ho1 hn1 how how2 hnn l1 hRQ hCQ hi0 hz0 hz1 hz2 hL0 hCl
  have hz := zero_run
  have hzs := zero_size
  obtain ⟨zp, hzp⟩ : ∃ zp, zeroPl = zp := ⟨_, rfl⟩
  rw [hzp] at hz hzs
  clear hzp
  have hn8 : ¬ (8 : Int) < (n : Int) := by have := HN.out; omega
  go_enter Try.func8, Try.ntmps8
  go_wp2_with fail
  refine CA.out.mono ?_
  rintro e w1 ⟨rfl, k1'⟩
  have CR := Lib.hid (right_any (cap := cap) (HS.out.kept k1') HM.out (tN : Int) true ⟨fun _ => HR.out, fun _ => rfl⟩)
  have CO := Lib.hid (of_ok (cap := cap) (HS.out.kept k1') HM.out (tN : Int) HR.out)
  have K1 := Lib.hid k1'
  clear CA k1'
  go_wp2_with fail
  refine CR.out.mono ?_
  rintro e w' ⟨rfl, rfl⟩
  go_wp2_with fail
  refine CO.out.mono ?_
  rintro e w2 ⟨a, rfl, PV, k2'⟩
  have K2 := Lib.hid (K1.out.trans k2')
  have hs := PV.size
  have h1 := PV.one
  obtain ⟨R2, k3'⟩ := laid_plan w2 zp a hzs hs
  have TN := Lib.hid (there_new w2 zp 29 130 hzs)
  rw [HC.out] at PV
  have PP := Lib.hid PV
  have R3 := Lib.hid R2
  have K3 := Lib.hid (K2.out.trans k3')
  clear CR CO K1 K2 k2' PV R2 k3'
  have HZS := Lib.hid hzs
  have hB : Hid (w.heap.size ≤ ((w2.alloc (.cells zp 29)).setCells w2.heap.size 0 a.toList).heap.size) := Lib.hid K3.out.size
  generalize hw3 : (w2.alloc (.cells zp 29)).setCells w2.heap.size 0 a.toList = w3 at R3 K3 hB
  have H0 := Lib.hid (World.ownsRow_made (base := w3.heap.size) (e := 26) (size := 2) w3 #[] 0 (Nat.le_refl _) (by decide) rfl)
  have k4 := World.grownBy_alloc w3 (.cells #[] 26) none
  have SRC := Lib.hid (cellsZ_src (HS.out.kept (K3.out.trans k4)))
  have R4 := Lib.hid (rangeAt_kept R3.out k4)
  have K4 := Lib.hid (K3.out.trans k4)
  have hpb : Hid (w2.heap.size < w3.heap.size) := Lib.hid (by have := World.block_lt_of_cell? w3 _ (R3.out 0 a[0] (by simp)); simpa using this)
  clear k4
  go_wp2_with (first
    | (refine store_plan w2.heap.size a TN.out hs h1 rfl rfl ?_
       rw [hw3])
    | (at_builtin
       refine wpList_append_own_at _ rfl _ _ 22 rfl w3.heap.size 26 i0 (.agg #[.int .i64 0, .int .i64 0]) 2 16 Try.underlying22 I0.out I1.out I2.out I3.out rfl (by decide) _ 0 [] rfl H0.out ⟨sb, off, none⟩ n cap (cellsZ Z n) rfl (cellsZ_len Z n) SRC.out (cellsZ_one Z n) (by have := HN.out; unfold maxLen; omega) (by have := HN.out; omega) (by simp) ?_
       intro v5 w5 own5 gr5 nil5 at5
       have own5' : Hid (w5.ownsRow w3.heap.size 26 2 v5 n (cellsZ Z n)) := Lib.hid (by simpa using own5)
       have gr5' : (w3.alloc (.cells #[] 26)).grownBy w5 (some w3.heap.size) := gr5
       clear own5 gr5 nil5 at5
       obtain ⟨r5, cp5, rfl, hb5, hl5⟩ := row_form own5'.out hn0
       have K5 := Lib.hid (Only.on K4.out (Only.of_some gr5' (Nat.le_refl _) (Nat.lt_succ_self _)) hB.out)
       have R5 : Hid (w5.rangeAt w2.heap.size 0 a.toList) := Lib.hid fun j v hv => gr5'.cell (R4.out j v hv) (by have := hpb.out; intro e; injection e with e; simp at e; omega)
       have k6 := World.grownBy_alloc w5 (.cells #[.int .i64 (ow : Int), .int .i64 (nn : Int)] 26) none
       have own6 := Lib.hid (World.ownsRow.alloc own5'.out (.cells #[.int .i64 (ow : Int), .int .i64 (nn : Int)] 26))
       have R6 := Lib.hid (rangeAt_kept R5.out k6)
       have K6 := Lib.hid (K5.out.trans k6)
       have src6 : Hid (∀ j u, [Value.int .i64 (ow : Int), .int .i64 (nn : Int)][j]? = some u → (w5.alloc (.cells #[.int .i64 (ow : Int), .int .i64 (nn : Int)] 26)).cell? ((⟨w5.heap.size, 0, none⟩ : Addr).add j) = some u) := Lib.hid fun j u hu => by
         rw [Addr.add_mid, Nat.zero_add]
         exact PlV.cell w5 26 (by simpa using hu)
       have B5 : Hid (w3.heap.size ≤ r5) := Lib.hid hb5
       have S5 : Hid (w3.heap.size ≤ (w5.alloc (.cells #[.int .i64 (ow : Int), .int .i64 (nn : Int)] 26)).heap.size) := Lib.hid (Nat.le_trans (Nat.le_trans hb5 (Nat.le_of_lt hl5)) k6.size)
       clear k6 gr5' R4 K4 R5 K5 own5' hb5 hl5 H0 SRC)
    | (at_builtin
       refine wpList_append_own_at _ rfl _ _ 22 rfl w3.heap.size 26 i0 (.agg #[.int .i64 0, .int .i64 0]) 2 16 Try.underlying22 I0.out I1.out I2.out I3.out rfl (by decide) _ n (cellsZ Z n) rfl own6.out ⟨w5.heap.size, 0, none⟩ 1 1 [.int .i64 (ow : Int), .int .i64 (nn : Int)] rfl rfl src6.out (fun u hu => by simp at hu; rcases hu with rfl | rfl <;> rfl) (by have := HN.out; unfold maxLen; omega) (by have := HN.out; omega) S5.out ?_
       intro v7 w7 own7 gr7 nil7 at7
       have own7' : Hid (w7.ownsRow w3.heap.size 26 2 v7 (n + 1) (cellsZ Z n ++ [.int .i64 (ow : Int), .int .i64 (nn : Int)])) := Lib.hid own7
       have gr7' : (w5.alloc (.cells #[.int .i64 (ow : Int), .int .i64 (nn : Int)] 26)).grownBy w7 (some r5) := gr7
       clear own7 gr7 nil7 at7
       obtain ⟨r7, cp7, rfl, hb7, hl7⟩ := row_form own7'.out (Nat.succ_pos n)
       have K7 := Lib.hid (Only.on K6.out (Only.of_some gr7' (Nat.le_refl _) (Nat.lt_succ_self _)) (Nat.le_trans hB.out B5.out))
       have R7 : Hid (w7.rangeAt w2.heap.size 0 a.toList) := Lib.hid fun j v hv => gr7'.cell (R6.out j v hv) (by have := hpb.out; have := B5.out; intro e; injection e with e; simp at e; omega)
       have SL := Lib.hid (row_slots own7'.out)
       clear gr7' own7' own6 src6 R6 K6 hb7 hl7))
  have CO2 := Lib.hid (of_ok (cap := cp7) SL.out (by have := HN.out; unfold maxLen; omega) (tN : Int) HRQ.out)
  refine CO2.out.mono ?_
  rintro e w8 ⟨aq, rfl, PQ, k8⟩
  rw [HCQ.out] at PQ
  have K8 := Lib.hid (K7.out.trans k8)
  have R8 := Lib.hid (rangeAt_kept R7.out k8)
  have hsq := PQ.size
  have hq1 := PQ.one
  obtain ⟨RQ, k9⟩ := laid_plan w8 zp aq hzs hsq
  have TQ := Lib.hid (there_new w8 zp 29 130 hzs)
  have R9 : Hid (_ ∧ _) := Lib.hid ⟨rangeAt_kept R8.out k9, RQ⟩
  have K9 := Lib.hid (K8.out.trans k9)
  have PPQ := Lib.hid PQ
  have CZ := Lib.hid (fun v => cycle_any PP.out v)
  have CZQ := Lib.hid (fun v => cycle_any PPQ.out v)
  clear k8 K7 R7 RQ k9 PQ CO2 SL R8 K8 hpb hB B5 S5
  generalize hqb : w8.heap.size = qb at *
  generalize hpbq : w2.heap.size = pb at *
  generalize hw9 : (w8.alloc (.cells zp 29)).setCells qb 0 aq.toList = w9 at R9 K9
  go_wp2_with (first | (refine store_plan qb aq TQ.out hsq hq1 rfl rfl ?_; rw [hw9]) | (refine load_plan pb a R9.out.1 hs rfl ?_) | (refine load_plan qb aq R9.out.2 hsq rfl ?_) | (refine load_plan_g pb a R9.out.1 hs rfl (by first | rfl | go_simp) ?_) | (refine load_plan_g qb aq R9.out.2 hsq rfl (by first | rfl | go_simp) ?_))
  clear TQ hz hzs hw9 hqb hpbq
  refine (CZ.out _).mono ?_
  rintro e w10 ⟨rfl, k10⟩
  have R10 := Lib.hid (two_kept R9.out k10)
  have K10 := Lib.hid (K9.out.trans k10)
  clear R9 K9 k10
  by_cases hC2 : (200 : Int) < (C : Int)
  · go_wp2
    go_ret
    exact ⟨rfl, K10.out⟩
  have HC2 : Hid (C < 201) := Lib.hid (by omega)
  obtain ⟨c1, hc1⟩ : ∃ c1, C + 1 = c1 := ⟨_, rfl⟩
  have x4 : IntKind.u64.wrap ((C : Int) + 1) = (c1 : Int) := by rw [IntKind.wrap_u64]; omega
  have HC1 := Lib.hid hc1
  clear hc1
  go_wp2_with (first | (refine load_plan pb a R10.out.1 hs rfl ?_) | (refine load_plan qb aq R10.out.2 hsq rfl ?_) | (refine load_plan_g pb a R10.out.1 hs rfl (by first | rfl | go_simp) ?_) | (refine load_plan_g qb aq R10.out.2 hsq rfl (by first | rfl | go_simp) ?_))
  refine (CZ.out _).mono ?_
  rintro e w11 ⟨rfl, k11⟩
  have R11 := Lib.hid (two_kept R10.out k11)
  have K11 := Lib.hid (K10.out.trans k11)
  clear R10 K10 k11
  go_wp2
  clear hn8 hC2
  try (rename (n : Int) ≤ 8 => q1; clear q1)
  try (rename (C : Int) ≤ 200 => q1; clear q1)
  try (rename C ≤ 200 => q1; clear q1)
  go_loopw [70] (fun it w12 => ∃ y : Nat, y ≤ c1 ∧ it = .int .u64 y ∧ Hid (w12.rangeAt pb 0 a.toList ∧ w12.rangeAt qb 0 aq.toList) ∧ Hid (w.grownBy w12 none)) (fun it _ => c1 - (intOf it).toNat)
  case atStart => exact ⟨0, Nat.zero_le _, rfl, R11, K11⟩
  case round =>
    obtain ⟨y, hy, rfl, R12, K12⟩ := hrel
    clear R11 K11
    by_cases hyc : y < c1
    · obtain ⟨o, b, A1, A2⟩ := BOTH.out a aq PP.out PPQ.out y (by have := HC1.out; omega)
      have C1 := Lib.hid A1
      have C2 := Lib.hid A2
      have hy300 : (y : Int) < 300 := by have := HC1.out; have := HC2.out; omega
      have xy : IntKind.u64.wrap ((y : Int) + 1) = ((y + 1 : Nat) : Int) := by rw [IntKind.wrap_u64]; omega
      clear A1 A2
      go_wp2_with (first | (refine load_plan pb a R12.out.1 hs rfl ?_) | (refine load_plan qb aq R12.out.2 hsq rfl ?_) | (refine load_plan_g pb a R12.out.1 hs rfl (by first | rfl | go_simp) ?_) | (refine load_plan_g qb aq R12.out.2 hsq rfl (by first | rfl | go_simp) ?_))
      refine (C1.out _).mono ?_
      rintro e w13 ⟨rfl, k13⟩
      have R13 := Lib.hid (two_kept R12.out k13)
      have K13 := Lib.hid (K12.out.trans k13)
      clear R12 K12 k13
      go_wp2_with (first | (refine load_plan pb a R13.out.1 hs rfl ?_) | (refine load_plan qb aq R13.out.2 hsq rfl ?_) | (refine load_plan_g pb a R13.out.1 hs rfl (by first | rfl | go_simp) ?_) | (refine load_plan_g qb aq R13.out.2 hsq rfl (by first | rfl | go_simp) ?_))
      refine (C2.out _).mono ?_
      rintro e w14 ⟨rfl, k14⟩
      have R14 := Lib.hid (two_kept R13.out k14)
      have K14 := Lib.hid (K13.out.trans k14)
      clear R13 K13 k14
      go_wp2
      go_roundw
      case rel => exact ⟨y + 1, by omega, by go_num, R14, K14⟩
      case measure => simp [intOf]; omega
    · obtain rfl : y = c1 := by omega
      clear hyc BOTH
      go_wp2
      go_loopw [96] (fun it w13 => ∃ x : Nat, x ≤ nn ∧ it = .int .u64 x ∧ Hid (w13.rangeAt pb 0 a.toList ∧ w13.rangeAt qb 0 aq.toList) ∧ Hid (w.grownBy w13 none)) (fun it _ => nn - (intOf it).toNat)
      case atStart => exact ⟨0, Nat.zero_le _, rfl, R12, K12⟩
      case round =>
        obtain ⟨x, hx, rfl, R13, K13⟩ := hrel
        clear R12 K12
        by_cases hxn : x < nn
        · obtain ⟨b, hb⟩ : ∃ b, b = decide (x + 1 = nn) := ⟨_, rfl⟩
          obtain ⟨z0, hz0⟩ : ∃ z0, C + x = z0 := ⟨_, rfl⟩
          obtain ⟨z1, hz1⟩ : ∃ z1, z0 + 1 = z1 := ⟨_, rfl⟩
          obtain ⟨n0, hn0'⟩ : ∃ n0, nn - 1 = n0 := ⟨_, rfl⟩
          have CQ := Lib.hid (NEW.out aq PPQ.out x hxn b hb z1 (by omega))
          have hlt : x < 16 := by have := HNN.out; omega
          have y0 : IntKind.u64.wrap ((C : Int) + (x : Int)) = (z0 : Int) := by have := HC2.out; rw [IntKind.wrap_u64]; omega
          have y1 : IntKind.u64.wrap ((z0 : Int) + 1) = (z1 : Int) := by have := HC2.out; rw [IntKind.wrap_u64]; omega
          have y2 : IntKind.u64.wrap ((nn : Int) - 1) = (n0 : Int) := by have := HNN.out; rw [IntKind.wrap_u64]; omega
          have y3 : IntKind.u64.wrap ((x : Int) + 1) = ((x + 1 : Nat) : Int) := by rw [IntKind.wrap_u64]; omega
          have HBB : Hid ((b = true ∧ x = n0) ∨ (b = false ∧ ¬ (x : Int) = (n0 : Int))) := Lib.hid (by
            by_cases e : x + 1 = nn
            · left; exact ⟨by rw [hb]; simp [e], by omega⟩
            · right; exact ⟨by rw [hb]; simp [e], by have := HNN.out; omega⟩)
          clear hz0 hz1 hn0' hb hlt
          go_wp2
          have R14 := Lib.hid (two_kept R13.out (drew_grown wr))
          have K14 := Lib.hid (K13.out.trans (drew_grown wr))
          have hrd := R14.out
          refine wp_region_held_drew (S := fun w' => w'.rangeAt pb 0 a.toList ∧ w'.rangeAt qb 0 aq.toList) (by kernel_rfl) hrd (fun hHeld => ?_)
          clear R13 K13
          generalize wr.drew = w14 at *
          refine wpAnyH_take (i := 0) (oi := ⟨_, _, _, _, _, _⟩) (v := _) rfl (by kernel_rfl) (by kernel_rfl) (by kernel_rfl) (fun _ _ _ h => h) (yieldsIf_load_mid (by rfl) _ _ rfl _ _ rfl _ _ (fun w hw => hw.2) Try.underlying29 rfl (by rw [plan_info]; simp [hsq])) (by assumption) ?_
          simp only [Act.put, List.setIfInBounds_toArray, List.set_cons_zero, List.set_cons_succ]
          refine wpAnyH_take (i := 1) (oi := ⟨_, _, _, _, _, _⟩) (v := _) rfl (by kernel_rfl) (by kernel_rfl) (by kernel_rfl) (fun _ _ _ h => h) (yieldsIf_load_mid (by rfl) _ _ rfl _ _ rfl _ _ (fun w hw => hw.1) Try.underlying29 rfl (by rw [plan_info]; simp [hs])) (by assumption) ?_
          simp only [Act.put, List.setIfInBounds_toArray, List.set_cons_zero, List.set_cons_succ]
          refine wpAnyH_take (i := 3) (oi := ⟨_, _, _, _, _, _⟩) (v := ?_) rfl (by kernel_rfl) (by kernel_rfl) (by kernel_rfl) (fun _ _ _ h => h) (Or.inl ⟨by rfl, ?_⟩) (by assumption) ?_
          rotate_left
          · intro wz hSw
            go_simp
            try with_reducible rfl
          simp only [Act.put, List.setIfInBounds_toArray, List.set_cons_zero, List.set_cons_succ]
          refine wpAnyH_ready (rs := [2]) (by kernel_rfl) (by simp) ?_
          refine AllReadyH.cons (o := ⟨_, _, _, _, _, _⟩) rfl (fun K hK => ?_) AllReadyH.nil
          go_simp
          refine (CZ.out _).mono ?_
          rintro e w15 ⟨rfl, k15⟩
          refine hK.out _ _ (two_kept R14.out k15) (fun hHeld15 => ?_)
          have R15 := Lib.hid (two_kept R14.out k15)
          have K15 := Lib.hid (K14.out.trans k15)
          clear hK K R14 K14 k15
          try simp only [Act.put, List.setIfInBounds_toArray, List.set_cons_zero, List.set_cons_succ]
          refine wpAnyH_take (i := 4) (oi := ⟨_, _, _, _, _, _⟩) (v := ?_) rfl (by kernel_rfl) (by kernel_rfl) (by kernel_rfl) (fun _ _ _ h => h) (Or.inl ⟨by rfl, ?_⟩) (by assumption) ?_
          rotate_left
          · intro wz hSw
            go_simp
            try with_reducible rfl
          simp only [Act.put, List.setIfInBounds_toArray, List.set_cons_zero, List.set_cons_succ]
          refine wpAnyH_take (i := 5) (oi := ⟨_, _, _, _, _, _⟩) (v := ?_) rfl (by kernel_rfl) (by kernel_rfl) (by kernel_rfl) (fun _ _ _ h => h) (Or.inl ⟨by rfl, ?_⟩) (by assumption) ?_
          rotate_left
          · intro wz hSw
            go_simp
            try with_reducible rfl
          simp only [Act.put, List.setIfInBounds_toArray, List.set_cons_zero, List.set_cons_succ]
          refine wpAnyH_ready (rs := [6]) (by kernel_rfl) (by simp) ?_
          refine AllReadyH.cons (o := ⟨_, _, _, _, _, _⟩) rfl (fun K hK => ?_) AllReadyH.nil
          go_simp
          refine (CQ.out _).mono ?_
          rintro e w16 ⟨rfl, k16⟩
          refine hK.out _ _ (two_kept R15.out k16) (fun hHeld16 => ?_)
          have R16 := Lib.hid (two_kept R15.out k16)
          have K16 := Lib.hid (K15.out.trans k16)
          clear hK K R15 K15 k16
          try simp only [Act.put, List.setIfInBounds_toArray, List.set_cons_zero, List.set_cons_succ]
          refine wpAnyH_take (i := 7) (oi := ⟨_, _, _, _, _, _⟩) (v := ?_) rfl (by kernel_rfl) (by kernel_rfl) (by kernel_rfl) (fun _ _ _ h => h) (Or.inl ⟨by rfl, ?_⟩) (by assumption) ?_
          rotate_left
          · intro wz hSw
            go_simp
            try with_reducible rfl
          simp only [Act.put, List.setIfInBounds_toArray, List.set_cons_zero, List.set_cons_succ]
          refine wpAnyH_take (i := 8) (oi := ⟨_, _, _, _, _, _⟩) (v := ?_) rfl (by kernel_rfl) (by kernel_rfl) (by kernel_rfl) (fun _ _ _ h => h) (Or.inl ⟨by rfl, ?_⟩) (by assumption) ?_
          rotate_left
          · intro wz hSw
            go_simp
            try with_reducible rfl
          simp only [Act.put, List.setIfInBounds_toArray, List.set_cons_zero, List.set_cons_succ]
          refine wpAnyH_take (i := 9) (oi := ⟨_, _, _, _, _, _⟩) (v := ?_) rfl (by kernel_rfl) (by kernel_rfl) (by kernel_rfl) (fun _ _ _ h => h) (Or.inl ⟨by rfl, ?_⟩) (by assumption) ?_
          rotate_left
          · intro wz hSw
            go_simp
            try with_reducible rfl
          simp only [Act.put, List.setIfInBounds_toArray, List.set_cons_zero, List.set_cons_succ]
          refine wpAnyH_take (i := 10) (oi := ⟨_, _, _, _, _, _⟩) (v := ?_) rfl (by kernel_rfl) (by kernel_rfl) (by kernel_rfl) (fun _ _ _ h => h) (Or.inl ⟨by rfl, ?_⟩) (by assumption) ?_
          rotate_left
          · intro wz hSw
            go_simp
            try with_reducible rfl
          simp only [Act.put, List.setIfInBounds_toArray, List.set_cons_zero, List.set_cons_succ]
          refine wpAnyH_take (i := 11) (oi := ⟨_, _, _, _, _, _⟩) (v := ?_) rfl (by kernel_rfl) (by kernel_rfl) (by kernel_rfl) (fun _ _ _ h => h) (Or.inl ⟨by rfl, ?_⟩) (by assumption) ?_
          rotate_left
          · intro wz hSw
            go_simp
            try with_reducible rfl
          simp only [Act.put, List.setIfInBounds_toArray, List.set_cons_zero, List.set_cons_succ]
          refine wpAnyH_done (by kernel_rfl) ?_ _
          clear hHeld hHeld15 hHeld16 CQ
          rcases HBB.out with ⟨rfl, rfl⟩ | ⟨rfl, hne⟩
          · go_wp2
            go_roundw
            case rel => exact ⟨x + 1, by omega, by go_num, R16, K16⟩
            case measure => simp [intOf]; omega
          · go_wp2
            go_roundw
            case rel => exact ⟨x + 1, by omega, by go_num, R16, K16⟩
            case measure => simp [intOf]; omega
        · obtain rfl : x = nn := by omega
          have yc : IntKind.u64.wrap ((C : Int) + (x : Int)) = ((C + x : Nat) : Int) := by have := HC2.out; have := HNN.out; rw [IntKind.wrap_u64]; omega
          clear hxn
          go_wp2
          have R14 := Lib.hid (two_kept R13.out (drew_grown wr))
          have K14 := Lib.hid (K13.out.trans (drew_grown wr))
          have hrd := R14.out
          refine wp_region_held_drew (S := fun w' => w'.rangeAt pb 0 a.toList ∧ w'.rangeAt qb 0 aq.toList) (by kernel_rfl) hrd (fun hHeld => ?_)
          clear R13 K13
          generalize wr.drew = w14 at *
          refine wpAnyH_take (i := 0) (oi := ⟨_, _, _, _, _, _⟩) (v := _) rfl (by kernel_rfl) (by kernel_rfl) (by kernel_rfl) (fun _ _ _ h => h) (yieldsIf_load_mid (by rfl) _ _ rfl _ _ rfl _ _ (fun w hw => hw.2) Try.underlying29 rfl (by rw [plan_info]; simp [hsq])) (by assumption) ?_
          simp only [Act.put, List.setIfInBounds_toArray, List.set_cons_zero, List.set_cons_succ]
          refine wpAnyH_take (i := 2) (oi := ⟨_, _, _, _, _, _⟩) (v := _) rfl (by kernel_rfl) (by kernel_rfl) (by kernel_rfl) (fun _ _ _ h => h) (yieldsIf_load_mid (by rfl) _ _ rfl _ _ rfl _ _ (fun w hw => hw.1) Try.underlying29 rfl (by rw [plan_info]; simp [hs])) (by assumption) ?_
          simp only [Act.put, List.setIfInBounds_toArray, List.set_cons_zero, List.set_cons_succ]
          refine wpAnyH_take (i := 4) (oi := ⟨_, _, _, _, _, _⟩) (v := ?_) rfl (by kernel_rfl) (by kernel_rfl) (by kernel_rfl) (fun _ _ _ h => h) (Or.inl ⟨by rfl, ?_⟩) (by assumption) ?_
          rotate_left
          · intro wz hSw
            go_simp
            try with_reducible rfl
          simp only [Act.put, List.setIfInBounds_toArray, List.set_cons_zero, List.set_cons_succ]
          refine wpAnyH_take (i := 5) (oi := ⟨_, _, _, _, _, _⟩) (v := ?_) rfl (by kernel_rfl) (by kernel_rfl) (by kernel_rfl) (fun _ _ _ h => h) (Or.inl ⟨by rfl, ?_⟩) (by assumption) ?_
          rotate_left
          · intro wz hSw
            go_simp
            try with_reducible rfl
          simp only [Act.put, List.setIfInBounds_toArray, List.set_cons_zero, List.set_cons_succ]
          refine wpAnyH_ready (rs := [1]) (by kernel_rfl) (by simp) ?_
          refine AllReadyH.cons (o := ⟨_, _, _, _, _, _⟩) rfl (fun K hK => ?_) AllReadyH.nil
          go_simp
          refine (CZQ.out _).mono ?_
          rintro e w15 ⟨rfl, k15⟩
          refine hK.out _ _ (two_kept R14.out k15) (fun hHeld15 => ?_)
          have R15 := Lib.hid (two_kept R14.out k15)
          have K15 := Lib.hid (K14.out.trans k15)
          clear hK K R14 K14 k15
          try simp only [Act.put, List.setIfInBounds_toArray, List.set_cons_zero, List.set_cons_succ]
          refine wpAnyH_ready (rs := [3]) (by kernel_rfl) (by simp) ?_
          refine AllReadyH.cons (o := ⟨_, _, _, _, _, _⟩) rfl (fun K hK => ?_) AllReadyH.nil
          go_simp
          refine (CZ.out _).mono ?_
          rintro e w16 ⟨rfl, k16⟩
          refine hK.out _ _ (two_kept R15.out k16) (fun hHeld16 => ?_)
          have R16 := Lib.hid (two_kept R15.out k16)
          have K16 := Lib.hid (K15.out.trans k16)
          clear hK K R15 K15 k16
          try simp only [Act.put, List.setIfInBounds_toArray, List.set_cons_zero, List.set_cons_succ]
          refine wpAnyH_take (i := 6) (oi := ⟨_, _, _, _, _, _⟩) (v := ?_) rfl (by kernel_rfl) (by kernel_rfl) (by kernel_rfl) (fun _ _ _ h => h) (Or.inl ⟨by rfl, ?_⟩) (by assumption) ?_
          rotate_left
          · intro wz hSw
            go_simp
            try with_reducible rfl
          simp only [Act.put, List.setIfInBounds_toArray, List.set_cons_zero, List.set_cons_succ]
          refine wpAnyH_take (i := 7) (oi := ⟨_, _, _, _, _, _⟩) (v := ?_) rfl (by kernel_rfl) (by kernel_rfl) (by kernel_rfl) (fun _ _ _ h => h) (Or.inl ⟨by rfl, ?_⟩) (by assumption) ?_
          rotate_left
          · intro wz hSw
            go_simp
            try with_reducible rfl
          simp only [Act.put, List.setIfInBounds_toArray, List.set_cons_zero, List.set_cons_succ]
          refine wpAnyH_take (i := 8) (oi := ⟨_, _, _, _, _, _⟩) (v := ?_) rfl (by kernel_rfl) (by kernel_rfl) (by kernel_rfl) (fun _ _ _ h => h) (Or.inl ⟨by rfl, ?_⟩) (by assumption) ?_
          rotate_left
          · intro wz hSw
            go_simp
            try with_reducible rfl
          simp only [Act.put, List.setIfInBounds_toArray, List.set_cons_zero, List.set_cons_succ]
          refine wpAnyH_done (by kernel_rfl) ?_ _
          clear hHeld hHeld15 hHeld16
          go_wp2
          go_ret
          exact ⟨by simp, K16.out⟩
end Go.Proofs.Ytacdmolkagcafaa
