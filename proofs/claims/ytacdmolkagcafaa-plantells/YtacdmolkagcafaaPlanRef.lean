/-
  The document's answers for layer 9: From, At, End.
-/
import Derived.Test.YtacdmolkagcafaaRefSum
import Derived.Test.YtacdmolkagcafaaSlotsAt
import Derived.Deep.RegionHeld3
import Derived.Deep.DeepCutAuto
import Derived.Deep.CutBlock
namespace Go.Proofs.Ytacdmolkagcafaa
open Go.RowKit Go.Lib
set_option maxRecDepth 100000
set_option linter.unusedVariables false

abbrev lenZ (Z : Nat → Nat → Int) : Nat → Nat := fun i => (Z i 1).toNat

set_option maxHeartbeats 1000000 in
theorem from_any {w : World} {sb off n cap : Nat} {Z : Nat → Nat → Int} {tn : Int} (h : SlAt w (some ⟨sb, off, none⟩) sb off n Z) (hn : n ≤ 64) (ok : okS Z tn n) (k : Nat) (hk : k ≤ n) :
    Calls Try.prog 15 #[.slice (some ⟨sb, off, none⟩) n cap, .int .i64 (k : Int)] w fun e w' => e = .returned (.int .u64 (sumN (lenZ Z) k : Nat)) ∧ w = w' := by
  have HS := Lib.hid h
  have OK := Lib.hid ok
  clear h ok
  go_enter Try.func15, Try.ntmps15
  go_wp2
  go_loop [5, 6] (fun s it => ∃ j : Nat, j ≤ k ∧ it = .int .i64 j ∧ s = .int .u64 (sumN (lenZ Z) j : Nat)) (fun s it => k - (intOf it).toNat)
  case atStart => exact ⟨0, Nat.zero_le _, rfl, rfl⟩
  case round =>
    obtain ⟨j, hj, rfl, rfl⟩ := hrel
    by_cases hjk : j < k
    · have hjn : j < n := by omega
      have d1 := HS.out.len j hjn
      obtain ⟨g0, g1, g2, g3⟩ := OK.out j hjn
      obtain ⟨l, hl⟩ : ∃ l : Nat, Z j 1 = (l : Int) := ⟨(Z j 1).toNat, by omega⟩
      have hsl : sumN (lenZ Z) j ≤ j * 1000 := sumN_le _ 1000 j (fun i hi => by have := OK.out i (by omega); show (Z i 1).toNat ≤ 1000; omega)
      have hss : Hid (sumN (lenZ Z) (j + 1) = sumN (lenZ Z) j + (Z j 1).toNat) := Lib.hid rfl
      have a1 : IntKind.u64.wrap (l : Int) = (l : Int) := by rw [IntKind.wrap_u64]; omega
      have a2 : IntKind.u64.wrap ((sumN (lenZ Z) j : Int) + (l : Int)) = ((sumN (lenZ Z) (j + 1) : Nat) : Int) := by rw [hss.out, IntKind.wrap_u64]; omega
      rw [hl] at d1
      have ki1 : (j : Int) < (n : Int) := by omega
      clear g0 g1 g2 g3 hl hsl
      go_wp2
      go_round
      case rel => exact ⟨j + 1, by omega, by go_num, rfl⟩
      case measure => simp [intOf]; omega
    · obtain rfl : j = k := by omega
      clear hjk
      go_wp2
      go_ret
      exact ⟨rfl, rfl⟩

set_option maxHeartbeats 1000000 in
theorem rat_zero (sa : Option Addr) (n cap : Nat) (w : World) :
    Calls Try.prog 14 #[.slice sa n cap, .int .u64 0] w fun e w' => e = .returned (.tuple #[.int .i64 0, .bool false]) ∧ w.grownBy w' none := by
  go_enter Try.func14, Try.ntmps14
  go_wp2
  go_ret2
  exact ⟨rfl, World.grownBy.refl _ _⟩

set_option maxHeartbeats 2000000 in
theorem rat_slot {w : World} {sb off n cap : Nat} {Z : Nat → Nat → Int} {tn : Int} (h : SlAt w (some ⟨sb, off, none⟩) sb off n Z) (hn : n ≤ 64) (ok : okS Z tn n) (t j x C : Nat) (hC : sumN (lenZ Z) n = C) (ht : t + 1 < 18446744073709551616) (hx : x = t % C) (hj : j < n) (h1 : sumN (lenZ Z) j ≤ x) (h2 : x < sumN (lenZ Z) (j + 1)) :
    Calls Try.prog 14 #[.slice (some ⟨sb, off, none⟩) n cap, .int .u64 ((t + 1 : Nat) : Int)] w fun e w' => e = .returned (.tuple #[.int .i64 (Z j 0), .bool (decide (x + 1 = sumN (lenZ Z) (j + 1)))]) ∧ w.grownBy w' none := by
  have hC0 : 0 < C := by have := sumN_mono (lenZ Z) (show j + 1 ≤ n by omega); omega
  have CF := Lib.hid (fun (v : World) (hv : SlAt v (some ⟨sb, off, none⟩) sb off n Z) (k : Nat) (hk : k ≤ n) => from_any (cap := cap) hv hn ok k hk)
  have hlow : ∀ k, k ≤ n → sumN (lenZ Z) k ≤ 64000 := fun k hk => by
    have := sumN_le (lenZ Z) 1000 k (fun i hi => by have := ok i (by omega); show (Z i 1).toNat ≤ 1000; omega)
    omega
  have HS := Lib.hid h
  have d0 := h.own j hj
  have HLOW := Lib.hid hlow
  have HX := Lib.hid hx
  have hz : ((C : Int) == 0) = false := by simp; omega
  have ht0 : (((t + 1 : Nat) : Int) == 0) = false := by simp; omega
  have e1 : IntKind.u64.wrap (((t + 1 : Nat) : Int) - 1) = (t : Int) := by rw [IntKind.wrap_u64]; omega
  have HOK := Lib.hid ok
  have C1 := CF.out w h n (Nat.le_refl _)
  rw [hC] at C1
  have HC1 := Lib.hid C1
  have e2 : (t : Int) % (C : Int) = (x : Int) := by rw [hx]; omega
  clear h hx hlow C1 ok hC
  go_enter Try.func14, Try.ntmps14
  go_wp2_with fail
  refine HC1.out.mono ?_
  rintro e w' ⟨rfl, rfl⟩
  clear HC1
  go_wp2
  rw [e2]
  clear e1 e2 hz ht0
  go_loop [7] (fun it => ∃ k : Nat, k ≤ j ∧ it = .int .i64 k) (fun it => n - (intOf it).toNat)
  case atStart => exact ⟨0, Nat.zero_le _, rfl⟩
  case round =>
    obtain ⟨k, hk, rfl⟩ := hrel
    have C2 := Lib.hid (CF.out w HS.out (k + 1) (by omega))
    obtain ⟨k1, hk1⟩ : ∃ k1 : Int, ((k + 1 : Nat) : Int) = k1 := ⟨_, rfl⟩
    rw [hk1] at C2
    have x1 : IntKind.i64.wrap ((k : Int) + 1) = k1 := by rw [IntKind.wrap_i64]; omega
    have HK1 := Lib.hid hk1
    by_cases hkj : k < j
    · have hle : ((sumN (lenZ Z) (k + 1) : Nat) : Int) ≤ (x : Int) := by have := sumN_mono (lenZ Z) (show k + 1 ≤ j by omega); omega
      have HKN : Hid (k + 1 ≤ j ∧ j < n) := Lib.hid ⟨hkj, hj⟩
      generalize sumN (lenZ Z) (k + 1) = s1 at *
      clear hk1
      go_wp2_with fail
      refine C2.out.mono ?_
      rintro e w' ⟨rfl, rfl⟩
      go_wp2
      go_round
      case rel => exact ⟨k + 1, HKN.out.1, by rw [HK1.out]⟩
      case measure => have := HKN.out; rw [← HK1.out]; simp [intOf]; omega
    · obtain rfl : k = j := by omega
      have hle : ¬ ((sumN (lenZ Z) (k + 1) : Nat) : Int) ≤ (x : Int) := by omega
      have hsm := HLOW.out (k + 1) (by omega)
      have HD : Hid (decide (x + 1 = sumN (lenZ Z) (k + 1)) = ((sumN (lenZ Z) (k + 1) : Int) == (x : Int) + 1)) := Lib.hid (by rw [Bool.eq_iff_iff]; simp; omega)
      have x2 : IntKind.u64.wrap ((x : Int) + 1) = (x : Int) + 1 := by rw [IntKind.wrap_u64]; omega
      have ki0 : (0 : Int) ≤ (k : Int) := by omega
      have ki1 : (k : Int) < (n : Int) := by omega
      generalize hs1 : sumN (lenZ Z) (k + 1) = s1 at *
      have HS1 := Lib.hid hs1
      clear hk1 hs1 hkj h1 h2
      go_wp2_with fail
      refine C2.out.mono ?_
      rintro e w' ⟨rfl, rfl⟩
      have CQ : Hid (∀ m : Nat, Calls Try.prog 15 #[.slice (some ⟨sb, off, none⟩) n cap, .int .i64 k1] (w.drewN m) fun e w' => e = .returned (.int .u64 (s1 : Nat)) ∧ w' = w.drewN m) := Lib.hid fun m => by
        have := CF.out (w.drewN m) (HS.out.kept (drewN_grown w m)) (k + 1) (by omega)
        rw [HS1.out, HK1.out] at this
        exact this.mono fun _ _ ⟨a, b⟩ => ⟨a, b.symm⟩
      clear C2
      go_wp2
      go_quiet ((go_at_call 15; exact Calls.quiet_of_same (CQ.out _)))
      go_wp2
      go_ret2
      exact ⟨by rw [HS1.out, HD.out]; rfl, drewN_grown _ _⟩

set_option maxHeartbeats 1000000 in
theorem rend_hi (sa : Option Addr) (n cap : Nat) (k : Int) (hi lo : Nat) (hh : 0 < hi) (w : World) :
    Calls Try.prog 22 #[.slice sa n cap, .int .i64 k, .agg #[.int .u64 (hi : Nat), .int .u64 (lo : Nat)]] w fun e w' => e = .returned (.tuple #[.int .u64 0, .int .u64 0, .bool false]) ∧ w.grownBy w' none := by
  have hh' : (0 : Int) < (hi : Int) := by omega
  have K0 := Lib.hid (World.grownBy_alloc w (.cells #[.int .u64 (hi : Int), .int .u64 (lo : Int)] 54) none)
  go_enter Try.func22, Try.ntmps22
  go_wp2
  go_ret3
  exact ⟨rfl, K0.out⟩

/-- What both sums of an end leave, whichever order they came in. -/
theorem sum_held (x y : Nat) (hx : x < 18446744073709551616) (hy : y < 18446744073709551616) (w : World) : Calls Try.prog 23 #[.int .u64 (x : Nat), .int .u64 (y : Nat)] w fun e w' => e = .returned (.agg #[.int .u64 (((x + y) / 18446744073709551616 : Nat) : Int), .int .u64 (((x + y) % 18446744073709551616 : Nat) : Int)]) ∧ w.grownBy w' none :=
  (sum_any x y hx hy w).mono fun e w' ⟨a, b⟩ => ⟨a, by rw [b]; exact World.grownBy_alloc _ _ none⟩

theorem held_kept {w wa wc : World} {b : Nat} {v : Value} (h : wa.cell? ⟨b, 1, none⟩ = some v ∧ w.grownBy wa none) (k : wa.grownBy wc none) : wc.cell? ⟨b, 1, none⟩ = some v ∧ w.grownBy wc none := ⟨k.cell h.1 (by simp), h.2.trans k⟩

theorem grown3 (w : World) (a b c : Obj) : w.grownBy (((w.alloc a).alloc b).alloc c).drew none :=
  ((World.grownBy_alloc w a none).trans ((World.grownBy_alloc _ b none).trans (World.grownBy_alloc _ c none))).trans (drewN_grown _ 1)

theorem w2_mid (w : World) (B C : Array Value) (t : TypeId) {j : Nat} {v : Value} (h : B[j]? = some v) : ((w.alloc (.cells B t)).alloc (.cells C t)).drew.cell? ⟨w.heap.size, j, none⟩ = some v :=
  (drewN_grown _ 1).cell ((World.grownBy_alloc _ _ none).cell (PlV.cell w t h) (by simp)) (by simp)
theorem w2_top (w : World) (B C : Array Value) (t : TypeId) {j : Nat} {v : Value} (h : C[j]? = some v) : ((w.alloc (.cells B t)).alloc (.cells C t)).drew.cell? ⟨w.heap.size + 1, j, none⟩ = some v := by
  have hs : (w.alloc (.cells B t)).heap.size = w.heap.size + 1 := by simp
  have := PlV.cell (w.alloc (.cells B t)) t h
  rw [hs] at this
  exact (drewN_grown _ 1).cell this (by simp)
theorem w2_low {w : World} (B C : Array Value) (t : TypeId) {p : Addr} {v : Value} (h : w.cell? p = some v) : ((w.alloc (.cells B t)).alloc (.cells C t)).drew.cell? p = some v :=
  (drewN_grown _ 1).cell ((World.grownBy_alloc _ _ none).cell ((World.grownBy_alloc _ _ none).cell h (by simp)) (by simp)) (by simp)
theorem grown2 {u w : World} (k : u.grownBy w none) (a b : Obj) : u.grownBy ((w.alloc a).alloc b).drew none :=
  (k.trans ((World.grownBy_alloc w a none).trans (World.grownBy_alloc _ b none))).trans (drewN_grown _ 1)
theorem w3_mid (w : World) (A B C : Array Value) (t : TypeId) {j : Nat} {v : Value} (h : B[j]? = some v) : (((w.alloc (.cells A t)).alloc (.cells B t)).alloc (.cells C t)).drew.cell? ⟨w.heap.size + 1, j, none⟩ = some v := by
  have hs : (w.alloc (.cells A t)).heap.size = w.heap.size + 1 := by simp
  have := w2_mid (w.alloc (.cells A t)) B C t h
  rwa [hs] at this
theorem w3_top (w : World) (A B C : Array Value) (t : TypeId) {j : Nat} {v : Value} (h : C[j]? = some v) : (((w.alloc (.cells A t)).alloc (.cells B t)).alloc (.cells C t)).drew.cell? ⟨w.heap.size + 1 + 1, j, none⟩ = some v := by
  have hs : (w.alloc (.cells A t)).heap.size = w.heap.size + 1 := by simp
  have := w2_top (w.alloc (.cells A t)) B C t h
  rwa [hs] at this
theorem w3_low (w : World) (A B C : Array Value) (t : TypeId) {j : Nat} {v : Value} (h : A[j]? = some v) : (((w.alloc (.cells A t)).alloc (.cells B t)).alloc (.cells C t)).drew.cell? ⟨w.heap.size, j, none⟩ = some v :=
  w2_low B C t (PlV.cell w t h)

set_option maxHeartbeats 4000000 in
theorem rend_lo {w : World} {sb off n cap : Nat} {Z : Nat → Nat → Int} {tn : Int} (h : SlAt w (some ⟨sb, off, none⟩) sb off n Z) (hn : n ≤ 64) (ok : okS Z tn n) (k lo : Nat) (hk : k < n) (hl : lo < 18446744073709551616) (R : Array Value) (hR : R = if lo + sumN (lenZ Z) (k + 1) < 18446744073709551616 then #[.int .u64 (lo + sumN (lenZ Z) k : Nat), .int .u64 (lo + sumN (lenZ Z) (k + 1) : Nat), .bool true] else #[.int .u64 0, .int .u64 0, .bool false]) :
    Calls Try.prog 22 #[.slice (some ⟨sb, off, none⟩) n cap, .int .i64 (k : Int), .agg #[.int .u64 0, .int .u64 (lo : Nat)]] w fun e w' => e = .returned (.tuple R) ∧ w.grownBy w' none := by
  have hlow : ∀ k, k ≤ n → sumN (lenZ Z) k ≤ 64000 := fun k hk => by
    have := sumN_le (lenZ Z) 1000 k (fun i hi => by have := ok i (by omega); show (Z i 1).toNat ≤ 1000; omega)
    omega
  have l0 := hlow k (by omega)
  have l1 := hlow (k + 1) (by omega)
  have hmo := sumN_mono (lenZ Z) (show k ≤ k + 1 by omega)
  obtain ⟨s0, hs0⟩ : ∃ s0, sumN (lenZ Z) k = s0 := ⟨_, rfl⟩
  obtain ⟨s1, hs1⟩ : ∃ s1, sumN (lenZ Z) (k + 1) = s1 := ⟨_, rfl⟩
  obtain ⟨k1, hk1⟩ : ∃ k1 : Int, ((k + 1 : Nat) : Int) = k1 := ⟨_, rfl⟩
  have x1 : IntKind.i64.wrap ((k : Int) + 1) = k1 := by rw [IntKind.wrap_i64]; omega
  have F0 : Hid (∀ v : World, w.grownBy v none → Calls Try.prog 15 #[.slice (some ⟨sb, off, none⟩) n cap, .int .i64 (k : Int)] v fun e w' => e = .returned (.int .u64 (s0 : Nat)) ∧ v = w') := Lib.hid fun v hv => by rw [← hs0]; exact from_any (h.kept hv) hn ok k (by omega)
  have F1 : Hid (∀ v : World, w.grownBy v none → Calls Try.prog 15 #[.slice (some ⟨sb, off, none⟩) n cap, .int .i64 k1] v fun e w' => e = .returned (.int .u64 (s1 : Nat)) ∧ v = w') := Lib.hid fun v hv => by rw [← hs1, ← hk1]; exact from_any (h.kept hv) hn ok (k + 1) (by omega)
  have G0 := Lib.hid (sum_any lo s0 hl (by omega))
  have G1 := Lib.hid (sum_any lo s1 hl (by omega))
  rw [hs0] at hmo l0
  rw [hs1] at hmo l1
  rw [hs0, hs1] at hR
  have HR := Lib.hid hR
  have k0 := World.grownBy_alloc w (.cells #[.int .u64 0, .int .u64 (lo : Int)] 54) none
  have b1 : (w.alloc (.cells #[.int .u64 0, .int .u64 (lo : Int)] 54)).cell? ⟨w.heap.size, 1, none⟩ = some (.int .u64 (lo : Int)) := by simp
  clear hR h ok hlow hs0 hs1 hk1
  obtain ⟨h0, hh0⟩ : ∃ h0, (lo + s0) / 18446744073709551616 = h0 := ⟨_, rfl⟩
  obtain ⟨o0, ho0⟩ : ∃ o0, (lo + s0) % 18446744073709551616 = o0 := ⟨_, rfl⟩
  obtain ⟨h1, hh1⟩ : ∃ h1, (lo + s1) / 18446744073709551616 = h1 := ⟨_, rfl⟩
  obtain ⟨o1, ho1⟩ : ∃ o1, (lo + s1) % 18446744073709551616 = o1 := ⟨_, rfl⟩
  rw [hh0, ho0] at G0
  rw [hh1, ho1] at G1
  go_enter Try.func22, Try.ntmps22
  go_upto_region 3 with fail
  go_cut [9] (fun pv wc => ∃ q, pv = .pointer (some ⟨q, 0, none⟩) ∧ wc.cell? ⟨q, 0, none⟩ = some (.int .u64 (h0 : Int)) ∧ wc.cell? ⟨q, 1, none⟩ = some (.int .u64 (o0 : Int)) ∧ wc.cell? ⟨w.heap.size, 1, none⟩ = some (.int .u64 (lo : Int)) ∧ w.grownBy wc none)
  case first =>
    have kd := drewN_grown (w.alloc (.cells #[.int .u64 0, .int .u64 (lo : Int)] 54)) 1
    have b1d : (w.alloc (.cells #[.int .u64 0, .int .u64 (lo : Int)] 54)).drew.cell? ⟨w.heap.size, 1, none⟩ = some (.int .u64 (lo : Int)) := kd.cell b1 (by simp)
    have k0d : w.grownBy (w.alloc (.cells #[.int .u64 0, .int .u64 (lo : Int)] 54)).drew none := k0.trans kd
    have hbl : w.heap.size < (w.alloc (.cells #[.int .u64 0, .int .u64 (lo : Int)] 54)).drew.heap.size := Nat.lt_of_lt_of_le (by simp) kd.size
    go_region_with (first
      | (go_at_call 15; refine (F0.out _ (by first | exact k0d | exact k0d.trans (World.grownBy_alloc _ _ none))).mono ?_; rintro e w' ⟨rfl, rfl⟩)
      | (go_at_call 23; refine (G0.out _).mono ?_; rintro e w' ⟨rfl, rfl⟩))
    all_goals (go_wp2_with fail)
    all_goals go_meet
    all_goals first
      | exact ⟨_, rfl, w3_mid _ _ _ _ _ rfl, w3_mid _ _ _ _ _ rfl, w3_low _ _ _ _ _ rfl, grown3 _ _ _ _⟩
      | exact ⟨_, rfl, w3_top _ _ _ _ _ rfl, w3_top _ _ _ _ _ rfl, w3_low _ _ _ _ _ rfl, grown3 _ _ _ _⟩
  case rest =>
    obtain ⟨q, rfl, q0, q1, b1c, kc⟩ := hcut
    clear F0 G0 b1 k0
    go_upto_region 4 with fail
    go_cut [10] (fun pv wc => ∃ q', pv = .pointer (some ⟨q', 0, none⟩) ∧ wc.cell? ⟨q', 0, none⟩ = some (.int .u64 (h1 : Int)) ∧ wc.cell? ⟨q', 1, none⟩ = some (.int .u64 (o1 : Int)) ∧ wc.cell? ⟨q, 0, none⟩ = some (.int .u64 (h0 : Int)) ∧ wc.cell? ⟨q, 1, none⟩ = some (.int .u64 (o0 : Int)) ∧ w.grownBy wc none)
    case first =>
      have f2 := fun (ob : Obj) => (World.grownBy_alloc _ ob none).cell b1c (by simp)
      have f3 := fun (ob ob' : Obj) => (World.grownBy_alloc _ ob' none).cell (f2 ob) (by simp)
      go_region_with (first
        | (go_at_call 15; refine (F1.out _ (by first | exact kc.trans (drewN_grown _ 1) | exact (kc.trans (drewN_grown _ 1)).trans (World.grownBy_alloc _ _ none))).mono ?_; rintro e w' ⟨rfl, rfl⟩)
        | (go_at_call 23; refine (G1.out _).mono ?_; rintro e w' ⟨rfl, rfl⟩))
      all_goals (go_wp2_with fail)
      all_goals go_meet
      all_goals first
        | exact ⟨_, rfl, w2_mid _ _ _ _ rfl, w2_mid _ _ _ _ rfl, w2_low _ _ _ q0, w2_low _ _ _ q1, grown2 kc _ _⟩
        | exact ⟨_, rfl, w2_top _ _ _ _ rfl, w2_top _ _ _ _ rfl, w2_low _ _ _ q0, w2_low _ _ _ q1, grown2 kc _ _⟩
    case rest =>
      obtain ⟨q', rfl, p0, p1, q0, q1, kc⟩ := hcut
      have KC := Lib.hid kc
      clear kc F1 G1
      by_cases hov : lo + s1 < 18446744073709551616
      · obtain rfl : h1 = 0 := by omega
        obtain rfl : h0 = 0 := by omega
        have e0 : o0 = lo + s0 := by omega
        have e1 : o1 = lo + s1 := by omega
        have HE : Hid (R = #[.int .u64 (o0 : Nat), .int .u64 (o1 : Nat), .bool true]) := Lib.hid (by rw [HR.out, if_pos hov, e0, e1])
        clear HR hov e0 e1 hh0 hh1 ho0 ho1
        go_wp2
        go_quiet (fail)
        go_wp2
        go_ret3
        exact ⟨by rw [HE.out]; rfl, KC.out.trans (drewN_grown _ _)⟩
      · have HE : Hid (R = #[.int .u64 0, .int .u64 0, .bool false]) := Lib.hid (by rw [HR.out, if_neg hov])
        have hp1 : (0 : Int) < (h1 : Int) := by omega
        clear HR hov hh1 ho0 ho1 hh0
        by_cases hp0 : (0 : Int) < (h0 : Int)
        · go_wp2
          go_ret3
          exact ⟨by rw [HE.out]; rfl, KC.out⟩
        · go_wp2
          go_ret3
          exact ⟨by rw [HE.out]; rfl, KC.out⟩
end Go.Proofs.Ytacdmolkagcafaa
