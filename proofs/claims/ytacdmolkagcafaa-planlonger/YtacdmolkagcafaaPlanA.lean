/-
  A plan's methods: a plan is a value; each call lays it into a box of its own.
-/
import Derived.Test.YtacdmolkagcafaaNum
import Derived.Test.YtacdmolkagcafaaPlanMath
import Derived.Test.YtacdmolkagcafaaFrame
import Derived.Deep.MidRow
import Derived.Deep.WholeRow
namespace Go.Proofs.Ytacdmolkagcafaa
open Go.RowKit Go.Lib
set_option maxRecDepth 100000
set_option linter.unusedVariables false

/-- A plan, cell by cell: the owners and the lengths by turns, how many slots, how many ticks. -/
structure PlV (a : Array Value) (O : Nat → Int) (L : Nat → Nat) (n C : Nat) : Prop where
  size : a.size = 130
  one : a.all (·.oneCell') = true
  own : ∀ i, i < n → a[i * 2]? = some (.int .i64 (O i))
  len : ∀ i, i < n → a[i * 2 + 1]? = some (.int .i64 (L i))
  cnt : a[128]? = some (.int .i64 n)
  cyc : a[129]? = some (.int .u64 C)
  hn : n ≤ 64
  hL : ∀ i, i < n → 1 ≤ L i ∧ L i ≤ 1000
  hC : C = sumN L n

theorem PlV.cell {a : Array Value} (w : World) (t : TypeId) {j : Nat} {v : Value} (h : a[j]? = some v) : (w.alloc (.cells a t)).cell? ⟨w.heap.size, j, none⟩ = some v := by
  rw [cell_of_row _ _ j a t (0, 0) (heap_alloc_last w _)]; exact h

theorem drewN_grown (w : World) (m : Nat) : w.grownBy (w.drewN m) none := ⟨rfl, rfl, rfl, Nat.le_refl _, fun _ _ _ => rfl⟩

theorem PlV.low {a : Array Value} {O : Nat → Int} {L : Nat → Nat} {n C : Nat} (h : PlV a O L n C) (i : Nat) (hi : i ≤ n) : sumN L i ≤ 64000 := by
  have h1 := sumN_le L 1000 i (fun j hj => (h.hL j (by omega)).2)
  have h2 := h.hn
  have : i * 1000 ≤ 64 * 1000 := Nat.mul_le_mul_right _ (by omega)
  omega

theorem cycle_any {a : Array Value} {O : Nat → Int} {L : Nat → Nat} {n C : Nat} (h : PlV a O L n C) (w : World) : Calls Try.prog 12 #[.agg a] w fun e w' => e = .returned (.int .u64 C) ∧ w.grownBy w' none := by
  have hs := h.size
  have hc : a[129] = .int .u64 C := (Array.getElem?_eq_some_iff.1 h.cyc).2
  have k0 := World.grownBy_alloc w (.cells a 29) none
  clear h
  go_enter Try.func12, Try.ntmps12
  go_wp2
  go_ret
  exact ⟨rfl, k0⟩

set_option maxHeartbeats 1000000 in
theorem at_zero {a : Array Value} {O : Nat → Int} {L : Nat → Nat} {n C : Nat} (h : PlV a O L n C) (w : World) : Calls Try.prog 13 #[.agg a, .int .u64 0] w fun e w' => e = .returned (.tuple #[.int .i64 0, .bool false]) ∧ w.grownBy w' none := by
  have hs := h.size
  have k0 := World.grownBy_alloc w (.cells a 29) none
  clear h
  go_enter Try.func13, Try.ntmps13
  go_wp2
  go_ret2
  exact ⟨rfl, k0⟩

set_option maxHeartbeats 2000000 in
theorem at_slot {a : Array Value} {O : Nat → Int} {L : Nat → Nat} {n C : Nat} (h : PlV a O L n C) (t j x : Nat) (ht : t + 1 < 18446744073709551616) (hx : x = t % C) (hj : j < n) (h1 : sumN L j ≤ x) (h2 : x < sumN L (j + 1)) (w : World) :
    Calls Try.prog 13 #[.agg a, .int .u64 ((t + 1 : Nat) : Int)] w fun e w' => e = .returned (.tuple #[.int .i64 (O j), .bool (decide (x + 1 = sumN L (j + 1)))]) ∧ w.grownBy w' none := by
  have hs := h.size
  have k0 := Lib.hid (World.grownBy_alloc w (.cells a 29) none)
  have hC0 : 0 < C := by
    have := sumN_mono L (show j + 1 ≤ n by omega)
    rw [h.hC]; omega
  have HC := Lib.hid (fun i (hi : i < n) => (⟨PlV.cell w 29 (h.own i hi), PlV.cell w 29 (h.len i hi)⟩ : _ ∧ _))
  have c1 : (w.alloc (.cells a 29)).cell? ⟨w.heap.size, 128, none⟩ = some (.int .i64 n) := PlV.cell w 29 h.cnt
  have c2 : (w.alloc (.cells a 29)).cell? ⟨w.heap.size, 129, none⟩ = some (.int .u64 C) := PlV.cell w 29 h.cyc
  have HL := Lib.hid h.low
  have HX := Lib.hid hx
  have hn0 : ((n : Int) == 0) = false := by simp; omega
  have hz : ((C : Int) == 0) = false := by simp; omega
  have ht0 : (((t + 1 : Nat) : Int) == 0) = false := by simp; omega
  have e1 : IntKind.u64.wrap (((t + 1 : Nat) : Int) - 1) = (t : Int) := by rw [IntKind.wrap_u64]; omega
  have hn := h.hn
  have HLL := Lib.hid h.hL
  clear h hx
  go_enter Try.func13, Try.ntmps13
  go_wp2
  have e2 : (t : Int) % (C : Int) = (x : Int) := by rw [HX.out]; omega
  rw [e2]
  clear e1 e2 hz
  go_loop [7, 23] (fun e it => ∃ k : Nat, k ≤ j ∧ it = .int .i64 k ∧ e = .int .u64 (sumN L k : Nat)) (fun e it => n - (intOf it).toNat)
  case atStart => exact ⟨0, Nat.zero_le _, rfl, rfl⟩
  case round =>
    obtain ⟨k, hk, rfl, rfl⟩ := hrel
    have hkn : k < n := by omega
    obtain ⟨d0, d1⟩ := HC.out k hkn
    have l1 := HLL.out k hkn
    have l2 := HL.out k (by omega)
    have hsk : sumN L (k + 1) = sumN L k + L k := rfl
    have a1 : IntKind.u64.wrap (L k : Int) = (L k : Int) := by rw [IntKind.wrap_u64]; omega
    have a2 : IntKind.u64.wrap ((sumN L k : Int) + (L k : Int)) = ((sumN L (k + 1) : Nat) : Int) := by rw [IntKind.wrap_u64]; omega
    have ki0 : (0 : Int) ≤ (k : Int) := by omega
    have ki1 : (k : Int) < 64 := by omega
    by_cases hlt : x < sumN L (k + 1)
    · obtain rfl : k = j := by
        rcases Nat.lt_or_ge k j with h | h
        · have := sumN_mono L (show k + 1 ≤ j by omega); omega
        · omega
      have hx1 : IntKind.u64.wrap ((x : Int) + 1) = ((x + 1 : Nat) : Int) := by rw [IntKind.wrap_u64]; omega
      go_wp2
      go_ret2
      refine ⟨?_, k0.out⟩
      simp
      rw [Bool.eq_iff_iff]
      simp
      omega
    · have hkj : k < j := by
        rcases Nat.lt_or_ge k j with h | h
        · exact h
        · obtain rfl : k = j := by omega
          omega
      go_wp2
      go_round
      case rel => exact ⟨k + 1, by omega, by go_num, rfl⟩
      case measure => simp [intOf]; omega

set_option maxHeartbeats 1000000 in
theorem slotsOf_any {a : Array Value} {O : Nat → Int} {L : Nat → Nat} {n C : Nat} (h : PlV a O L n C) (who : Int) (w : World) :
    Calls Try.prog 24 #[.agg a, .int .i64 who] w fun e w' => e = .returned (.int .i64 (ownN O n who n : Nat)) ∧ w.grownBy w' none := by
  have hs := h.size
  have k0 := Lib.hid (World.grownBy_alloc w (.cells a 29) none)
  have HC := Lib.hid (fun i (hi : i < n) => PlV.cell w 29 (h.own i hi))
  have c1 : (w.alloc (.cells a 29)).cell? ⟨w.heap.size, 128, none⟩ = some (.int .i64 n) := PlV.cell w 29 h.cnt
  have hn := h.hn
  clear h
  go_enter Try.func24, Try.ntmps24
  go_wp2
  go_loop [5, 9] (fun c it => ∃ k : Nat, k ≤ n ∧ it = .int .i64 k ∧ c = .int .i64 (ownN O n who k : Nat)) (fun c it => n - (intOf it).toNat)
  case atStart => exact ⟨0, Nat.zero_le _, rfl, rfl⟩
  case round =>
    obtain ⟨k, hk, rfl, rfl⟩ := hrel
    by_cases hkn : k < n
    · have d0 := HC.out k hkn
      have ki0 : (0 : Int) ≤ (k : Int) := by omega
      have ki1 : (k : Int) < 64 := by omega
      have hm : k % n = k := Nat.mod_eq_of_lt hkn
      have hle : ownN O n who k ≤ k * 1 := sumN_le _ 1 k (fun i _ => by split <;> omega)
      by_cases ho : O k = who
      · have hsk : ownN O n who (k + 1) = ownN O n who k + 1 := by rw [ownN_succ, hm, if_pos ho]
        have a1 : IntKind.i64.wrap ((ownN O n who k : Int) + 1) = ((ownN O n who (k + 1) : Nat) : Int) := by rw [IntKind.wrap_i64]; omega
        clear hm hsk
        go_wp2
        go_round
        case rel => exact ⟨k + 1, by omega, by go_num, rfl⟩
        case measure => simp [intOf]; omega
      · have hsk : ownN O n who (k + 1) = ownN O n who k := by rw [ownN_succ, hm, if_neg ho]; rfl
        clear hm
        go_wp2
        go_round
        case rel => exact ⟨k + 1, by omega, by go_num, by rw [hsk]⟩
        case measure => simp [intOf]; omega
    · obtain rfl : k = n := by omega
      clear hkn
      go_wp2
      go_ret
      exact ⟨rfl, k0.out⟩

set_option maxHeartbeats 2000000 in
theorem ahead_at {a : Array Value} {O : Nat → Int} {L : Nat → Nat} {n C : Nat} (h : PlV a O L n C) (who : Int) (since s i : Nat) (hsn : since < 18446744073709551616) (hi : i < 2 * n) (ho : O (i % n) = who) (hb : since ≤ begN L n i)
    (hs0 : sumN (fun j => if O (j % n) = who ∧ since ≤ begN L n j then 1 else 0) i = s) (w : World) :
    Calls Try.prog 27 #[.agg a, .int .i64 who, .int .u64 since, .int .i64 s] w fun e w' => e = .returned (.tuple #[.int .u64 (begN L n i : Nat), .int .u64 (L (i % n) : Nat)]) ∧ w.grownBy w' none := by
  have hs := h.size
  have k0 := Lib.hid (World.grownBy_alloc w (.cells a 29) none)
  have HC := Lib.hid (fun i (hi : i < n) => (⟨PlV.cell w 29 (h.own i hi), PlV.cell w 29 (h.len i hi)⟩ : _ ∧ _))
  have c1 : (w.alloc (.cells a 29)).cell? ⟨w.heap.size, 128, none⟩ = some (.int .i64 n) := PlV.cell w 29 h.cnt
  have hn := h.hn
  have HLL := Lib.hid h.hL
  have e1 : IntKind.i64.wrap (2 * (n : Int)) = ((2 * n : Nat) : Int) := by rw [IntKind.wrap_i64]; omega
  have hsi : s ≤ i * 1 := by rw [← hs0]; exact sumN_le _ 1 i (fun j _ => by split <;> omega)
  clear h
  go_enter Try.func27, Try.ntmps27
  go_wp2
  generalize hw : w.alloc (.cells a 29) = wb at *
  go_loopw [3, 10, 16] (fun c b it wr => ∃ k : Nat, k ≤ i ∧ it = .int .i64 k ∧ b = .int .u64 (begN L n k : Nat) ∧ c = .int .i64 ((s - sumN (fun j => if O (j % n) = who ∧ since ≤ begN L n j then 1 else 0) k : Nat) : Int) ∧ wb.grownBy wr none) (fun c b it _ => 2 * n - (intOf it).toNat)
  case atStart => exact ⟨0, Nat.zero_le _, rfl, rfl, rfl, World.grownBy.refl _ _⟩
  case round =>
    obtain ⟨k, hk, rfl, rfl, rfl, kr⟩ := hrel
    have hkn : k < 2 * n := by omega
    have hkm : k % n < n := Nat.mod_lt _ (by omega)
    obtain ⟨d0', d1'⟩ := HC.out (k % n) hkm
    have d0 := kr.cell d0' (by simp)
    have d1 := kr.cell d1' (by simp)
    have c1r := kr.cell c1 (by simp)
    clear d0' d1'
    obtain ⟨l1, l2⟩ := HLL.out (k % n) hkm
    have hnz : ((n : Int) == 0) = false := by simp; omega
    have er : Int.tmod (k : Int) (n : Int) = ((k % n : Nat) : Int) := Int.ofNat_tmod k n |>.symm
    obtain ⟨q, hq⟩ : ∃ q, k % n = q := ⟨_, rfl⟩
    rw [hq] at d0 d1 l1 l2 hkm er
    have ki0 : (0 : Int) ≤ (q : Int) := by omega
    have ki1 : (q : Int) < 64 := by omega
    have a1 : IntKind.u64.wrap (L q : Int) = (L q : Int) := by rw [IntKind.wrap_u64]; omega
    have hbs : begN L n (k + 1) = begN L n k + L q := by rw [begN_succ, hq]
    have hbl : begN L n k ≤ k * 1000 := sumN_le _ 1000 k (fun j _ => (HLL.out (j % n) (Nat.mod_lt _ (by omega))).2)
    have a2 : IntKind.u64.wrap ((begN L n k : Int) + (L q : Int)) = ((begN L n (k + 1) : Nat) : Int) := by rw [IntKind.wrap_u64]; omega
    have hmo : ∀ k, sumN (fun j => if O (j % n) = who ∧ since ≤ begN L n j then 1 else 0) (k + 1) = sumN (fun j => if O (j % n) = who ∧ since ≤ begN L n j then 1 else 0) k + (if O (k % n) = who ∧ since ≤ begN L n k then 1 else 0) := fun _ => rfl
    have hck := hmo k
    rw [hq] at hck
    have HQ := Lib.hid hq
    have hle : sumN (fun j => if O (j % n) = who ∧ since ≤ begN L n j then 1 else 0) (k + 1) ≤ s ∨ k = i := by
      rcases Nat.lt_or_ge k i with h | h
      · left; rw [← hs0]; exact sumN_mono _ h
      · right; omega
    generalize hc : sumN (fun j => if O (j % n) = who ∧ since ≤ begN L n j then 1 else 0) k = c at *
    generalize hc1 : sumN (fun j => if O (j % n) = who ∧ since ≤ begN L n j then 1 else 0) (k + 1) = c1 at *
    have HC1 := Lib.hid hc1
    clear hq hbs hmo
    by_cases hki : k = i
    · subst hki
      have hcs : c = s := by rw [← hc, hs0]
      subst hcs
      have ho' : O q = who := by rw [← HQ.out]; exact ho
      have e0 : (((c - c : Nat) : Int)) = 0 := by omega
      rw [e0]
      have HE : Hid (L (k % n) = L q) := Lib.hid (by rw [HQ.out])
      clear hc hck hle hc1
      go_wp2
      go_quiet (fail)
      go_wp2
      go_ret2
      exact ⟨by rw [HE.out]; rfl, k0.out.trans (kr.trans ((World.grownBy_alloc _ _ none).trans (drewN_grown _ _)))⟩
    · have hle' : c1 ≤ s := by rcases hle with h | h; exact h; exact absurd h hki
      clear hle hc hc1
      by_cases hoo : O q = who
      · by_cases hsb : since ≤ begN L n k
        · rw [if_pos ⟨hoo, hsb⟩] at hck
          have hd : ¬ ((s - c : Nat) : Int) = 0 := by omega
          have hd2 : IntKind.i64.wrap (((s - c : Nat) : Int) - 1) = ((s - c1 : Nat) : Int) := by rw [IntKind.wrap_i64]; omega
          go_wp2
          go_round
          case rel => exact ⟨k + 1, by omega, by go_num, rfl, by rw [HC1.out, hck], kr.trans (World.grownBy_alloc _ _ none)⟩
          case measure => simp [intOf]; omega
        · rw [if_neg (fun h => hsb h.2)] at hck
          go_wp2
          go_round
          case rel => exact ⟨k + 1, by omega, by go_num, rfl, by rw [HC1.out, hck]; rfl, kr.trans (World.grownBy_alloc _ _ none)⟩
          case measure => simp [intOf]; omega
      · rw [if_neg (fun h => hoo h.1)] at hck
        go_wp2
        go_round
        case rel => exact ⟨k + 1, by omega, by go_num, rfl, by rw [HC1.out, hck]; rfl, kr.trans (World.grownBy_alloc _ _ none)⟩
        case measure => simp [intOf]; omega

/-- Of the slots from a time of the first cycle on, the one with so many others ahead. -/
theorem ahead_own {a : Array Value} {O : Nat → Int} {L : Nat → Nat} {n C : Nat} (h : PlV a O L n C) {who : Int} {P E m : Nat → Nat} (T : TurnsOf O L n who P E m) (since s : Nat) (hsn : since < C) (hs : s < ownN O n who n) (w : World) :
    ∃ len, E (m since + s) = P (m since + s) + len ∧ len ≤ 1000 ∧ P (m since + s) ≤ 128000 ∧
    Calls Try.prog 27 #[.agg a, .int .i64 who, .int .u64 since, .int .i64 s] w fun e w' => e = .returned (.tuple #[.int .u64 (P (m since + s) : Nat), .int .u64 (len : Nat)]) ∧ w.grownBy w' none := by
  have hn : 0 < n := by
    rcases Nat.eq_zero_or_pos n with e | e
    · subst e; rw [h.hC] at hsn; exact absurd hsn (by simp [sumN])
    · exact e
  have hL0 : ∀ i, i < n → 0 < L i := fun i hi => (h.hL i hi).1
  obtain ⟨i, ho, hc, hP, hE⟩ := T.at (m since + s)
  have hm1 : m since ≤ ownN O n who n := T.t.m_le.2 (by have := T.t.perP 0; simp only [Nat.zero_add] at this; rw [← h.hC] at this; omega)
  have hi2 : i < 2 * n := by
    rcases Nat.lt_or_ge i (2 * n) with h1 | h1
    · exact h1
    · have h2 := ownN_le (O := O) (n := n) (who := who) h1
      have h3 := ownN_on O n who 0 2
      simp only [Nat.zero_add] at h3
      rw [h3, hc] at h2
      have : ownN O n who 0 = 0 := rfl
      omega
  have hmn : i % n < n := Nat.mod_lt _ hn
  have hge : since ≤ begN L n i := by rw [← hP]; exact Nat.le_trans (T.t.m_ge since) (T.t.le (by omega))
  have hcount : ∀ N, sumN (fun j => if O (j % n) = who ∧ since ≤ begN L n j then 1 else 0) N = ownN O n who N - m since := by
    intro N
    induction N with
    | zero => have : ownN O n who 0 = 0 := rfl
              simp only [sumN]; omega
    | succ N ih =>
      simp only [sumN]
      rw [ih, ownN_succ]
      by_cases h1 : O (N % n) = who
      · have h3 := (T.is N h1).1
        have h4 := T.t.m_le (r := ownN O n who N) (t := since)
        rw [h3] at h4
        by_cases h2 : since ≤ begN L n N
        · rw [if_pos ⟨h1, h2⟩, if_pos h1]
          have := h4.2 h2
          omega
        · rw [if_neg (fun h => h2 h.2), if_pos h1]
          have : ¬ m since ≤ ownN O n who N := fun h => h2 (h4.1 h)
          omega
      · rw [if_neg (fun h => h1 h.1), if_neg h1]; omega
  refine ⟨L (i % n), by rw [hE, hP, begN_succ], (h.hL _ hmn).2, ?_, ?_⟩
  · rw [hP]
    have := sumN_le (fun j => L (j % n)) 1000 i (fun j _ => (h.hL _ (Nat.mod_lt _ hn)).2)
    have hn64 := h.hn
    unfold begN; omega
  · rw [hP]
    have hlow := h.low n (Nat.le_refl _)
    rw [← h.hC] at hlow
    exact ahead_at h who since s i (by omega) hi2 ho hge (by rw [hcount, hc]; omega) w
end Go.Proofs.Ytacdmolkagcafaa
