/-
  The document's answers for layer 9, by the slots of one tenant: Next, Kth.
-/
import Derived.Test.YtacdmolkagcafaaPlanRef2
namespace Go.Proofs.Ytacdmolkagcafaa
open Go.RowKit Go.Lib
set_option maxRecDepth 100000
set_option linter.unusedVariables false

theorem rnext_at {w : World} {sb off n cap : Nat} {Z : Nat → Nat → Int} {tn : Int} (h : SlAt w (some ⟨sb, off, none⟩) sb off n Z) (hn : n ≤ 64) (hn0 : 0 < n) (ok : okS Z tn n) {who : Int} {P E m : Nat → Nat} (T : TurnsOf (fun i => Z i 0) (fun i => (Z i 1).toNat) n who P E m) (t : Nat) (ht : t < 18446744073709551616) (rx ry : Nat) (rb : Bool)
    (hb : if E (m t) < 18446744073709551616 then rb = true ∧ rx = P (m t) ∧ ry = E (m t) else rb = false ∧ rx = 0 ∧ ry = 0) :
    Calls Try.prog 17 #[.slice (some ⟨sb, off, none⟩) n cap, .int .i64 who, .int .u64 t] w fun e w' => e = .returned (.tuple #[.int .u64 (rx : Int), .int .u64 (ry : Int), .bool rb]) ∧ w.grownBy w' none := by
  obtain ⟨C, hC⟩ : ∃ C, sumN (lenZ Z) n = C := ⟨_, rfl⟩
  have hT := T.t
  have hC' : sumN (fun i => (Z i 1).toNat) n = C := hC
  rw [hC'] at hT
  have hC0 : 0 < C := by have := hT.low 0 hT.pos; omega
  have hmo : ∀ a b, a ≤ b → sumN (lenZ Z) a ≤ sumN (lenZ Z) b := fun a b h => sumN_mono _ h
  obtain ⟨sp1, sp2⟩ := hT.split t 0
  simp only [Nat.add_zero, Nat.zero_mod, Nat.zero_div, Nat.zero_mul] at sp1 sp2
  refine rnext_run h hn hn0 ok who t C hC ht rx ry rb ?_
  generalize t / C * C = base at *
  have hsi : t % C < C := Nat.mod_lt _ hC0
  generalize t % C = since at *
  rcases next_index T hn0 hC' since hsi with ⟨i, hi, ho, hge, hbef, hP, hE⟩ | ⟨i, hi, ho, hbef, hfst, hP, hE⟩
  · have hP' : P (m since) = sumN (lenZ Z) i := hP
    have hE' : E (m since) = sumN (lenZ Z) (i + 1) := hE
    rcases Nat.lt_or_ge (base + sumN (lenZ Z) i) 18446744073709551616 with hlt | hlt
    · left
      refine ⟨i, hi, ⟨ho, hge, hlt⟩, fun k hk hkt => ?_, ?_⟩
      · have h1 : sumN (lenZ Z) k < since := hbef k hk hkt.1
        have := hkt.2.1; omega
      · by_cases hov : E (m t) < 18446744073709551616
        · rw [if_pos hov] at hb
          obtain ⟨rfl, rfl, rfl⟩ := hb
          rw [if_pos (by omega), sp1, sp2, hP', hE', Nat.add_comm base, Nat.add_comm base]
        · rw [if_neg hov] at hb
          obtain ⟨rfl, rfl, rfl⟩ := hb
          rw [if_neg (by omega)]; rfl
    · right
      refine ⟨fun k hk hkt => ?_, Or.inl ?_⟩
      · have h2 := hkt.2.1
        have h3 := hkt.2.2
        rcases Nat.lt_or_ge k i with h4 | h4
        · have h1 : sumN (lenZ Z) k < since := hbef k h4 hkt.1
          omega
        · have := hmo i k h4; omega
      · obtain ⟨i0, hi0, ho0, hc0⟩ := own_before (fun i => Z i 0) n who 0 n T.t.pos
        rw [Nat.mod_eq_of_lt hi0] at ho0
        refine ⟨i0, hi0, ho0, fun k hk hok => ?_, ?_⟩
        · have := own_lt (O := fun i => Z i 0) (n := n) (who := who) (i := k) (j := i0) (by rw [Nat.mod_eq_of_lt (by omega)]; exact hok) hk
          omega
        · have h5 := hmo i n (by omega)
          have h6 : ¬ E (m t) < 18446744073709551616 := by have := (hT.ends (m since)).1; omega
          rw [if_neg h6] at hb
          obtain ⟨rfl, rfl, rfl⟩ := hb
          rw [if_neg (by omega)]; rfl
  · have hP' : P (m since) = C + sumN (lenZ Z) i := hP
    have hE' : E (m since) = C + sumN (lenZ Z) (i + 1) := hE
    right
    refine ⟨fun k hk hkt => ?_, Or.inl ⟨i, hi, ho, hfst, ?_⟩⟩
    · have h1 : sumN (lenZ Z) k < since := hbef k hk hkt.1
      have := hkt.2.1; omega
    · by_cases hov : E (m t) < 18446744073709551616
      · rw [if_pos hov] at hb
        obtain ⟨rfl, rfl, rfl⟩ := hb
        rw [if_pos (by omega), sp1, sp2, hP', hE', Nat.add_comm _ base, Nat.add_comm _ base, Nat.add_assoc, Nat.add_assoc]
      · rw [if_neg hov] at hb
        obtain ⟨rfl, rfl, rfl⟩ := hb
        rw [if_neg (by omega)]; rfl

theorem none_own {Z : Nat → Nat → Int} {n : Nat} {who : Int} (h0 : ownN (fun i => Z i 0) n who n = 0) : ∀ k, k < n → ¬ Z k 0 = who := fun k hk ho => by
  have := own_lt (O := fun i => Z i 0) (n := n) (who := who) (i := k) (j := n) (by rw [Nat.mod_eq_of_lt hk]; exact ho) hk
  omega

theorem rnext_few {w : World} {sb off n cap : Nat} {Z : Nat → Nat → Int} {tn : Int} (h : SlAt w (some ⟨sb, off, none⟩) sb off n Z) (hn : n ≤ 64) (hn0 : 0 < n) (ok : okS Z tn n) (who : Int) (h0 : ownN (fun i => Z i 0) n who n = 0) (t : Nat) (ht : t < 18446744073709551616) :
    Calls Try.prog 17 #[.slice (some ⟨sb, off, none⟩) n cap, .int .i64 who, .int .u64 t] w fun e w' => e = .returned (.tuple #[.int .u64 ((0 : Nat) : Int), .int .u64 ((0 : Nat) : Int), .bool false]) ∧ w.grownBy w' none :=
  rnext_run h hn hn0 ok who t _ rfl ht 0 0 false (Or.inr ⟨fun k hk hkt => none_own h0 k hk hkt.1, Or.inr ⟨none_own h0, rfl⟩⟩)

set_option maxHeartbeats 2000000 in
theorem rkth_no {sa : Option Addr} {n cap : Nat} (who k : Int) (t : Nat) (hk : k < 1) (w : World) :
    Calls Try.prog 19 #[.slice sa n cap, .int .i64 who, .int .u64 t, .int .i64 k] w fun e w' => e = .returned (.tuple #[.int .u64 ((0 : Nat) : Int), .bool false]) ∧ w.grownBy w' none := by
  go_enter Try.func19, Try.ntmps19
  go_wp2
  go_ret2
  exact ⟨rfl, World.grownBy.refl _ _⟩

set_option maxHeartbeats 2000000 in
/-- One by one: what each search answers is given. -/
theorem rkth_run {w : World} {sa : Option Addr} {n cap : Nat} (who : Int) (k t : Nat) (hk : k + 1 ≤ 300) (at_ P E : Nat → Nat) (a0 : at_ 0 = t) (aS : ∀ j, j ≤ k → E j < 18446744073709551616 → at_ (j + 1) = P j + 1 ∧ P j + 1 < 18446744073709551616) (hE : ∀ i j, i ≤ j → E i ≤ E j)
    (CN : ∀ j, j ≤ k → (∀ i, i < j → E i < 18446744073709551616) → ∀ v : World, w.grownBy v none → Calls Try.prog 17 #[.slice sa n cap, .int .i64 who, .int .u64 (at_ j : Nat)] v fun e w' => (e = .returned (.tuple (if E j < 18446744073709551616 then #[.int .u64 (P j : Nat), .int .u64 (E j : Nat), .bool true] else #[.int .u64 0, .int .u64 0, .bool false]))) ∧ v.grownBy w' none)
    (y : Nat) (b : Bool) (hb : if E k < 18446744073709551616 then b = true ∧ y = E k else b = false ∧ y = 0) :
    Calls Try.prog 19 #[.slice sa n cap, .int .i64 who, .int .u64 t, .int .i64 ((k + 1 : Nat) : Int)] w fun e w' => e = .returned (.tuple #[.int .u64 (y : Int), .bool b]) ∧ w.grownBy w' none := by
  have HA0 := Lib.hid a0
  have HAS := Lib.hid aS
  have HE := Lib.hid hE
  have HCN := Lib.hid CN
  have HB := Lib.hid hb
  obtain ⟨kz, hkz⟩ : ∃ kz : Int, ((k + 1 : Nat) : Int) = kz := ⟨_, rfl⟩
  rw [hkz]
  have HKZ := Lib.hid hkz
  have hk1 : ¬ kz < 1 := by omega
  clear a0 aS hE CN hb hkz
  go_enter Try.func19, Try.ntmps19
  go_wp2
  clear hk1
  try (rename 1 ≤ kz => q1; clear q1)
  go_loopw [2, 10, 11] (fun tv ev it wr => ∃ j : Nat, j ≤ k + 1 ∧ it = .int .i64 j ∧ tv = .int .u64 (at_ j : Nat) ∧ ev = .int .u64 ((if j = 0 then 0 else E (j - 1) : Nat) : Int) ∧ Hid (∀ i, i < j → E i < 18446744073709551616) ∧ Hid (w.grownBy wr none)) (fun tv ev it _ => k + 1 - (intOf it).toNat)
  case atStart => exact ⟨0, Nat.zero_le _, rfl, by rw [HA0.out], rfl, Lib.hid fun i hi => absurd hi (by omega), Lib.hid (World.grownBy.refl _ _)⟩
  case round =>
    obtain ⟨j, hj, rfl, rfl, rfl, LO, KR⟩ := hrel
    by_cases hjk : j < k + 1
    · have hji : (j : Int) < kz := by have := HKZ.out; omega
      have hj300 : (j : Int) < 300 := by omega
      have C1 := HCN.out j (by omega) LO.out wr KR.out
      by_cases hov : E j < 18446744073709551616
      · rw [if_pos hov] at C1
        obtain ⟨s1, s2⟩ := HAS.out j (by omega) hov
        have HC := Lib.hid C1
        have LO2 : Hid (∀ i, i < j + 1 → E i < 18446744073709551616) := Lib.hid fun i hi => by
          by_cases e : i = j
          · subst e; exact hov
          · exact LO.out i (by omega)
        have HS1 := Lib.hid s1
        have x1 : IntKind.u64.wrap ((P j : Int) + 1) = ((P j + 1 : Nat) : Int) := by rw [IntKind.wrap_u64]; omega
        generalize (if j = 0 then 0 else E (j - 1)) = ej at *
        clear C1 hov s1 s2
        go_wp2_with fail
        refine HC.out.mono ?_
        rintro e w2 ⟨rfl, k2⟩
        have K2 := Lib.hid (KR.out.trans k2)
        clear k2 HC
        go_wp2
        go_roundw
        case rel => exact ⟨j + 1, by omega, by go_num, by rw [HS1.out]; simp, by simp, LO2, K2⟩
        case measure => simp [intOf]; omega
      · rw [if_neg hov] at C1
        have HC := Lib.hid C1
        obtain ⟨rfl, rfl⟩ : b = false ∧ y = 0 := by have h1 := HB.out; have h2 := HE.out j k (by omega); rw [if_neg (by omega)] at h1; exact h1
        generalize (if j = 0 then 0 else E (j - 1)) = ej at *
        clear C1 hov HB
        go_wp2_with fail
        refine HC.out.mono ?_
        rintro e w2 ⟨rfl, k2⟩
        have K2 := Lib.hid (KR.out.trans k2)
        clear k2 HC
        go_wp2
        go_ret2
        exact ⟨rfl, K2.out⟩
    · obtain rfl : j = k + 1 := by omega
      have hji : ¬ ((k + 1 : Nat) : Int) < kz := by have := HKZ.out; omega
      have hjz : ((k + 1 : Nat) : Int) = kz := HKZ.out
      obtain ⟨rfl, rfl⟩ : b = true ∧ y = E k := by have h1 := HB.out; rw [if_pos (LO.out k (by omega))] at h1; exact h1
      rw [if_neg (by omega), Nat.add_sub_cancel, hjz]
      rw [hjz] at hji
      clear hjk HB hjz
      go_wp2
      go_ret2
      exact ⟨rfl, KR.out⟩
end Go.Proofs.Ytacdmolkagcafaa
