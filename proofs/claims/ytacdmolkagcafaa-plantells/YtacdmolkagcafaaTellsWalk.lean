/-
  PlanTells: of all slots whether they may be, and at all times whose tick it is, which slot comes next, and when the k-th one ends, are as the document says.
-/
import Derived.Test.YtacdmolkagcafaaPlanRef3
namespace Go.Proofs.Ytacdmolkagcafaa
open Go.RowKit Go.Lib
set_option maxRecDepth 100000
set_option linter.unusedVariables false

theorem zero_cnt : zeroPl[128]? = some (.int .i64 ((0 : Nat) : Int)) := by simp [zeroPl]
theorem zero_plan : PlV zeroPl (fun _ => 0) (fun _ => 0) 0 0 :=
  ⟨zero_size, zero_one, fun i hi => absurd hi (by omega), fun i hi => absurd hi (by omega), zero_cnt, zero_cyc, by omega, fun i hi => absurd hi (by omega), rfl⟩

section
variable {w : World} {sb off n cap : Nat} {Z : Nat → Nat → Int} {tn : Int} (h : SlAt w (some ⟨sb, off, none⟩) sb off n Z) (hR : RightP n Z tn)
include h hR

theorem at_pair (t : Nat) (ht : t < 18446744073709551616) : ∃ (o : Int) (b : Bool),
    (∀ a, PlV a (fun i => Z i 0) (fun i => (Z i 1).toNat) n (sumN (fun i => (Z i 1).toNat) n) → ∀ v : World, Calls Try.prog 13 #[.agg a, .int .u64 (t : Nat)] v fun e w' => e = .returned (.tuple #[.int .i64 o, .bool b]) ∧ v.grownBy w' none) ∧
    (∀ v : World, w.grownBy v none → Calls Try.prog 14 #[.slice (some ⟨sb, off, none⟩) n cap, .int .u64 (t : Nat)] v fun e w' => e = .returned (.tuple #[.int .i64 o, .bool b]) ∧ v.grownBy w' none) := by
  have hn0 : 0 < n := by obtain ⟨j, hj, _⟩ := hR.2.2.2.2 0 (by have := hR.2.1; omega); omega
  cases t with
  | zero => exact ⟨0, false, fun a ha v => at_zero ha v, fun v _ => rat_zero _ _ _ v⟩
  | succ x =>
    have hL0 : ∀ i, i < n → 0 < (Z i 1).toNat := fun i hi => by have := hR.2.2.2.1 i hi; omega
    obtain ⟨C, hC⟩ : ∃ C, sumN (fun i => (Z i 1).toNat) n = C := ⟨_, rfl⟩
    have hC0 : 0 < C := by
      have h1 := begN_lt hn0 hL0 hn0
      rw [begN_low _ n n (Nat.le_refl _), hC] at h1
      omega
    obtain ⟨i, h1, h2⟩ := slot_at hn0 hL0 (x % C)
    have hxC : x % C < C := Nat.mod_lt _ hC0
    have hi : i < n := by
      rcases Nat.lt_or_ge i n with h3 | h3
      · exact h3
      · have := begN_le (L := fun i => (Z i 1).toNat) (n := n) h3
        rw [begN_low _ n n (Nat.le_refl _), hC] at this
        omega
    rw [begN_low _ n i (by omega)] at h1
    rw [begN_low _ n (i + 1) (by omega)] at h2
    exact ⟨Z i 0, decide (x % C + 1 = sumN (fun i => (Z i 1).toNat) (i + 1)), fun a ha v => at_slot (by rw [hC] at ha; exact ha) x i (x % C) ht rfl hi h1 h2 v, fun v hv => rat_slot (h.kept hv) hR.1 hR.2.2.2.1 x i (x % C) C hC ht rfl hi h1 h2⟩

theorem next_pair (who : Int) (t : Nat) (ht : t < 18446744073709551616) : ∃ (x y : Nat) (b : Bool),
    (∀ a, PlV a (fun i => Z i 0) (fun i => (Z i 1).toNat) n (sumN (fun i => (Z i 1).toNat) n) → ∀ v : World, Calls Try.prog 16 #[.agg a, .int .i64 who, .int .u64 (t : Nat)] v fun e w' => e = .returned (.tuple #[.int .u64 (x : Int), .int .u64 (y : Int), .bool b]) ∧ v.grownBy w' none) ∧
    (∀ v : World, w.grownBy v none → Calls Try.prog 17 #[.slice (some ⟨sb, off, none⟩) n cap, .int .i64 who, .int .u64 (t : Nat)] v fun e w' => e = .returned (.tuple #[.int .u64 (x : Int), .int .u64 (y : Int), .bool b]) ∧ v.grownBy w' none) := by
  have hn0 : 0 < n := by obtain ⟨j, hj, _⟩ := hR.2.2.2.2 0 (by have := hR.2.1; omega); omega
  rcases Nat.eq_zero_or_pos (ownN (fun i => Z i 0) n who n) with h0 | h0
  · exact ⟨0, 0, false, fun a ha v => next_few ha who t h0 v, fun v hv => rnext_few (h.kept hv) hR.1 hn0 hR.2.2.2.1 who h0 t ht⟩
  · obtain ⟨P, E, m, T⟩ := turns_of (O := fun i => Z i 0) (L := fun i => (Z i 1).toNat) who hn0 (fun i hi => by have := hR.2.2.2.1 i hi; omega) h0
    by_cases hE : E (m t) < 18446744073709551616
    · exact ⟨P (m t), E (m t), true, fun a ha v => next_at ha T t ht v _ _ _ (by rw [if_pos hE]; exact ⟨rfl, rfl, rfl⟩), fun v hv => rnext_at (h.kept hv) hR.1 hn0 hR.2.2.2.1 T t ht _ _ _ (by rw [if_pos hE]; exact ⟨rfl, rfl, rfl⟩)⟩
    · exact ⟨0, 0, false, fun a ha v => next_at ha T t ht v _ _ _ (by rw [if_neg hE]; exact ⟨rfl, rfl, rfl⟩), fun v hv => rnext_at (h.kept hv) hR.1 hn0 hR.2.2.2.1 T t ht _ _ _ (by rw [if_neg hE]; exact ⟨rfl, rfl, rfl⟩)⟩

theorem kth_pair (who k : Int) (hk : k ≤ 300) (t : Nat) (ht : t < 18446744073709551616) : ∃ (y : Nat) (b : Bool),
    (∀ a, PlV a (fun i => Z i 0) (fun i => (Z i 1).toNat) n (sumN (fun i => (Z i 1).toNat) n) → ∀ v : World, Calls Try.prog 18 #[.agg a, .int .i64 who, .int .u64 (t : Nat), .int .i64 k] v fun e w' => e = .returned (.tuple #[.int .u64 (y : Int), .bool b]) ∧ v.grownBy w' none) ∧
    (∀ v : World, w.grownBy v none → Calls Try.prog 19 #[.slice (some ⟨sb, off, none⟩) n cap, .int .i64 who, .int .u64 (t : Nat), .int .i64 k] v fun e w' => e = .returned (.tuple #[.int .u64 (y : Int), .bool b]) ∧ v.grownBy w' none) := by
  have hn0 : 0 < n := by obtain ⟨j, hj, _⟩ := hR.2.2.2.2 0 (by have := hR.2.1; omega); omega
  by_cases hk1 : k < 1
  · exact ⟨0, false, fun a ha v => kth_few ha who k t (Or.inl hk1) v, fun v hv => rkth_no who k t hk1 v⟩
  obtain ⟨k, rfl⟩ : ∃ j : Nat, k = ((j + 1 : Nat) : Int) := ⟨(k - 1).toNat, by omega⟩
  rcases Nat.eq_zero_or_pos (ownN (fun i => Z i 0) n who n) with h0 | h0
  · refine ⟨0, false, fun a ha v => kth_few ha who _ t (Or.inr h0) v, fun v hv => ?_⟩
    refine rkth_run who k t (by omega) (fun _ => t) (fun _ => 0) (fun _ => 18446744073709551616) rfl (fun j _ h => absurd h (by omega)) (fun _ _ _ => Nat.le_refl _) (fun j hj _ v' hv' => ?_) 0 false (by rw [if_neg (by omega)]; exact ⟨rfl, rfl⟩)
    rw [if_neg (by omega)]
    exact rnext_few (h.kept (hv.trans hv')) hR.1 hn0 hR.2.2.2.1 who h0 t ht
  · obtain ⟨P, E, m, T⟩ := turns_of (O := fun i => Z i 0) (L := fun i => (Z i 1).toNat) who hn0 (fun i hi => by have := hR.2.2.2.1 i hi; omega) h0
    have hTT := T.t
    have hat : ∃ at_ : Nat → Nat, at_ 0 = t ∧ (∀ x, at_ (x + 1) = P (m t + x) + 1) ∧ (∀ x, m (at_ x) = m t + x) := by
      refine ⟨fun x => if x = 0 then t else P (m t + (x - 1)) + 1, rfl, fun x => by simp, fun x => ?_⟩
      cases x with
      | zero => rfl
      | succ x => simp only [if_false, Nat.add_sub_cancel, Nat.succ_ne_zero]; rw [hTT.m_next]; omega
    obtain ⟨at_, a0, aS, aM⟩ := hat
    have mono : ∀ i j, i ≤ j → E (m t + i) ≤ E (m t + j) := fun i j hij => by
      rcases Nat.lt_or_ge i j with h1 | h1
      · exact Nat.le_of_lt (hTT.elt (by omega))
      · have : i = j := by omega
        rw [this]; exact Nat.le_refl _
    have RUN : ∀ (y : Nat) (b : Bool), (if E (m t + k) < 18446744073709551616 then b = true ∧ y = E (m t + k) else b = false ∧ y = 0) → ∀ v : World, w.grownBy v none → Calls Try.prog 19 #[.slice (some ⟨sb, off, none⟩) n cap, .int .i64 who, .int .u64 (t : Nat), .int .i64 ((k + 1 : Nat) : Int)] v fun e w' => e = .returned (.tuple #[.int .u64 (y : Int), .bool b]) ∧ v.grownBy w' none := fun y b hb v hv => by
      refine rkth_run who k t (by omega) at_ (fun j => P (m t + j)) (fun j => E (m t + j)) a0 (fun j _ hj => ⟨aS j, by have := (hTT.ends (m t + j)).1; omega⟩) mono (fun j hj hlo v' hv' => ?_) y b hb
      have hal : at_ j < 18446744073709551616 := by
        cases j with
        | zero => omega
        | succ j => have := (hTT.ends (m t + j)).1; have := hlo j (by omega); rw [aS]; omega
      by_cases hE : E (m t + j) < 18446744073709551616
      · rw [if_pos hE]
        exact rnext_at (h.kept (hv.trans hv')) hR.1 hn0 hR.2.2.2.1 T (at_ j) hal _ _ _ (by rw [aM, if_pos hE]; exact ⟨rfl, rfl, rfl⟩)
      · rw [if_neg hE]
        exact rnext_at (h.kept (hv.trans hv')) hR.1 hn0 hR.2.2.2.1 T (at_ j) hal 0 0 false (by rw [aM, if_neg hE]; exact ⟨rfl, rfl, rfl⟩)
    by_cases hE : E (m t + k) < 18446744073709551616
    · exact ⟨E (m t + k), true, fun a ha v => kth_at ha T k t (by omega) ht v _ _ (by rw [if_pos hE]; exact ⟨rfl, rfl⟩), RUN _ _ (by rw [if_pos hE]; exact ⟨rfl, rfl⟩)⟩
    · exact ⟨0, false, fun a ha v => kth_at ha T k t (by omega) ht v _ _ (by rw [if_neg hE]; exact ⟨rfl, rfl⟩), RUN _ _ (by rw [if_neg hE]; exact ⟨rfl, rfl⟩)⟩
end

set_option maxHeartbeats 8000000 in
set_option maxRecDepth 100000 in
theorem tells_walk (sa : Option Addr) (n cap sb off : Nat) (Z : Nat → Nat → Int) (tn who : Int) (t : Nat) (k : Int) (w : World)
    (hm : n ≤ maxLen) (hs0 : 0 < n → sa = some ⟨sb, off, none⟩ ∧ sb < w.heap.size) (hz0 : ∀ j, j < n → ∀ i, i < 2 → w.cell? ⟨sb, off + j * 2 + i, none⟩ = some (.int .i64 (Z j i))) (ht : t < 18446744073709551616) :
    Calls Try.prog 3 #[.slice sa n cap, .int .i64 tn, .int .i64 who, .int .u64 t, .int .i64 k] w fun e w' => e = .returned (.bool true) ∧ w.grownBy w' none := by
  have HS := Lib.hid (SlAt.of hs0 hz0)
  have HM := Lib.hid hm
  clear hs0 hz0 hm
  have CA := Lib.hid (alive9 w)
  by_cases hn : 70 < n
  · go_enter Try.func3, Try.ntmps3
    go_wp2_with fail
    refine CA.out.mono ?_
    rintro e w1 ⟨rfl, k1⟩
    go_wp2
    go_ret
    exact ⟨rfl, k1⟩
  by_cases hk : 300 < k
  · go_enter Try.func3, Try.ntmps3
    go_wp2_with fail
    refine CA.out.mono ?_
    rintro e w1 ⟨rfl, k1⟩
    go_wp2
    go_ret
    exact ⟨rfl, k1⟩
  have hz := zero_run
  have hzs := zero_size
  have hz1 := zero_one
  have ZP := Lib.hid zero_plan
  by_cases hR : RightP n Z tn
  case neg =>
    have CN := Lib.hid (fun (v : World) (hv : w.grownBy v none) => of_no (cap := cap) (HS.out.kept hv) HM.out tn hR)
    have CR := Lib.hid (fun (v : World) (hv : w.grownBy v none) => right_any (cap := cap) (HS.out.kept hv) HM.out tn false ⟨(fun e => by cases e), fun e => absurd e hR⟩)
    obtain ⟨zp, hzp⟩ : ∃ zp, zeroPl = zp := ⟨_, rfl⟩
    rw [hzp] at hz hzs hz1 CN ZP
    clear hzp hR
    go_enter Try.func3, Try.ntmps3
    go_wp2_with fail
    refine CA.out.mono ?_
    rintro e w1 ⟨rfl, k1⟩
    have K1 := Lib.hid k1
    clear k1 CA
    go_wp2_with fail
    refine (CN.out _ K1.out).mono ?_
    rintro e w2 ⟨rfl, k2⟩
    have K2 := Lib.hid (K1.out.trans k2)
    obtain ⟨R2, k3⟩ := laid_plan w2 zp zp hzs hzs
    have TN := Lib.hid (there_new w2 zp 29 130 hzs)
    have R3 := Lib.hid R2
    have K3 := Lib.hid (K2.out.trans k3)
    clear k2 R2 k3 K1 K2 CN
    go_wp2_with (first | (refine store_plan w2.heap.size zp TN.out hzs hz1 rfl rfl ?_))
    generalize (w2.alloc (.cells zp 29)).setCells w2.heap.size 0 zp.toList = w3 at *
    generalize w2.heap.size = pb at *
    refine (CR.out _ K3.out).mono ?_
    rintro e w' ⟨rfl, rfl⟩
    have CC := Lib.hid (cycle_any ZP.out)
    clear CR TN
    go_wp2_with (first | (refine load_plan pb zp R3.out hzs rfl ?_) | (refine load_plan_g pb zp R3.out hzs rfl (by first | rfl | go_simp) ?_))
    refine (CC.out _).mono ?_
    rintro e w4 ⟨rfl, k4⟩
    have K4 := Lib.hid (K3.out.trans k4)
    clear k4 K3
    go_wp2
    go_ret
    exact ⟨rfl, K4.out⟩
  have hn0 : 0 < n := by obtain ⟨j, hj, _⟩ := hR.2.2.2.2 0 (by have := hR.2.1; omega); omega
  obtain rfl := HS.out.at_ hn0
  obtain ⟨ao, ab, A1, A2⟩ := at_pair (cap := cap) HS.out hR t ht
  obtain ⟨nx, ny, nb, N1, N2⟩ := next_pair (cap := cap) HS.out hR who t ht
  obtain ⟨ky, kb, T1, T2⟩ := kth_pair (cap := cap) HS.out hR who k (by omega) t ht
  obtain ⟨C, hC⟩ : ∃ C, sumN (fun i => (Z i 1).toNat) n = C := ⟨_, rfl⟩
  rw [hC] at A1 N1 T1
  have F1 : Hid (∀ v : World, w.grownBy v none → Calls Try.prog 15 #[.slice (some ⟨sb, off, none⟩) n cap, .int .i64 (n : Int)] v fun e w' => e = .returned (.int .u64 (C : Nat)) ∧ v = w') := Lib.hid fun v hv => by rw [← hC]; exact from_any (HS.out.kept hv) hR.1 hR.2.2.2.1 n (Nat.le_refl _)
  have CO := Lib.hid (fun (v : World) (hv : w.grownBy v none) => of_ok (cap := cap) (HS.out.kept hv) HM.out tn hR)
  have CR := Lib.hid (fun (v : World) (hv : w.grownBy v none) => right_any (cap := cap) (HS.out.kept hv) HM.out tn true ⟨fun _ => hR, fun _ => rfl⟩)
  have HA1 := Lib.hid A1
  have HA2 := Lib.hid A2
  have HN1 := Lib.hid N1
  have HN2 := Lib.hid N2
  have HT1 := Lib.hid T1
  have HT2 := Lib.hid T2
  have HC := Lib.hid hC
  obtain ⟨zp, hzp⟩ : ∃ zp, zeroPl = zp := ⟨_, rfl⟩
  rw [hzp] at hz hzs
  clear A1 A2 N1 N2 T1 T2 hC hR hzp hz1 ZP hn0
  go_enter Try.func3, Try.ntmps3
  go_wp2_with fail
  refine CA.out.mono ?_
  rintro e w1 ⟨rfl, k1⟩
  have K1 := Lib.hid k1
  clear k1 CA
  go_wp2_with fail
  refine (CO.out _ K1.out).mono ?_
  rintro e w2 ⟨a, rfl, PV, k2⟩
  have K2 := Lib.hid (K1.out.trans k2)
  have hs := PV.size
  have h1 := PV.one
  obtain ⟨R2, k3⟩ := laid_plan w2 zp a hzs hs
  have TN := Lib.hid (there_new w2 zp 29 130 hzs)
  rw [HC.out] at PV
  have R3 := Lib.hid R2
  have K3 := Lib.hid (K2.out.trans k3)
  have C3 := Lib.hid (HA1.out a PV)
  have C6 := Lib.hid (HN1.out a PV)
  have C8 := Lib.hid (HT1.out a PV)
  have CZ := Lib.hid (fun v => cycle_any PV v)
  clear k2 R2 k3 K1 K2 CO PV HA1 HN1 HT1
  go_wp2_with (first | (refine store_plan w2.heap.size a TN.out hs h1 rfl rfl ?_))
  generalize (w2.alloc (.cells zp 29)).setCells w2.heap.size 0 a.toList = w3 at *
  generalize w2.heap.size = pb at *
  clear TN hz hzs
  refine (CR.out _ K3.out).mono ?_
  rintro e w' ⟨rfl, rfl⟩
  clear CR
  go_wp2_with (first | (refine load_plan pb a R3.out hs rfl ?_) | (refine load_plan_g pb a R3.out hs rfl (by first | rfl | go_simp) ?_))
  refine (C3.out _).mono ?_
  rintro e w4 ⟨rfl, k4⟩
  have R4 := Lib.hid (rangeAt_kept R3.out k4)
  have K4 := Lib.hid (K3.out.trans k4)
  clear C3 R3 K3 k4
  go_wp2_with fail
  refine (HA2.out _ K4.out).mono ?_
  rintro e w5 ⟨rfl, k5⟩
  have R5 := Lib.hid (rangeAt_kept R4.out k5)
  have K5 := Lib.hid (K4.out.trans k5)
  clear k5 R4 K4 HA2
  go_wp2_with (first | (refine load_plan pb a R5.out hs rfl ?_) | (refine load_plan_g pb a R5.out hs rfl (by first | rfl | go_simp) ?_))
  refine (CZ.out _).mono ?_
  rintro e w6 ⟨rfl, k6⟩
  have R6 := Lib.hid (rangeAt_kept R5.out k6)
  have K6 := Lib.hid (K5.out.trans k6)
  clear CZ R5 K5 k6
  go_wp2_with fail
  refine (F1.out _ K6.out).mono ?_
  rintro e w' ⟨rfl, rfl⟩
  clear F1
  go_wp2_with (first | (refine load_plan pb a R6.out hs rfl ?_) | (refine load_plan_g pb a R6.out hs rfl (by first | rfl | go_simp) ?_))
  refine (C6.out _).mono ?_
  rintro e w7 ⟨rfl, k7⟩
  have R7 := Lib.hid (rangeAt_kept R6.out k7)
  have K7 := Lib.hid (K6.out.trans k7)
  clear C6 R6 K6 k7
  go_wp2_with fail
  refine (HN2.out _ K7.out).mono ?_
  rintro e w8 ⟨rfl, k8⟩
  have R8 := Lib.hid (rangeAt_kept R7.out k8)
  have K8 := Lib.hid (K7.out.trans k8)
  clear k8 R7 K7 HN2
  go_wp2_with (first | (refine load_plan pb a R8.out hs rfl ?_) | (refine load_plan_g pb a R8.out hs rfl (by first | rfl | go_simp) ?_))
  refine (C8.out _).mono ?_
  rintro e w9 ⟨rfl, k9⟩
  have R9 := Lib.hid (rangeAt_kept R8.out k9)
  have K9 := Lib.hid (K8.out.trans k9)
  clear C8 R8 K8 k9
  go_wp2_with fail
  refine (HT2.out _ K9.out).mono ?_
  rintro e w10 ⟨rfl, k10⟩
  have K10 := Lib.hid (K9.out.trans k10)
  clear k10 R9 K9 HT2
  go_wp2
  go_ret
  exact ⟨rfl, K10.out⟩
end Go.Proofs.Ytacdmolkagcafaa
