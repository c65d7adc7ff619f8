/-
  Contracts of package wheel, over this seat's translation: least.
-/
import Derived.Test.YtpabnhiaafnjpaaWheel10
namespace Go.Proofs.Ytpabnhiaafnjpaa
open Go.RowKit Go.Lib
set_option maxRecDepth 100000
set_option linter.unusedVariables false

/-- The least time of the first so many of some alarms. -/
def minT (A : Nat → Nat × Nat) (F : List Nat) : Nat → Nat
  | 0 => (A (F.getD 0 0)).1
  | j + 1 => min (minT A F j) (A (F.getD (j + 1) 0)).1

section
variable {w : World} {wb ab lb n now : Nat} {A : Nat → Nat × Nat} {L : Nat → List Nat} {C : Nat → Nat}

set_option maxHeartbeats 4000000 in
theorem wleast_any {B q cp : Nat} {F : List Nat} (H : WhMem w wb ab lb n now A L C) (R : RowOf w B q cp F) (h0 : 0 < F.length) (hl : F.length ≤ 100000) (hF : ∀ k ∈ F, k < n) :
    Calls Try.prog 45 #[.pointer (some ⟨wb, 0, none⟩), .slice (some ⟨q, 0, none⟩) F.length cp] w fun e w' => e = .returned (.int .u64 (minT A F (F.length - 1) : Nat)) ∧ w.grownBy w' none := by
  have hd0 := R.cell 0 h0
  have hk0 : F[0] < n := hF _ (List.getElem_mem h0)
  have e0 : F.getD 0 0 = F[0] := by simp [List.getD, h0]
  obtain ⟨x0, x1⟩ := H.a0 F[0] hk0
  have c1 := H.c1
  have q0 : (0 : Int) ≤ (F[0] : Int) := by omega
  have q1 : (F[0] : Int) < (n : Int) := by omega
  have f0 : (0 : Int) < (F.length : Int) := by omega
  have HH := Lib.hid H
  have HR := Lib.hid R
  have HF := Lib.hid hF
  have HM0 : Hid (minT A F 0 = (A F[0]).1) := Lib.hid (by show (A (F.getD 0 0)).1 = _; rw [e0])
  clear H R hF e0
  go_enter Try.func45, Try.ntmps45
  go_wp2
  go_quiet (fail)
  have kq : w.grownBy (w.drewN nq) none := ⟨rfl, rfl, rfl, Nat.le_refl _, fun _ _ _ => rfl⟩
  have H2 := Lib.hid (HH.out.kept kq)
  have R2 := Lib.hid (HR.out.kept kq (by simp))
  have KQ := Lib.hid kq
  generalize w.drewN nq = w2 at *
  have hcp : F.length ≤ cp := by
    rcases HR.out.2 with ⟨h, _⟩ | ⟨g, cap, cur, hv, _, _, hc, _⟩
    · cases h
    · injection hv with _ _ h3; omega
  have hcm : Hid (cp ≤ maxLen) := Lib.hid (by
    rcases HR.out.2 with ⟨h, _⟩ | ⟨g, cap, cur, hv, _, _, _, hc, _⟩
    · cases h
    · injection hv with _ _ h3; omega)
  rw [← HM0.out]
  clear x0 x1 hd0 q0 q1 c1 HH HR kq hk0
  by_cases h1 : F.length = 1
  · have HL1 := Lib.hid h1
    have i1 : (F.length : Int) = 1 := by omega
    have i2 : (1 : Int) ≤ (F.length : Int) := by omega
    have i3 : (F.length : Int) ≤ (cp : Int) := by omega
    have HFIN : Hid (minT A F (F.length - 1) = minT A F 0) := Lib.hid (by rw [h1])
    clear h1
    go_wp2
    all_goals
      go_loop [5, 21] (fun s it => it = .int .i64 0 ∧ s = .int .u64 (minT A F 0 : Nat)) (fun s it => 0)
      case atStart => exact ⟨rfl, rfl⟩
      case round =>
        obtain ⟨rfl, rfl⟩ := hrel
        go_wp2
        go_ret
        exact ⟨by rw [HFIN.out]; rfl, KQ.out⟩
  · have i2 : (2 : Int) ≤ (F.length : Int) := by omega
    have i3 : (F.length : Int) ≤ (cp : Int) := by omega
    have i4 : ¬ cp = 1 := by omega
    have i5 : (1 : Int) ≤ (F.length : Int) := by omega
    have HLEN : Hid (2 ≤ F.length) := Lib.hid (by omega)
    go_wp2
    obtain ⟨fl, hfl⟩ : ∃ fl, F.length - 1 = fl := ⟨_, rfl⟩
    have HFL := Lib.hid hfl
    rw [hfl]
    clear hfl i2 i3 i4 i5 h1
    go_loop [5, 21] (fun s it => ∃ j : Nat, j ≤ fl ∧ it = .int .i64 j ∧ s = .int .u64 (minT A F j : Nat)) (fun s it => fl - (Go.RowKit.intOf it).toNat)
    case atStart => exact ⟨0, Nat.zero_le _, rfl, rfl⟩
    case round =>
      obtain ⟨j, hj, rfl, rfl⟩ := hrel
      by_cases hjl : j < fl
      · have hj1 : j + 1 < F.length := by have := HFL.out; have := HLEN.out; omega
        obtain ⟨k, hk⟩ : ∃ k, F[j + 1] = k := ⟨_, rfl⟩
        have d0 : w2.cell? ⟨q, 1 + j, none⟩ = some (.int .i64 (k : Nat)) := by rw [← hk, Nat.add_comm 1 j]; exact R2.out.cell (j + 1) hj1
        have hkn : k < n := by rw [← hk]; exact HF.out _ (List.getElem_mem hj1)
        obtain ⟨x0, x1⟩ := H2.out.a0 k hkn
        have c1 := H2.out.c1
        have q0 : (0 : Int) ≤ (k : Int) := by omega
        have q1 : (k : Int) < (n : Int) := by omega
        have hmn : Hid (minT A F (j + 1) = min (minT A F j) (A k).1) := Lib.hid (by
          show min (minT A F j) (A (F.getD (j + 1) 0)).1 = _
          rw [← hk]; simp [List.getD, hj1])
        have hjb : (j : Int) < 200000 := by omega
        generalize (A k).1 = y at *
        generalize hm : minT A F j = m at *
        clear hk hm x1 hj1
        have hmy : Hid (min (m : Int) (y : Int) = ((minT A F (j + 1) : Nat) : Int)) := Lib.hid (by rw [hmn.out]; omega)
        go_wp2
        go_round
        case rel => exact ⟨j + 1, by omega, by go_num, by rw [hmy.out]⟩
        case measure => simp [Go.RowKit.intOf]; omega
      · obtain rfl : j = fl := by omega
        clear hjl
        go_wp2
        go_ret
        exact ⟨by rw [HFL.out]; rfl, KQ.out⟩
end
end Go.Proofs.Ytpabnhiaafnjpaa
