/-
  Contracts of nightjarref05, over this seat's translation: Find, Revoke.
-/
import Derived.Test.YtbkjdbimkofceaaDoorRef5b
namespace Go.Proofs.YtbkjdbimkofceaaDoor
open Go.RowKit Go.Lib
set_option maxRecDepth 100000

set_option maxHeartbeats 2000000 in
theorem rfind5_any (h : Nat) {w : World} {r n cp G : Nat} {T : Nat → Pl} (H : PlAt5 w r n T) (hn : n ≤ 15) (ok : ∀ j, j < n → (T j).ok G) (hG : G ≤ 16777215) :
    Calls Tryd.prog 30 #[.agg #[.slice (some ⟨r, 0, none⟩) n cp, .int .i64 (G : Nat)], .int .u64 (h : Nat)] w fun e w' => w.grownBy w' none ∧ ((∃ p : Nat, e = .returned (.int .i64 p) ∧ p < n ∧ (T p).out = true ∧ hbits p (T p).gen (T p).r = h) ∨ (e = .returned (.int .i64 (-1)) ∧ ∀ p, p < n → (T p).out = true → hbits p (T p).gen (T p).r ≠ h)) := by
  have ka := World.grownBy_alloc w (.cells #[.slice (some ⟨r, 0, none⟩) n cp, .int .i64 (G : Nat)] 29) none
  have o0 : (w.alloc (.cells #[.slice (some ⟨r, 0, none⟩) n cp, .int .i64 (G : Nat)] 29)).cell? ⟨w.heap.size, 0, none⟩ = some (.slice (some ⟨r, 0, none⟩) n cp) := by simp
  have hob : w.heap.size < (w.alloc (.cells #[.slice (some ⟨r, 0, none⟩) n cp, .int .i64 (G : Nat)] 29)).heap.size := by simp
  have HP := Lib.hid (H.kept ka)
  have KA := Lib.hid ka
  have HO := Lib.hid ok
  clear ka H ok
  go_enter Tryd.func30, Tryd.ntmps30
  go_wp2_with fail
  generalize w.alloc (.cells #[.slice (some ⟨r, 0, none⟩) n cp, .int .i64 (G : Nat)] 29) = w1 at *
  generalize w.heap.size = ob at *
  go_loopw [5] (fun it wr => ∃ i : Nat, i ≤ n ∧ it = .int .i64 i ∧ Hid (∀ p, p < i → (T p).out = true → hbits p (T p).gen (T p).r ≠ h) ∧ w1.grownBy wr none) (fun it _ => n - (intOf it).toNat)
  case atStart => exact ⟨0, Nat.zero_le _, rfl, Lib.hid fun p hp => absurd hp (Nat.not_lt_zero p), SR.grow_refl _⟩
  case round =>
    obtain ⟨i, hi, rfl, hb, hG⟩ := hrel
    have o1 := (hG.cell_far ⟨ob, 0, none⟩ hob (by simp)).trans o0
    by_cases hlt : i < n
    · have qi : (i : Int) < (n : Int) := by omega
      obtain ⟨c0, c1, c2, c3, c4⟩ := (HP.out.kept hG).pl i hlt
      obtain ⟨a1, a2, a3⟩ := HO.out i hlt
      have CB := Lib.hid fun v => rbits5 i (T i).gen (T i).r v (by omega) (by omega) a3
      have k3 := World.grownBy_alloc wr (.cells #[.int .i64 ((T i).gen : Nat), .bool (T i).out, .int .i64 (T i).k, .int .i64 (T i).i, .int .i64 ((T i).r : Nat)] 76) none
      have K3 := Lib.hid (hG.trans k3)
      have hstep : (∀ p, p < i → (T p).out = true → hbits p (T p).gen (T p).r ≠ h) → ((T i).out = true → hbits i (T i).gen (T i).r ≠ h) → ∀ p, p < i + 1 → (T p).out = true → hbits p (T p).gen (T p).r ≠ h := fun h1 h2 p hp ho => by
        by_cases e : p = i
        · subst e; exact h2 ho
        · exact h1 p (by omega) ho
      have HS := Lib.hid hstep
      clear hstep k3 a2
      generalize hTo : (T i).out = o at *
      generalize hhb : hbits i (T i).gen (T i).r = hb1 at *
      have HTO := Lib.hid hTo
      have HHB := Lib.hid hhb
      clear hTo hhb
      cases o
      · have HN := Lib.hid (HS.out hb.out (fun e => by cases e))
        go_wp2
        go_roundw
        case rel => exact ⟨i + 1, by omega, by go_num, HN, K3.out⟩
        case measure => simp [intOf]; omega
      · by_cases he : hb1 = h
        · subst he
          go_wp2_with fail
          refine (CB.out _).mono ?_
          rintro e w' ⟨rfl, rfl⟩
          go_wp2
          go_ret
          exact ⟨KA.out.trans K3.out, Or.inl ⟨i, rfl, hlt, HTO.out, HHB.out⟩⟩
        · have HN := Lib.hid (HS.out hb.out (fun _ => he))
          have qe : (((hb1 : Nat) : Int) == ((h : Nat) : Int)) = false := by rw [beq_eq_false_iff_ne]; omega
          go_wp2_with fail
          refine (CB.out _).mono ?_
          rintro e w' ⟨rfl, rfl⟩
          go_wp2
          go_roundw
          case rel => exact ⟨i + 1, by omega, by go_num, HN, K3.out⟩
          case measure => simp [intOf]; omega
    · have hie : i = n := by omega
      subst hie
      go_wp2
      go_ret
      exact ⟨KA.out.trans hG, Or.inr ⟨rfl, hb.out⟩⟩
end Go.Proofs.YtbkjdbimkofceaaDoor
