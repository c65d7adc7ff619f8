/-
  A wheel as an object: Len.
-/
import Derived.Test.YtkkodhjolgcokaaDoorWheel14
namespace Go.Proofs.YtkkodhjolgcokaaDoor
open Go.RowKit Go.Lib
set_option linter.unusedVariables false

/-- How many alarms are set. -/
def setN (S : Nat → Option (Nat × Nat)) (n : Nat) : Nat := sumN (fun k => if (S k).isSome then 1 else 0) n

theorem nodup_count (p : Nat → Bool) : ∀ (n : Nat) (l : List Nat), l.Nodup → (∀ x, x ∈ l ↔ x < n ∧ p x = true) → l.length = sumN (fun k => if p k then 1 else 0) n
  | 0, l, _, h => by
    rcases l with _ | ⟨x, l⟩
    · rfl
    · have := (h x).1 (by simp); omega
  | n + 1, l, hd, h => by
    show l.length = sumN (fun k => if p k then 1 else 0) n + (if p n then 1 else 0)
    by_cases hp : p n = true
    · have hm : n ∈ l := (h n).2 ⟨by omega, hp⟩
      have ih := nodup_count p n (l.erase n) (hd.erase n) (fun x => by
        rw [hd.mem_erase_iff, h x]
        constructor
        · rintro ⟨h1, h2, h3⟩; exact ⟨by omega, h3⟩
        · rintro ⟨h1, h2⟩; exact ⟨by omega, by omega, h2⟩)
      rw [List.length_erase_of_mem hm] at ih
      have h4 := List.length_pos_iff_exists_mem.2 ⟨n, hm⟩
      rw [if_pos hp]; omega
    · rw [if_neg hp, Nat.add_zero]
      exact nodup_count p n l hd (fun x => by
        rw [h x]
        constructor
        · rintro ⟨h1, h2⟩
          refine ⟨?_, h2⟩
          rcases Nat.lt_or_ge x n with h3 | h3
          · exact h3
          · obtain rfl : x = n := by omega
            exact absurd h2 hp
        · rintro ⟨h1, h2⟩; exact ⟨by omega, h2⟩)

section
variable {w w' : World} {lo hi wb n now : Nat} {A : Nat → Nat × Nat} {L : Nat → List Nat} {C pl : Nat → Nat} {S : Nat → Option (Nat × Nat)}
theorem WInv.rows_nodup (I : WInv n A L C S pl) : ∀ r, r ≤ 12 → (rowsL L r).Nodup
  | 0, _ => by simp [rowsL]
  | r + 1, hr => by
    simp only [rowsL]
    rw [List.nodup_append]
    refine ⟨I.rows_nodup r (by omega), I.flat_nodup (by omega) 64 (Nat.le_refl _), fun a ha b hb e => ?_⟩
    subst e
    obtain ⟨i, hi, h1⟩ := (rows_mem r).1 ha
    obtain ⟨c, hc, h2⟩ := (flat_mem 64).1 hb
    have e1 := (I.is i (by omega) a h1).2.2
    have e2 := (I.is (r * 64 + c) (by omega) a h2).2.2
    omega
theorem WInv.rows_sum (I : WInv n A L C S pl) : ∀ r, r ≤ 12 → (rowsL L r).length = sumN C r
  | 0, _ => rfl
  | r + 1, hr => by
    show (rowsL L r ++ flatL L r 64).length = sumN C r + C r
    rw [List.length_append, I.rows_sum r (by omega), I.cnt r (by omega)]
theorem wl_len (H : Wl w lo hi wb n now S) : Calls Tryd.prog 29 #[.pointer (some ⟨wb, 0, none⟩)] w fun e w' => e = .returned (.int .i64 (setN S n : Nat)) ∧ w = w' := by
  obtain ⟨ab, lb, A, L, C, pl, M, I, P, hn, _, _, c⟩ := H
  have h := wlen_any M (fun r hr => Nat.le_trans (I.le hr) hn)
  have e : sumN C 12 = setN S n := by
    rw [← I.rows_sum 12 (Nat.le_refl _)]
    exact nodup_count (fun k => (S k).isSome) n _ (I.rows_nodup 12 (Nat.le_refl _)) (fun x => by
      rw [rows_mem]
      constructor
      · rintro ⟨i, hi, hx⟩
        obtain ⟨h1, ⟨v, hv⟩, _⟩ := I.is i (by omega) x hx
        exact ⟨h1, by rw [hv]; rfl⟩
      · rintro ⟨h1, h2⟩
        obtain ⟨v, hv⟩ := Option.isSome_iff_exists.1 h2
        obtain ⟨_, hp, hm⟩ := I.on x v h1 hv
        exact ⟨pl x, by omega, hm⟩)
  rw [e] at h
  exact h
end
end Go.Proofs.YtkkodhjolgcokaaDoor
