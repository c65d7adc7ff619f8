/-
  A wheel as an object: New, Unset of what isn't set, goOn, First.
-/
import Derived.Test.YtkkodhjolgcokaaDoorWheel13
namespace Go.Proofs.YtkkodhjolgcokaaDoor
open Go.RowKit Go.Lib
set_option linter.unusedVariables false

theorem flat_nil (r : Nat) : ∀ j, flatL (fun _ => []) r j = []
  | 0 => rfl
  | j + 1 => by simp [flatL, flat_nil r j]
theorem WInv.new (n : Nat) (A : Nat → Nat × Nat) (pl : Nat → Nat) : WInv n A (fun _ => []) (fun _ => 0) (fun _ => none) pl :=
  ⟨fun k v _ h => (by cases h), fun i _ k h => (by cases h), fun i _ => List.nodup_nil, fun r _ => by rw [flat_nil]; rfl⟩

section
variable {w w' : World} {lo hi wb n now : Nat} {S : Nat → Option (Nat × Nat)}

theorem wl_new (a : Int) (now : Nat) (hn : now < 18446744073709551616) (w : World) :
    Calls Tryd.prog 35 #[.int .i64 a, .int .u64 (now : Nat)] w fun e w' => ∃ wb, e = .returned (.pointer (some ⟨wb, 0, none⟩)) ∧ w.grownBy w' none ∧ Wl w' w.heap.size w'.heap.size wb (clampC a) now (fun _ => none) := by
  refine (wnew_any a now hn w).mono fun e w' ⟨wb, ab, he, h1, h2, hg, M⟩ => ⟨wb, he, hg, ab, w.heap.size, _, _, _, fun _ => 0, M, WInv.new _ _ _, fun k v _ h => (by cases h), ?_, ⟨h1, h2, Nat.le_refl _⟩, ⟨M.l.1, M.l.2, LinksAt.sz M.links⟩, fun _ _ => rfl⟩
  unfold clampC; omega
theorem wl_unset_no (H : Wl w lo hi wb n now S) (k : Int) (hS : k < 0 ∨ S k.toNat = none) : Calls Tryd.prog 24 #[.pointer (some ⟨wb, 0, none⟩), .int .i64 k] w fun e w' => e = .returned (.bool false) ∧ w = w' := by
  obtain ⟨ab, lb, A, L, C, pl, M, I, _⟩ := H
  refine wunset_no k M fun i hi x hx e => ?_
  obtain ⟨v, hv⟩ := (I.is i hi x hx).2.1
  rcases hS with h | h
  · omega
  · rw [show k.toNat = x by omega, hv] at h; cases h
theorem wl_goOn (H : Wl w lo hi wb n now S) (tg : Nat) (htg : tg < 18446744073709551616) (hlt : now < tg) (hhw : hi ≤ w.heap.size) :
    Calls Tryd.prog 46 #[.pointer (some ⟨wb, 0, none⟩), .int .u64 (tg : Nat)] w fun e w' => (∃ v, e = .returned v) ∧ Only lo hi w w' ∧ Wl w' lo hi wb n tg S := by
  obtain ⟨ab, lb, A, L, C, pl, M, I, P, hn, a, b, c⟩ := H
  exact (wgoOn tg lo hi M I hn htg hlt P a b hhw).mono fun e w' ⟨he, ho, A', L', C', pl', M', I', P'⟩ => ⟨he, ho, ab, lb, A', L', C', pl', M', I', P', hn, a, b, c⟩

theorem minT_le (A : Nat → Nat × Nat) (F : List Nat) : ∀ j i, i ≤ j → minT A F j ≤ (A (F.getD i 0)).1
  | 0, i, h => by obtain rfl : i = 0 := by omega
                  exact Nat.le_refl _
  | j + 1, i, h => by
    show min (minT A F j) (A (F.getD (j + 1) 0)).1 ≤ _
    by_cases e : i = j + 1
    · subst e; omega
    · have := minT_le A F j i (by omega); omega
theorem minT_in (A : Nat → Nat × Nat) (F : List Nat) : ∀ j, ∃ i, i ≤ j ∧ minT A F j = (A (F.getD i 0)).1
  | 0 => ⟨0, Nat.le_refl _, rfl⟩
  | j + 1 => by
    obtain ⟨i, hi, h⟩ := minT_in A F j
    show ∃ i, i ≤ j + 1 ∧ min (minT A F j) (A (F.getD (j + 1) 0)).1 = _
    rcases Nat.lt_or_ge (minT A F j) (A (F.getD (j + 1) 0)).1 with h1 | h1
    · exact ⟨i, by omega, by rw [← h]; omega⟩
    · exact ⟨j + 1, Nat.le_refl _, by omega⟩

end
end Go.Proofs.YtkkodhjolgcokaaDoor
