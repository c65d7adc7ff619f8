/-
  Contracts of package wheel, over this seat's translation: goOn.
-/
import Derived.Test.YtkkodhjolgcokaaDoorWheel8
namespace Go.Proofs.YtkkodhjolgcokaaDoor
open Go.RowKit Go.Lib
set_option linter.unusedVariables false

/-- All that stands in the rows ahead of a row. -/
def rowsL (L : Nat → List Nat) : Nat → List Nat
  | 0 => []
  | r + 1 => rowsL L r ++ flatL L r 64

theorem rows_mem {L : Nat → List Nat} {k : Nat} : ∀ r, k ∈ rowsL L r ↔ ∃ i, i < r * 64 ∧ k ∈ L i
  | 0 => by simp [rowsL]
  | r + 1 => by
    simp only [rowsL, List.mem_append]
    rw [rows_mem r, flat_mem]
    constructor
    · rintro (⟨i, hi, h⟩ | ⟨b, hb, h⟩)
      · exact ⟨i, by omega, h⟩
      · exact ⟨r * 64 + b, by omega, h⟩
    · rintro ⟨i, hi, h⟩
      by_cases e : i < r * 64
      · exact Or.inl ⟨i, e, h⟩
      · exact Or.inr ⟨i - r * 64, by omega, by rw [show r * 64 + (i - r * 64) = i by omega]; exact h⟩

/-- upTo, whether the row has any or not. -/
theorem wupTo_any {w : World} {wb ab lb n now : Nat} {A : Nat → Nat × Nat} {L : Nat → List Nat} {C : Nat → Nat} {S : Nat → Option (Nat × Nat)} {pl : Nat → Nat} (r b : Nat) (H : WhMem w wb ab lb n now A L C) (I : WInv n A L C S pl) (hn : n ≤ 4096) (hr : r < 12) (hb : b < 64) :
    Calls Tryd.prog 69 #[.pointer (some ⟨wb, 0, none⟩), .int .i64 r, .int .i64 b] w fun e w' => ∃ v, e = .returned v ∧ w.grownBy w' none ∧ SrcAt w' 1 v (flatL L r (b + 1)).length (ints (flatL L r (b + 1))) := by
  rcases Nat.eq_zero_or_pos (C r) with h0 | h0
  · have hf : flatL L r (b + 1) = [] := by
      have h1 := I.cnt r hr
      rw [h0] at h1
      have h2 : flatL L r 64 = [] := List.length_eq_zero_iff.1 h1.symm
      rcases hq : flatL L r (b + 1) with _ | ⟨x, l⟩
      · rfl
      · have hx : x ∈ flatL L r (b + 1) := by rw [hq]; simp
        obtain ⟨c, hc, hxc⟩ := (flat_mem (b + 1)).1 hx
        have : x ∈ flatL L r 64 := (flat_mem 64).2 ⟨c, by omega, hxc⟩
        rw [h2] at this; cases this
    refine (wupTo_none r (b : Int) H hr h0).mono fun e w' ⟨he, hw⟩ => ⟨_, he, ?_, ?_⟩
    · subst hw; exact World.grownBy.refl _ _
    · rw [hf]; exact Or.inr ⟨0, rfl, rfl, rfl⟩
  · have hc := I.le hr
    refine (wupTo_some r b H hr hb h0 (by omega) (fun j hj => ?_)).mono fun e w' ⟨q, cp, he, hg, hR⟩ => ⟨_, he, hg, Or.inl ⟨⟨q, 0, none⟩, cp, rfl, by simp [ints], World.ownsRow.cells hR rfl, ints_one _⟩⟩
    have := H.links.few (r * 64 + j) (by omega)
    omega

section
variable {w : World} {wb ab lb n now : Nat} {A : Nat → Nat × Nat} {L : Nat → List Nat} {C : Nat → Nat} {S : Nat → Option (Nat × Nat)} {pl : Nat → Nat}
theorem WInv.rows_len (I : WInv n A L C S pl) : ∀ r, r ≤ 12 → (rowsL L r).length ≤ r * n
  | 0, _ => by simp [rowsL]
  | r + 1, hr => by
    have h1 := I.rows_len r (by omega)
    have h2 := I.cnt r (by omega)
    have h3 := I.le (r := r) (by omega)
    simp only [rowsL, List.length_append, Nat.add_mul]
    omega
theorem WInv.flat_le (I : WInv n A L C S pl) {r : Nat} (hr : r < 12) (j : Nat) (hj : j ≤ 64) : (flatL L r j).length ≤ n := by
  refine few_of_nodup n _ (I.flat_nodup hr j hj) (fun k hk => ?_)
  obtain ⟨b, hb, hkb⟩ := (flat_mem j).1 hk
  exact (I.is _ (by omega) k hkb).1
end
end Go.Proofs.YtkkodhjolgcokaaDoor
