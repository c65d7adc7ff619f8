/-
  A wheel, by its alarms: which are set, for when, and on which list each stands.
-/
import Derived.Test.YtkkodhjolgcokaaDoorWheel7
namespace Go.Proofs.YtkkodhjolgcokaaDoor
open Go.RowKit Go.Lib
set_option linter.unusedVariables false

/-- The alarms that are set (S), the list of each (pl), and how a wheel's lists and counts tell it. -/
structure WInv (n : Nat) (A : Nat → Nat × Nat) (L : Nat → List Nat) (C : Nat → Nat) (S : Nat → Option (Nat × Nat)) (pl : Nat → Nat) : Prop where
  on : ∀ k v, k < n → S k = some v → A k = v ∧ pl k < 768 ∧ k ∈ L (pl k)
  is : ∀ i, i < 768 → ∀ k, k ∈ L i → k < n ∧ (∃ v, S k = some v) ∧ i = pl k
  nd : ∀ i, i < 768 → (L i).Nodup
  cnt : ∀ r, r < 12 → C r = (flatL L r 64).length

theorem flat_mem {L : Nat → List Nat} {r k : Nat} : ∀ j, k ∈ flatL L r j ↔ ∃ b, b < j ∧ k ∈ L (r * 64 + b)
  | 0 => by simp [flatL]
  | j + 1 => by
    simp only [flatL, List.mem_append]
    rw [flat_mem j]
    constructor
    · rintro (⟨b, hb, h⟩ | h)
      · exact ⟨b, by omega, h⟩
      · exact ⟨j, by omega, h⟩
    · rintro ⟨b, hb, h⟩
      by_cases e : b = j
      · subst e; exact Or.inr h
      · exact Or.inl ⟨b, by omega, h⟩

theorem WInv.flat_nodup {n : Nat} {A : Nat → Nat × Nat} {L : Nat → List Nat} {C : Nat → Nat} {S : Nat → Option (Nat × Nat)} {pl : Nat → Nat} (I : WInv n A L C S pl) {r : Nat} (hr : r < 12) : ∀ j, j ≤ 64 → (flatL L r j).Nodup
  | 0, _ => by simp [flatL]
  | j + 1, hj => by
    simp only [flatL]
    rw [List.nodup_append]
    refine ⟨I.flat_nodup hr j (by omega), I.nd _ (by omega), fun a ha b hb e => ?_⟩
    subst e
    obtain ⟨c, hc, hc2⟩ := (flat_mem j).1 ha
    have h1 := (I.is (r * 64 + c) (by omega) a hc2).2.2
    have h2 := (I.is (r * 64 + j) (by omega) a hb).2.2
    omega
theorem WInv.le {n : Nat} {A : Nat → Nat × Nat} {L : Nat → List Nat} {C : Nat → Nat} {S : Nat → Option (Nat × Nat)} {pl : Nat → Nat} (I : WInv n A L C S pl) {r : Nat} (hr : r < 12) : C r ≤ n := by
  rw [I.cnt r hr]
  refine few_of_nodup n _ (I.flat_nodup hr 64 (by omega)) (fun k hk => ?_)
  obtain ⟨b, hb, hkb⟩ := (flat_mem 64).1 hk
  exact (I.is _ (by omega) k hkb).1
/-- A row whose count is not nought has one at least; a list that has one, its row too. -/
theorem WInv.pos {n : Nat} {A : Nat → Nat × Nat} {L : Nat → List Nat} {C : Nat → Nat} {S : Nat → Option (Nat × Nat)} {pl : Nat → Nat} (I : WInv n A L C S pl) {i k : Nat} (hi : i < 768) (hk : k ∈ L i) : 1 ≤ C (i / 64) := by
  rw [I.cnt (i / 64) (by omega)]
  have : k ∈ flatL L (i / 64) 64 := (flat_mem 64).2 ⟨i % 64, by omega, by rw [show i / 64 * 64 + i % 64 = i by omega]; exact hk⟩
  exact List.length_pos_iff_exists_mem.2 ⟨k, this⟩

/-- How long a row's lists are together, where one of them has turned. -/
theorem flat_up {L : Nat → List Nat} (i r : Nat) (l : List Nat) : ∀ j, j ≤ 64 → (flatL (upL L i l) r j).length + (if i / 64 = r ∧ i % 64 < j then (L i).length else 0) = (flatL L r j).length + (if i / 64 = r ∧ i % 64 < j then l.length else 0)
  | 0, _ => by simp [flatL]
  | j + 1, hj => by
    have ih := flat_up (L := L) i r l j (by omega)
    simp only [flatL, List.length_append]
    by_cases h : i = r * 64 + j
    · have h1 : i / 64 = r := by omega
      have h2 : i % 64 = j := by omega
      rw [if_neg (by omega), if_neg (by omega)] at ih
      rw [if_pos (by omega), if_pos (by omega), ← h]
      have e : upL L i l i = l := by simp [upL]
      rw [e]; omega
    · have e : upL L i l (r * 64 + j) = L (r * 64 + j) := by unfold upL; rw [if_neg (fun x => h x.symm)]
      rw [e]
      by_cases h3 : i / 64 = r ∧ i % 64 < j
      · rw [if_pos h3, if_pos h3] at ih
        rw [if_pos (by omega), if_pos (by omega)]; omega
      · rw [if_neg h3, if_neg h3] at ih
        rw [if_neg (by omega), if_neg (by omega)]; omega

def upS (S : Nat → Option (Nat × Nat)) (k : Nat) (v : Option (Nat × Nat)) : Nat → Option (Nat × Nat) := fun i => if i = k then v else S i
def upP (pl : Nat → Nat) (k i : Nat) : Nat → Nat := fun j => if j = k then i else pl j

theorem WInv.set {n : Nat} {A : Nat → Nat × Nat} {L : Nat → List Nat} {C : Nat → Nat} {S : Nat → Option (Nat × Nat)} {pl : Nat → Nat} (I : WInv n A L C S pl) {k i : Nat} (v : Nat × Nat) (hk : k < n) (hS : S k = none) (hi : i < 768) :
    WInv n (upA A k v) (upL L i (L i ++ [k])) (upN C (i / 64) (C (i / 64) + 1)) (upS S k (some v)) (upP pl k i) := by
  have hno : ∀ j, j < 768 → k ∉ L j := fun j hj h => by obtain ⟨v', hv⟩ := (I.is j hj k h).2.1; rw [hS] at hv; cases hv
  have up1 : ∀ j, j ≠ i → upL L i (L i ++ [k]) j = L j := fun j hj => by unfold upL; rw [if_neg hj]
  have up2 : upL L i (L i ++ [k]) i = L i ++ [k] := by simp [upL]
  refine ⟨fun k' v' hk' hv' => ?_, fun j hj k' hk' => ?_, fun j hj => ?_, fun r hr => ?_⟩
  · by_cases e : k' = k
    · subst e
      simp only [upS, if_true] at hv'
      injection hv' with hv'
      subst hv'
      simp only [upA, upP, if_true]
      exact ⟨trivial, hi, by rw [up2]; simp⟩
    · simp only [upS, if_neg e] at hv'
      obtain ⟨h1, h2, h3⟩ := I.on k' v' hk' hv'
      simp only [upA, upP, if_neg e]
      refine ⟨h1, h2, ?_⟩
      by_cases e2 : pl k' = i
      · rw [e2, up2]; rw [e2] at h3; exact List.mem_append_left _ h3
      · rw [up1 _ e2]; exact h3
  · by_cases e : k' = k
    · subst e
      by_cases e2 : j = i
      · subst e2; exact ⟨hk, ⟨v, by simp [upS]⟩, by simp [upP]⟩
      · rw [up1 j e2] at hk'; exact absurd hk' (hno j hj)
    · have hk2 : k' ∈ L j := by
        by_cases e2 : j = i
        · subst e2; rw [up2] at hk'; rcases List.mem_append.1 hk' with h | h; exact h; simp at h; exact absurd h e
        · rw [up1 j e2] at hk'; exact hk'
      obtain ⟨h1, h2, h3⟩ := I.is j hj k' hk2
      exact ⟨h1, by simpa [upS, e] using h2, by simpa [upP, e] using h3⟩
  · by_cases e2 : j = i
    · subst e2
      rw [up2, List.nodup_append]
      exact ⟨I.nd j hj, by simp, fun a ha b hb e => by simp at hb; subst hb; subst e; exact hno j hj ha⟩
    · rw [up1 j e2]; exact I.nd j hj
  · have h1 := flat_up (L := L) i r (L i ++ [k]) 64 (by omega)
    have h2 := I.cnt r hr
    unfold upN
    by_cases e : r = i / 64
    · subst e
      rw [if_pos rfl]
      rw [if_pos (by omega), if_pos (by omega), List.length_append] at h1
      simp only [List.length_singleton] at h1
      omega
    · rw [if_neg e]
      rw [if_neg (by omega), if_neg (by omega)] at h1
      omega
theorem WInv.unset {n : Nat} {A : Nat → Nat × Nat} {L : Nat → List Nat} {C : Nat → Nat} {S : Nat → Option (Nat × Nat)} {pl : Nat → Nat} (I : WInv n A L C S pl) {k i : Nat} (hi : i < 768) (hk : k ∈ L i) :
    WInv n (upA A k (0, 0)) (upL L i ((L i).erase k)) (upN C (i / 64) (C (i / 64) - 1)) (upS S k none) pl := by
  have hpl := (I.is i hi k hk).2.2
  have up1 : ∀ j, j ≠ i → upL L i ((L i).erase k) j = L j := fun j hj => by unfold upL; rw [if_neg hj]
  have up2 : upL L i ((L i).erase k) i = (L i).erase k := by simp [upL]
  have hin : ∀ j, j < 768 → ∀ k', k' ∈ upL L i ((L i).erase k) j → k' ≠ k ∧ k' ∈ L j := fun j hj k' h => by
    by_cases e2 : j = i
    · subst e2
      rw [up2] at h
      have := (I.nd j hj).mem_erase_iff.1 h
      exact ⟨this.1, this.2⟩
    · rw [up1 j e2] at h
      refine ⟨fun e => ?_, h⟩
      subst e
      exact e2 ((I.is j hj k' h).2.2.trans hpl.symm)
  refine ⟨fun k' v' hk' hv' => ?_, fun j hj k' hk' => ?_, fun j hj => ?_, fun r hr => ?_⟩
  · by_cases e : k' = k
    · subst e; simp [upS] at hv'
    · simp only [upS, if_neg e] at hv'
      obtain ⟨h1, h2, h3⟩ := I.on k' v' hk' hv'
      simp only [upA, if_neg e]
      refine ⟨h1, h2, ?_⟩
      by_cases e2 : pl k' = i
      · rw [e2, up2]; rw [e2] at h3; exact (List.mem_erase_of_ne e).2 h3
      · rw [up1 _ e2]; exact h3
  · obtain ⟨hne, hm⟩ := hin j hj k' hk'
    obtain ⟨h1, h2, h3⟩ := I.is j hj k' hm
    exact ⟨h1, by simpa [upS, hne] using h2, h3⟩
  · by_cases e2 : j = i
    · subst e2; rw [up2]; exact (I.nd j hj).erase k
    · rw [up1 j e2]; exact I.nd j hj
  · have h1 := flat_up (L := L) i r ((L i).erase k) 64 (by omega)
    have h2 := I.cnt r hr
    have h3 := List.length_erase_of_mem hk
    have h4 := List.length_pos_iff_exists_mem.2 ⟨k, hk⟩
    unfold upN
    by_cases e : r = i / 64
    · subst e
      rw [if_pos rfl]
      rw [if_pos (by omega), if_pos (by omega)] at h1
      omega
    · rw [if_neg e]
      rw [if_neg (by omega), if_neg (by omega)] at h1
      omega
end Go.Proofs.YtkkodhjolgcokaaDoor
