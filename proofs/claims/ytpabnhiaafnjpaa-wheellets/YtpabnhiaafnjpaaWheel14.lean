/-
  A wheel as an object: New, Unset of what isn't set, goOn, First.
-/
import Derived.Test.YtpabnhiaafnjpaaWheel13
namespace Go.Proofs.Ytpabnhiaafnjpaa
open Go.RowKit Go.Lib
set_option linter.unusedVariables false

theorem flat_nil (r : Nat) : ∀ j, flatL (fun _ => []) r j = []
  | 0 => rfl
  | j + 1 => by simp [flatL, flat_nil r j]
theorem WInv.new (n : Nat) (A : Nat → Nat × Nat) (pl : Nat → Nat) : WInv n A (fun _ => []) (fun _ => 0) (fun _ => none) pl :=
  ⟨fun k v _ h => (by cases h), fun i _ k h => (by cases h), fun i _ => List.nodup_nil, fun r _ => by rw [flat_nil]; rfl⟩

section
variable {w w' : World} {lo hi wb n now : Nat} {S : Nat → Option (Nat × Nat)}

theorem wl_new (a : Int) (now : Nat) (hn : now < 18446744073709551616) (w : World) :
    Calls Try.prog 11 #[.int .i64 a, .int .u64 (now : Nat)] w fun e w' => ∃ wb, e = .returned (.pointer (some ⟨wb, 0, none⟩)) ∧ w.grownBy w' none ∧ Wl w' w.heap.size w'.heap.size wb (clampN a) now (fun _ => none) := by
  refine (wnew_any a now hn w).mono fun e w' ⟨wb, ab, he, h1, h2, hg, M⟩ => ⟨wb, he, hg, ab, w.heap.size, _, _, _, fun _ => 0, M, WInv.new _ _ _, fun k v _ h => (by cases h), ?_, ⟨h1, h2, Nat.le_refl _⟩, ⟨M.l.1, M.l.2, LinksAt.sz M.links⟩, fun _ _ => rfl⟩
  unfold clampN; omega
theorem wl_unset_no (H : Wl w lo hi wb n now S) (k : Int) (hS : k < 0 ∨ S k.toNat = none) : Calls Try.prog 17 #[.pointer (some ⟨wb, 0, none⟩), .int .i64 k] w fun e w' => e = .returned (.bool false) ∧ w = w' := by
  obtain ⟨ab, lb, A, L, C, pl, M, I, _⟩ := H
  refine wunset_no k M fun i hi x hx e => ?_
  obtain ⟨v, hv⟩ := (I.is i hi x hx).2.1
  rcases hS with h | h
  · omega
  · rw [show k.toNat = x by omega, hv] at h; cases h
theorem wl_goOn (H : Wl w lo hi wb n now S) (tg : Nat) (htg : tg < 18446744073709551616) (hlt : now < tg) (hhw : hi ≤ w.heap.size) :
    Calls Try.prog 38 #[.pointer (some ⟨wb, 0, none⟩), .int .u64 (tg : Nat)] w fun e w' => (∃ v, e = .returned v) ∧ Only lo hi w w' ∧ Wl w' lo hi wb n tg S := by
  obtain ⟨ab, lb, A, L, C, pl, M, I, P, hn, a, b, c⟩ := H
  exact (wgoOn tg lo hi M I hn htg hlt P a b hhw).mono fun e w' ⟨he, ho, A', L', C', pl', M', I', P'⟩ => ⟨he, ho, ab, lb, A', L', C', pl', M', I', P', hn, a, b, c⟩

theorem minT_le (A : Nat → Nat × Nat) (F : List Nat) : ∀ j i, i ≤ j → minT A F j ≤ (A (F.getD i 0)).1
  | 0, i, h => by obtain rfl : i = 0 := by omega
                  exact Nat.le_refl _
  | j + 1, i, h => by
    show min (minT A F j) (A (F.getD (j + 1) 0)).1 ≤ _
    by_cases e : i = j + 1
    · subst e; omega
    · have := minT_le A F j i (by omega); omega
theorem minT_in (A : Nat → Nat × Nat) (F : List Nat) : ∀ j, ∃ i, i ≤ j ∧ minT A F j = (A (F.getD i 0)).1
  | 0 => ⟨0, Nat.le_refl _, rfl⟩
  | j + 1 => by
    obtain ⟨i, hi, h⟩ := minT_in A F j
    show ∃ i, i ≤ j + 1 ∧ min (minT A F j) (A (F.getD (j + 1) 0)).1 = _
    rcases Nat.lt_or_ge (minT A F j) (A (F.getD (j + 1) 0)).1 with h1 | h1
    · exact ⟨i, by omega, by rw [← h]; omega⟩
    · exact ⟨j + 1, Nat.le_refl _, by omega⟩

/-- First: the time of an alarm that is set, and none is set for an earlier one. -/
theorem wl_first_some (H : Wl w lo hi wb n now S) (k : Nat) (v : Nat × Nat) (hk : k < n) (hS : S k = some v) (hmin : ∀ k' v', S k' = some v' → v.1 ≤ v'.1) :
    Calls Try.prog 23 #[.pointer (some ⟨wb, 0, none⟩)] w fun e w' => e = .returned (.tuple #[.int .u64 (v.1 : Nat), .bool true]) ∧ w.grownBy w' none := by
  obtain ⟨ab, lb, A, L, C, pl, M, I, P, hn, a, b, c⟩ := H
  have hnow := M.bd.1
  obtain ⟨hA, hp, hm⟩ := I.on k v hk hS
  have hb := M.bd.2 k hk
  rw [hA] at hb
  have hpk := P k v hk hS
  refine wfirst_any M I hn v.1 true (Or.inl ⟨pl k, hp, List.length_pos_iff_exists_mem.2 ⟨k, hm⟩, fun j hj => ?_, rfl, ?_⟩)
  · rcases hq : L j with _ | ⟨x, l⟩
    · rfl
    · exfalso
      have hx : x ∈ L j := by rw [hq]; simp
      obtain ⟨hxn, ⟨v', hv'⟩, hpx⟩ := I.is j (by omega) x hx
      have hAx := (I.on x v' hxn hv').1
      have hbx := M.bd.2 x hxn
      rw [hAx] at hbx
      have h1 := P x v' hxn hv'
      have h2 := slot_order hbx.1 hb.1 hnow (by omega)
      have h3 := hmin x v' hv'
      omega
  · have h0 : 0 < (L (pl k)).length := List.length_pos_iff_exists_mem.2 ⟨k, hm⟩
    obtain ⟨i, hi', h1⟩ := minT_in A (L (pl k)) ((L (pl k)).length - 1)
    have hil : i < (L (pl k)).length := by omega
    have hg : (L (pl k)).getD i 0 = (L (pl k))[i] := by simp [List.getD, hil]
    have hmi : (L (pl k))[i] ∈ L (pl k) := List.getElem_mem hil
    obtain ⟨hxn, ⟨v', hv'⟩, _⟩ := I.is (pl k) hp _ hmi
    have hAx := (I.on _ v' hxn hv').1
    have h3 := hmin _ v' hv'
    obtain ⟨i2, hi2, hk2⟩ := List.mem_iff_getElem.1 hm
    have h4 := minT_le A (L (pl k)) ((L (pl k)).length - 1) i2 (by omega)
    have hg2 : (L (pl k)).getD i2 0 = k := by simp [List.getD, hi2, hk2]
    rw [hg2, hA] at h4
    rw [hg, hAx] at h1
    omega
theorem wl_first_none (H : Wl w lo hi wb n now S) (hS : ∀ k, S k = none) :
    Calls Try.prog 23 #[.pointer (some ⟨wb, 0, none⟩)] w fun e w' => e = .returned (.tuple #[.int .u64 ((0 : Nat) : Int), .bool false]) ∧ w.grownBy w' none := by
  obtain ⟨ab, lb, A, L, C, pl, M, I, P, hn, _⟩ := H
  refine wfirst_any M I hn 0 false (Or.inr ⟨fun i hi => ?_, rfl, rfl⟩)
  rcases hq : L i with _ | ⟨x, l⟩
  · rfl
  · obtain ⟨v, hv⟩ := (I.is i hi x (by rw [hq]; simp)).2.1
    rw [hS] at hv; cases hv
end
end Go.Proofs.Ytpabnhiaafnjpaa
