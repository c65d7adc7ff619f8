/-
  The sort of a row of alarms' numbers: what it leaves in memory; the call.
-/
import Derived.Test.YtkkodhjolgcokaaDoorWheelTo2
import Derived.Test.YtkkodhjolgcokaaDoorShelf
namespace Go.Proofs.YtkkodhjolgcokaaDoor
open Go.RowKit Go.Lib Go.Sort Go.Shelf
set_option linter.unusedVariables false
theorem putCells_F {n : Nat} [Inhabited (Fin n)] (D : List (Fin n)) : putCells (encF n) 0 D.toArray = putCells (Value.int .i64) 0 (D.map fun x => (x.val : Int)).toArray := by
  funext c
  unfold putCells
  congr 1
  funext k x
  have e : (D.map fun x => (x.val : Int)).toArray.size = D.toArray.size := by simp
  rw [e]
  by_cases h : 0 ≤ k ∧ k < 0 + D.toArray.size
  · rw [if_pos h, if_pos h]
    have hk : k < D.length := by simpa using h.2
    simp only [Nat.sub_zero]
    rw [getElem!_pos D.toArray k (by simpa using hk), getElem!_pos (D.map fun x => (x.val : Int)).toArray k (by simpa using hk)]
    simp [encF]
  · rw [if_neg h, if_neg h]
theorem sorted_row {w : World} {B r cp m n : Nat} [Inhabited (Fin n)] {l : List Nat} (A : Nat → Nat × Nat) (h : ∀ k ∈ l, k < n) (hr : RowOf w B r cp l) (os : Array Obj) :
    RowOf (Go.Proofs.sortWorld (encF n) w r 0 m ((finL n l h).mergeSort fun x y => !(Go.Proofs.ltOf (cfF A n)) y x).toArray os) B r cp (ordered A n l h) ∧ w.grownBy (Go.Proofs.sortWorld (encF n) w r 0 m ((finL n l h).mergeSort fun x y => !(Go.Proofs.ltOf (cfF A n)) y x).toArray os) (some r) := by
  obtain ⟨_, hr2⟩ := hr
  rcases hr2 with ⟨h0, _⟩ | ⟨g, cap, cur, hv, hb, hg, hn, hm, hsz, ht⟩
  · cases h0
  injection hv with e1 _ e3
  injection e1 with e1
  injection e1 with e1
  subst e1
  subst e3
  unfold Go.Proofs.sortWorld putRow
  rw [putCells_F]
  have hl : (ordered A n l h).length = l.length := (ordered_perm A n l h).length_eq
  have hL : (((finL n l h).mergeSort fun x y => !(Go.Proofs.ltOf (cfF A n)) y x).map fun x => (x.val : Int)).length = (l.map (fun k : Nat => (k : Int))).length := by
    have : (((finL n l h).mergeSort fun x y => !(Go.Proofs.ltOf (cfF A n)) y x).map Fin.val).length = l.length := hl
    simpa using this
  refine ⟨?_, grownBy_sortedI _⟩
  have := ownsRow_sortedI (w := w) (base := B) (g := r) (cap := cp) (n := m) (e := 3) (os := os) (cur := cur) (ss := l.map (fun k : Nat => (k : Int))) hL hb hg (by simpa using hn) hm hsz
  unfold RowOf
  rw [hl]
  have ei : ints (ordered A n l h) = (((finL n l h).mergeSort fun x y => !(Go.Proofs.ltOf (cfF A n)) y x).map fun x => (x.val : Int)).map (Value.int .i64) := by
    unfold ints ordered
    rw [List.map_map, List.map_map]
    rfl
  rw [ei]
  rw [List.length_map] at this
  exact this
/-- The sort's call, over a row of alarms' numbers. -/
theorem sort_call {w : World} {B r cp n wb ab xb : Nat} {l : List Nat} (A : Nat → Nat × Nat) (h : ∀ k ∈ l, k < n) (hn : n ≤ 4096) (hr : RowOf w B r cp l) (hf : ∀ j, w.frozen? ⟨r, j, none⟩ = false) (hx : xb ≠ r) (hw : wb ≠ r) (ha : ab ≠ r)
    (x0 : w.cell? ⟨xb, 0, none⟩ = some (.pointer (some ⟨wb, 0, none⟩))) (c1 : w.cell? ⟨wb, 1, none⟩ = some (.slice (some ⟨ab, 0, none⟩) n n))
    (hA : ∀ k, k < n → w.cell? ⟨ab, k * 2, none⟩ = some (.int .u64 ((A k).1 : Nat)) ∧ w.cell? ⟨ab, k * 2 + 1, none⟩ = some (.int .u64 ((A k).2 : Nat))) (hll : l.length ≤ 4096) :
    Calls Tryd.prog 48 #[.slice (some ⟨r, 0, none⟩) l.length cp, .func (.func 49) #[] #[.pointer (some ⟨xb, 0, none⟩)]] w fun e w' => e = .returned (.tuple #[]) ∧ RowOf w' B r cp (ordered A n l h) ∧ w.grownBy w' (some r) := by
  by_cases hn0 : n = 0
  · subst hn0
    have hl0 : l = [] := List.eq_nil_iff_forall_not_mem.2 fun k hk => by have := h k hk; omega
    subst hl0
    refine (Go.Proofs.Tryd.slices_SortFunc_none (α := Nat) _ cp _ w).mono fun e w' ⟨h1, h2⟩ => ⟨h1, ?_, ?_⟩
    · subst h2
      rw [show ordered A 0 [] h = [] from List.length_eq_zero_iff.1 (ordered_perm A 0 [] h).length_eq]
      exact hr
    · subst h2
      exact World.grownBy.refl _ _
  · have hin : Inhabited (Fin n) := ⟨⟨0, by omega⟩⟩
    have eg : ∀ args w, (callFunc 49 args).run Tryd.prog w = .ok (.enter 49 args) w := enters_of Tryd.func49 (by kernel_rfl) rfl
    have hsz : (finL n l h).toArray.size = l.length := by simp [finL]
    have key := Go.Proofs.Tryd.slices_SortFunc_total (encF n) (fun _ => rfl) (cfF A n) (swo_F A n) 49 #[.pointer (some ⟨xb, 0, none⟩)] r 0 cp (finL n l h).toArray w eg
      (fun m os dk hs x y => by
        have hxl := World.block_lt_of_cell? _ ⟨xb, 0, none⟩ x0
        have hwl := World.block_lt_of_cell? _ ⟨wb, 1, none⟩ c1
        have old : ∀ (a : Addr) (v : Value), a.block ≠ r → w.cell? a = some v → (Go.Proofs.sortWorld (encF n) w r 0 m dk os).cell? a = some v := fun a v hne hc => by
          unfold Go.Proofs.sortWorld
          rw [cell?_grow _ _ _ (by simpa using World.block_lt_of_cell? _ a hc), cell?_putRow_other _ _ _ _ _ _ (Or.inl hne)]
          exact hc
        exact to1_any (A := A) (old _ _ hx x0) (old _ _ hw c1) (fun k hk => ⟨old _ _ ha (hA k hk).1, old _ _ ha (hA k hk).2⟩) x.val y.val hn x.2 y.2)
      (fun j hj => by
        have hj' : j < l.length := by rwa [hsz] at hj
        refine ⟨?_, hf _⟩
        rw [Nat.zero_add, hr.cell j hj', getElem!_pos _ j hj]
        have e : ((finL n l h).map Fin.val)[j]? = l[j]? := by rw [finL_val]
        have hj2 : j < (finL n l h).length := by simpa using hj
        rw [List.getElem?_map, List.getElem?_eq_getElem hj2, List.getElem?_eq_getElem hj'] at e
        simp only [Option.map_some] at e
        injection e with e
        simp [encF, e])
      hr.lt.2 (by rw [hsz]; omega) (tot_F A n)
    rw [hsz] at key
    refine key.mono fun e w' ⟨h1, m, os, h2⟩ => ⟨h1, ?_⟩
    subst h2
    exact sorted_row A h hr os
end Go.Proofs.YtkkodhjolgcokaaDoor
