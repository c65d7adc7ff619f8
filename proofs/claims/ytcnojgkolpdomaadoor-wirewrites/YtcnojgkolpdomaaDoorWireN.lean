/-
  More of rows: sources of appends that may be empty, ends of rows of entries, how a script's bytes are counted.
-/
import Derived.Test.YtcnojgkolpdomaaDoorWireM
namespace Go.Proofs.YtcnojgkolpdomaaDoor
open Go.RowKit Go.Lib
set_option linter.unusedVariables false

theorem ReadsB.srcA {w : World} {v : Value} {F : List Nat} (h : ReadsB w v F) : SrcAt w 1 v F.length (bys F) := by
  by_cases hn : 0 < F.length
  · exact h.src hn
  · obtain ⟨a, cap, rfl, _⟩ := h
    have : F = [] := List.eq_nil_of_length_eq_zero (by omega)
    subst this
    cases a with
    | none => exact Or.inr ⟨cap, rfl, rfl, rfl⟩
    | some p => exact Or.inl ⟨p, cap, rfl, rfl, fun j u hu => absurd hu (by simp [bys]), fun u hu => absurd hu (by simp [bys])⟩
theorem ReadsE.srcA {w : World} {v : Value} {L : List En} (h : ReadsE w v L) : SrcAt w 9 v L.length (ens L) := by
  by_cases hn : 0 < L.length
  · exact h.src hn
  · obtain ⟨a, cap, rfl, _⟩ := h
    have : L = [] := List.eq_nil_of_length_eq_zero (by omega)
    subst this
    cases a with
    | none => exact Or.inr ⟨cap, rfl, rfl, rfl⟩
    | some p => exact Or.inl ⟨p, cap, rfl, rfl, fun j u hu => absurd hu (by simp [ens]), fun u hu => absurd hu (by simp [ens])⟩
theorem src_putE {w' : World} {B : Nat} {v' : Value} {L M : List En} (hown : w'.ownsRow B 55 9 v' (L.length + M.length) (ens L ++ ens M)) : ERow w' B v' (L ++ M) := by
  unfold ERow
  rw [List.length_append, ens_add]
  exact hown
theorem lit_erow (w : World) (B : Nat) (hB : B ≤ w.heap.size) : ERow (w.alloc (.cells #[] 55)) B (.slice (some ⟨w.heap.size, 0, none⟩) 0 0) [] :=
  World.ownsRow_made w #[] 0 hB (by decide) rfl
theorem reads_dropE {w : World} {b o cap k m c' : Nat} {p : Option Addr} {T : List En} (h : ReadsE w (.slice (some ⟨b, o, none⟩) T.length cap) T) (hk : k ≤ T.length) (hm : m = T.length - k) (hc' : c' = cap - k) (hp : 0 < m → p = some ⟨b, o + k * 9, none⟩) : ReadsE w (.slice p m c') (T.drop k) := by
  obtain ⟨a', cap', e, h1, h2, h3, h4⟩ := h
  injection e with e1 e2 e3
  subst e1 e3
  have hl : (T.drop k).length = m := by rw [List.length_drop]; omega
  refine ⟨p, c', by rw [hl], by rw [hl]; omega, by omega, fun e he => h3 e (List.mem_of_mem_drop he), fun h0 => ?_⟩
  rw [hl] at h0
  obtain ⟨b', o', e, hb, hc⟩ := h4 (by omega)
  injection e with e
  injection e with e5 e6
  subst e5 e6
  refine ⟨b, o + k * 9, hp h0, hb, fun j hj i hi => ?_⟩
  rw [hl] at hj
  have := hc (k + j) (by omega) i hi
  rw [List.getElem_drop]
  rw [← this]
  congr 2
  omega
theorem wrB_app (L M : List En) : wrB (L ++ M) = wrB L ++ wrB M := by simp [wrB]
theorem wrB_take_le : ∀ (L : List En) (j : Nat), (wrB (L.take j)).length ≤ (wrB L).length := fun L j => take_len_le L j
theorem wrB_split (L : List En) (j : Nat) (hj : j < L.length) : wrB L = wrB (L.take j) ++ ((eb L[j]).length :: (eb L[j] ++ wrB (L.drop (j + 1)))) := by
  have e : wrB (L.drop j) = (eb L[j]).length :: (eb L[j] ++ wrB (L.drop (j + 1))) := by
    rw [List.drop_eq_getElem_cons hj]
    unfold wrB
    rw [List.flatMap_cons]
    rfl
  rw [← e, ← wrB_app, List.take_append_drop]
theorem wrB_head (L : List En) (j : Nat) (hj : j < L.length) : ∃ h : (wrB (L.take j)).length < (wrB L).length, (wrB L)[(wrB (L.take j)).length]'h = (eb L[j]).length := by
  have e := wrB_split L j hj
  have h : (wrB (L.take j)).length < (wrB L).length := by rw [e, List.length_append, List.length_cons]; omega
  refine ⟨h, ?_⟩
  have h2 : (wrB L)[(wrB (L.take j)).length]? = some (eb L[j]).length := by
    rw [e, List.getElem?_append_right (by omega)]
    simp
  rw [List.getElem?_eq_getElem h] at h2
  exact Option.some.inj h2
theorem wrB_next (L : List En) (j : Nat) (hj : j < L.length) : (wrB (L.take (j + 1))).length = (wrB (L.take j)).length + (1 + (eb L[j]).length) := by
  rw [List.take_succ_eq_append_getElem hj, wrB_snoc, List.length_append, List.length_cons]
  omega
end Go.Proofs.YtcnojgkolpdomaaDoor
