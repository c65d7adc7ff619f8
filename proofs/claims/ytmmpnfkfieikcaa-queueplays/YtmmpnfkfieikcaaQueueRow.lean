/-
  A queue, and a row of things beside it.
-/
import Derived.Test.YtmmpnfkfieikcaaAlive12
namespace Go.Proofs.Ytmmpnfkfieikcaa
open Go.RowKit Go.Lib
set_option linter.unusedVariables false

theorem and31 (r : Int) : bits .and .i64 r 31 = r % 32 := by
  have := i64_mask 5 (by decide) r
  simpa using this
theorem numT_th2 {T D : Nat} {k i : Int} {j : Nat} (h : numT T D k i = some j) : thK T j = k ∧ thI T j = i ∧ j < T + D := by
  unfold numT at h
  unfold thK thI
  split at h
  · rename_i e
    obtain ⟨rfl, e1, e2⟩ := e
    injection h with h
    subst h
    rw [if_pos (by omega), if_pos (by omega)]
    exact ⟨rfl, by omega, by omega⟩
  · split at h
    · rename_i e
      obtain ⟨rfl, e1, e2⟩ := e
      injection h with h
      subst h
      rw [if_neg (by omega), if_neg (by omega)]
      exact ⟨rfl, by omega, by omega⟩
    · cases h
theorem canP_some {T D : Nat} {M : Int} {Q : List Nat} {k i : Int} {j : Nat} (h : canP T D M Q k i = some j) : numT T D k i = some j ∧ j ∉ Q ∧ (k = 2 → (devN T Q : Int) < M) := by
  unfold canP at h
  split at h
  · cases h
  · rename_i j' hn
    split at h
    · cases h
    · rename_i hq
      injection h with h
      subst h
      refine ⟨hn, fun e => hq (Or.inl e), fun e => ?_⟩
      have := fun h => hq (Or.inr ⟨e, h⟩)
      omega
theorem thQ_snoc {T D : Nat} {Q : List Nat} {k i : Int} {j : Nat} (h : numT T D k i = some j) : thQ T Q ++ [(k, i)] = thQ T (Q ++ [j]) := by
  obtain ⟨e1, e2, _⟩ := numT_th2 h
  unfold thQ
  rw [List.map_append, List.map_cons, List.map_nil, e1, e2]
theorem filter_two (T : Nat) (Q : List Nat) : Q.length = (Q.filter fun k => decide (k < T)).length + devN T Q := by
  unfold devN
  induction Q with
  | nil => rfl
  | cons a l ih =>
    by_cases h : a < T
    · have h2 : ¬ T ≤ a := by omega
      simp [h, h2, List.filter_cons] at ih ⊢
      omega
    · have h2 : T ≤ a := by omega
      simp [h, h2, List.filter_cons] at ih ⊢
      omega
theorem few_two {T D : Nat} {Q : List Nat} (hn : Q.Nodup) (hb : ∀ k ∈ Q, k < T + D) : devN T Q ≤ D ∧ Q.length ≤ T + devN T Q := by
  constructor
  · have h1 : ((Q.filter fun k => decide (T ≤ k)).map fun k => k - T).length ≤ D := by
      refine few_of_nodup D _ ?_ ?_
      · refine List.Pairwise.map (R := fun a b : Nat => a ≠ b ∧ T ≤ a ∧ T ≤ b) (f := fun k => k - T) (fun a b ⟨h1, h2, h3⟩ => ?_) ?_
        · show a - T ≠ b - T
          omega
        · have hp : (Q.filter fun k => decide (T ≤ k)).Pairwise (fun a b : Nat => a ≠ b) := List.Pairwise.filter _ hn
          refine List.Pairwise.imp_of_mem ?_ hp
          intro a b ha hb h
          simp at ha hb
          exact ⟨h, ha.2, hb.2⟩
      · intro x hx
        simp at hx
        obtain ⟨a, ⟨ha, hT⟩, rfl⟩ := hx
        have := hb a ha
        omega
    simpa [devN] using h1
  · have h1 : (Q.filter fun k => decide (k < T)).length ≤ T := by
      refine few_of_nodup T _ (List.Pairwise.filter _ hn) ?_
      intro x hx
      simp at hx
      exact hx.2
    have := filter_two T Q
    omega

/-- A queue, and a row of things of the call's own. -/
structure QS (W w : World) (lo hi qb T D : Nat) (M : Int) (Q : List Nat) (v : Value) (I : List (Int × Int)) : Prop where
  q : Qu w lo hi qb T D M Q
  r : w.ownsRow hi 24 2 v I.length (cellsP I)
  gw : W.grownBy w none
  lw : W.heap.size ≤ lo
  lh : lo ≤ hi
section
variable {W w w' : World} {lo hi qb T D : Nat} {M : Int} {Q Q' : List Nat} {v v' : Value} {I : List (Int × Int)}
theorem grown_row {B n size : Nat} {e : TypeId} {xs : List Value} (G : W.grownBy w none) (h : w.ownsRow B e size v n xs) (hB : W.heap.size ≤ B) (k : w.grownBy w' v.ownBlock) : W.grownBy w' none :=
  ⟨k.os.trans G.os, k.tape.trans G.tape, k.output.trans G.output, Nat.le_trans G.size k.size, fun j hj _ => (k.block j (Nat.lt_of_lt_of_le hj G.size) (fun e => by have := (h.lt j e.symm).1; omega)).trans (G.block j hj (by simp))⟩
theorem Qu.byRow {n size : Nat} {e : TypeId} {xs : List Value} (H : Qu w lo hi qb T D M Q) (h : w.ownsRow hi e size v n xs) (k : w.grownBy w' v.ownBlock) : Qu w' lo hi qb T D M Q := by
  cases hv : v.ownBlock with
  | none => rw [hv] at k; exact H.kept k
  | some g =>
    rw [hv] at k
    have := (h.lt g hv).1
    exact H.only (Only.of_some (lo := g) (hi := g + 1) k (Nat.le_refl _) (Nat.lt_succ_self _)) (Or.inl this)
theorem QS.on (H : QS W w lo hi qb T D M Q v I) (k : Only lo hi w w') (h : Qu w' lo hi qb T D M Q') : QS W w' lo hi qb T D M Q' v I :=
  ⟨h, own_onlyP H.r k (Nat.le_refl _), Only.on H.gw k H.lw, H.lw, H.lh⟩
theorem QS.kept (H : QS W w lo hi qb T D M Q v I) (k : w.grownBy w' none) : QS W w' lo hi qb T D M Q v I :=
  ⟨H.q.kept k, own_keepP H.r k, H.gw.trans k, H.lw, H.lh⟩
theorem QS.app (H : QS W w lo hi qb T D M Q v I) (G : List (Int × Int)) (h : w'.ownsRow hi 24 2 v' (I.length + G.length) (cellsP I ++ cellsP G)) (k : w.grownBy w' v.ownBlock) : QS W w' lo hi qb T D M Q v' (I ++ G) :=
  ⟨H.q.byRow H.r k, by rw [cellsP_add] at h; rw [List.length_append]; exact h, grown_row H.gw H.r (Nat.le_trans H.lw H.lh) k, H.lw, H.lh⟩
theorem litP (w : World) (B : Nat) (hB : B ≤ w.heap.size) : (w.alloc (.cells #[] 24)).ownsRow B 24 2 (.slice (some ⟨w.heap.size, 0, none⟩) 0 0) 0 (cellsP []) :=
  World.ownsRow_made w #[] 0 hB (by decide) rfl
end
end Go.Proofs.Ytmmpnfkfieikcaa
