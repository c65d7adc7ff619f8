/-
  QueuePlays: of each row of steps every answer, and all that waits, are as the document says.
-/
import Derived.Test.YtmmpnfkfieikcaaSameQ
import Derived.Test.YtmmpnfkfieikcaaRef12c
import Derived.Test.YtmmpnfkfieikcaaRef12d
namespace Go.Proofs.Ytmmpnfkfieikcaa
open Go.RowKit Go.Lib
set_option linter.unusedVariables false
/-- A queue, and the document's beside it, in the law's variable (block xb); the thing that is asked for lies at ab. -/
structure PQ (W w : World) (lo hi qb xb ab T D : Nat) (M Z ak ai : Int) (Q : List Nat) (v : Value) (F : List (Int × Int)) : Prop where
  q : Qu w lo hi qb T D M Q
  r : w.ownsRow (xb + 1) 35 2 v F.length (cellsP F)
  x0 : w.cell? ⟨xb, 0, none⟩ = some (.int .i64 (T : Int))
  x1 : w.cell? ⟨xb, 1, none⟩ = some (.int .i64 (D : Int))
  x2 : w.cell? ⟨xb, 2, none⟩ = some (.int .i64 Z)
  x3 : w.cell? ⟨xb, 3, none⟩ = some v
  fz : ∀ o, w.frozen? ⟨xb, o, none⟩ = false
  a0 : w.cell? ⟨ab, 0, none⟩ = some (.int .i64 ak)
  a1 : w.cell? ⟨ab, 1, none⟩ = some (.int .i64 ai)
  gw : W.grownBy w none
  lw : W.heap.size ≤ ab ∧ ab < lo ∧ lo ≤ hi ∧ hi ≤ xb ∧ xb < w.heap.size
section
variable {W w w' : World} {lo hi qb xb ab T D : Nat} {M Z ak ai : Int} {Q Q' : List Nat} {v v' : Value} {F F' : List (Int × Int)}
theorem PQ.kept (H : PQ W w lo hi qb xb ab T D M Z ak ai Q v F) (k : w.grownBy w' none) : PQ W w' lo hi qb xb ab T D M Z ak ai Q v F :=
  have h := H.lw
  ⟨H.q.kept k, own_keepP H.r k, k.cell H.x0 (by simp), k.cell H.x1 (by simp), k.cell H.x2 (by simp), k.cell H.x3 (by simp), fun o => (k.frozen_far ⟨xb, o, none⟩ h.2.2.2.2 (by simp)).trans (H.fz o), k.cell H.a0 (by simp), k.cell H.a1 (by simp), H.gw.trans k, h.1, h.2.1, h.2.2.1, h.2.2.2.1, Nat.lt_of_lt_of_le h.2.2.2.2 k.size⟩
theorem PQ.on (H : PQ W w lo hi qb xb ab T D M Z ak ai Q v F) (k : Only lo hi w w') (h' : Qu w' lo hi qb T D M Q') : PQ W w' lo hi qb xb ab T D M Z ak ai Q' v F :=
  have h := H.lw
  have hb : ab < w.heap.size := by omega
  ⟨h', own_onlyP H.r k (by omega), (k.cell ⟨xb, 0, none⟩ h.2.2.2.2 (Or.inr h.2.2.2.1)).trans H.x0, (k.cell ⟨xb, 1, none⟩ h.2.2.2.2 (Or.inr h.2.2.2.1)).trans H.x1, (k.cell ⟨xb, 2, none⟩ h.2.2.2.2 (Or.inr h.2.2.2.1)).trans H.x2, (k.cell ⟨xb, 3, none⟩ h.2.2.2.2 (Or.inr h.2.2.2.1)).trans H.x3, fun o => (k.frozen ⟨xb, o, none⟩ h.2.2.2.2 (Or.inr h.2.2.2.1)).trans (H.fz o), (k.cell ⟨ab, 0, none⟩ hb (Or.inl h.2.1)).trans H.a0, (k.cell ⟨ab, 1, none⟩ hb (Or.inl h.2.1)).trans H.a1, Only.on H.gw k (by omega), h.1, h.2.1, h.2.2.1, h.2.2.2.1, Nat.lt_of_lt_of_le h.2.2.2.2 k.size⟩
/-- The document's queue is laid into the law's variable. -/
theorem PQ.setx (H : PQ W w lo hi qb xb ab T D M Z ak ai Q v F) (hr : w.ownsRow (xb + 1) 35 2 v' F'.length (cellsP F')) : PQ W ((((w.setCell ⟨xb, 0, none⟩ (.int .i64 (T : Int))).setCell ⟨xb, 1, none⟩ (.int .i64 (D : Int))).setCell ⟨xb, 2, none⟩ (.int .i64 Z)).setCell ⟨xb, 3, none⟩ v') lo hi qb xb ab T D M Z ak ai Q v' F' := by
  have h := H.lw
  have hb : ab < w.heap.size := by omega
  have k := only4 (w := w) (b := xb) (.int .i64 (T : Int)) (.int .i64 (D : Int)) (.int .i64 Z) v'
  obtain ⟨s0, s1, s2, s3⟩ := set4 (.int .i64 (T : Int)) (.int .i64 (D : Int)) (.int .i64 Z) v' H.x0 H.x1 H.x2 H.x3
  refine ⟨H.q.only k (Or.inl h.2.2.2.1), own_onlyP hr k (Nat.le_refl _), s0, s1, s2, s3, fun o => ?_, (k.cell ⟨ab, 0, none⟩ hb (Or.inl (by show ab < xb; omega))).trans H.a0, (k.cell ⟨ab, 1, none⟩ hb (Or.inl (by show ab < xb; omega))).trans H.a1, Only.on H.gw k (by omega), h.1, h.2.1, h.2.2.1, h.2.2.2.1, Nat.lt_of_lt_of_le h.2.2.2.2 k.size⟩
  rw [World.frozen?_setCell, World.frozen?_setCell, World.frozen?_setCell, World.frozen?_setCell]
  exact H.fz o
theorem ref_push_any (k i : Int) (H : PQ W w lo hi qb xb ab T D M Z ak ai Q v (thQ T Q)) (hMZ : Z = max M 0) (hF : Q.length ≤ 100000) :
    Calls Try.prog 8 #[.agg #[.int .i64 (T : Int), .int .i64 (D : Int), .int .i64 Z, v], .agg #[.int .i64 k, .int .i64 i]] w fun e w' => (∃ v', e = .returned (.tuple #[.agg #[.int .i64 (T : Int), .int .i64 (D : Int), .int .i64 Z, v'], .bool (canP T D M Q k i).isSome]) ∧ w'.ownsRow (xb + 1) 35 2 v' (thQ T (Q ++ (canP T D M Q k i).toList)).length (cellsP (thQ T (Q ++ (canP T D M Q k i).toList)))) ∧ w.grownBy w' none := by
  have hbd := H.q.bound
  have hr := H.r
  have hlw := H.lw
  have hFl : (thQ T Q).length ≤ 100000 := by rw [thQ_len]; exact hF
  have hI := isT_num T D k i
  have hh := held_thQ T Q
  cases hc : canP T D M Q k i with
  | some j =>
    obtain ⟨hn, hq, hd⟩ := canP_some hc
    rw [hn] at hI
    have hin : inQ T D Q k i = none := by unfold inQ; rw [hn]; simp [hq]
    have hF2 := thQ_no hbd hin
    have e : thQ T Q ++ [(k, i)] = thQ T (Q ++ [j]) := thQ_snoc hn
    by_cases hk : k = 2
    · subst hk
      refine (ref_push_yes2 T D Z i hr hFl hI hF2 (by rw [hh, decide_eq_false_iff_not]; have := hd rfl; omega)).mono (fun e' w' ⟨⟨v', h1, h2⟩, h3⟩ => ⟨⟨v', h1, own_mono (by rw [e] at h2; exact h2) (by omega)⟩, h3⟩)
    · exact (ref_push_yes1 T D Z k i hr hFl hI hF2 (by simpa using hk)).mono (fun e' w' ⟨⟨v', h1, h2⟩, h3⟩ => ⟨⟨v', h1, own_mono (by rw [e] at h2; exact h2) (by omega)⟩, h3⟩)
  | none =>
    cases hn : numT T D k i with
    | none =>
      rw [hn] at hI
      exact (ref_push_no1 T D Z k i hr hFl hI).mono (fun e' w' ⟨h1, h3⟩ => ⟨⟨v, h1, by simpa using own_keepP hr h3⟩, h3⟩)
    | some j =>
      rw [hn] at hI
      by_cases hq : j ∈ Q
      · exact (ref_push_no2 T D Z k i hr hFl hI (thQ_yes (j := j) hbd (by unfold inQ; rw [hn]; simp [hq]))).mono (fun e' w' ⟨h1, h3⟩ => ⟨⟨v, h1, by simpa using own_keepP hr h3⟩, h3⟩)
      · have hkm : k = 2 ∧ M ≤ (devN T Q : Int) := by
          unfold canP at hc
          rw [hn] at hc
          simp [hq] at hc
          exact hc
        obtain ⟨rfl, hm⟩ := hkm
        exact (ref_push_no3 T D Z i hr hFl hI (thQ_no hbd (by unfold inQ; rw [hn]; simp [hq])) (by rw [hh, decide_eq_true_iff]; omega)).mono (fun e' w' ⟨h1, h3⟩ => ⟨⟨v, h1, by simpa using own_keepP hr h3⟩, h3⟩)
theorem ref_drop_any (k i : Int) (H : PQ W w lo hi qb xb ab T D M Z ak ai Q v (thQ T Q)) (hF : Q.length ≤ 100000) :
    Calls Try.prog 10 #[.agg #[.int .i64 (T : Int), .int .i64 (D : Int), .int .i64 Z, v], .agg #[.int .i64 k, .int .i64 i]] w fun e w' => (∃ v', e = .returned (.tuple #[.agg #[.int .i64 (T : Int), .int .i64 (D : Int), .int .i64 Z, v'], .bool (inQ T D Q k i).isSome]) ∧ w'.ownsRow (xb + 1) 35 2 v' (thQ T (Q.filter fun q => !((inQ T D Q k i).toList.contains q))).length (cellsP (thQ T (Q.filter fun q => !((inQ T D Q k i).toList.contains q))))) ∧ w.grownBy w' none := by
  have hbd := H.q.bound
  have hr := H.r
  have hlw := H.lw
  have hFl : (thQ T Q).length ≤ 100000 := by rw [thQ_len]; exact hF
  cases hc : inQ T D Q k i with
  | some j =>
    obtain ⟨hn, hq⟩ := inQ_some hc
    have e := but_thQ H.q.nodup hbd hn
    have e2 : (Q.filter fun q => !([j].contains q)) = Q.erase j := by
      rw [List.Nodup.erase_eq_filter H.q.nodup]
      refine List.filter_congr fun q _ => ?_
      by_cases h : q = j <;> simp [h]
    refine (ref_drop_yes T D Z k i hr hFl (thQ_yes hbd hc)).mono fun e' w' ⟨⟨v', h1, h2⟩, h3⟩ => ⟨⟨v', h1, ?_⟩, h3⟩
    rw [e] at h2
    show w'.ownsRow (xb + 1) 35 2 v' (thQ T (Q.filter fun q => !([j].contains q))).length (cellsP (thQ T (Q.filter fun q => !([j].contains q))))
    rw [e2]
    exact own_mono h2 (by omega)
  | none =>
    refine (ref_drop_no T D Z k i hr hFl (thQ_no hbd hc)).mono fun e' w' ⟨h1, h3⟩ => ⟨⟨v, h1, ?_⟩, h3⟩
    have e : (Q.filter fun q => !((none : Option Nat).toList.contains q)) = Q := List.filter_eq_self.2 (fun _ _ => rfl)
    rw [e]
    exact own_keepP hr h3
end
end Go.Proofs.Ytmmpnfkfieikcaa
