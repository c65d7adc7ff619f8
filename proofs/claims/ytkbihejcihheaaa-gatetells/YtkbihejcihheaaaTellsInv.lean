/-
  What GateTells leans on: what a gate is, whatever came, and what it then tells. (No condition.)
-/
import Derived.Test.YtkbihejcihheaaaGateLaw
namespace Go.Proofs.Ytkbihejcihheaaa
open Go.RowKit Go.Lib
set_option linter.unusedVariables false

/-- What holds of a gate, whatever was done with it. -/
structure GI (o : Bool) (r h x m t : Int) : Prop where
  md : 0 ≤ m ∧ m ≤ 2
  td : bits .andNot .i64 t x = 0
  off : o = false → r = 0 ∧ h = 0 ∧ x = 0 ∧ m = 0 ∧ t = 0

theorem not_and (a b : Int) : bits .andNot .i64 (bits .and .i64 a b) b = 0 := by
  rw [andNot_bv, and_bv, bv_toInt, toInt_zero]
  ext i hi
  simp only [BitVec.getElem_and, BitVec.getElem_not, BitVec.getElem_zero]
  cases (bv a)[i] <;> cases (bv b)[i] <;> rfl
theorem not_and' (a b : Int) : bits .andNot .i64 (bits .and .i64 a b) a = 0 := by
  rw [andNot_bv, and_bv, bv_toInt, toInt_zero]
  ext i hi
  simp only [BitVec.getElem_and, BitVec.getElem_not, BitVec.getElem_zero]
  cases (bv a)[i] <;> cases (bv b)[i] <;> rfl
theorem zero_not (a : Int) : bits .andNot .i64 0 a = 0 := by
  rw [andNot_bv, bv_zero, BitVec.zero_and]; rfl
theorem not_or (t c x : Int) (h : bits .andNot .i64 t x = 0) : bits .andNot .i64 (bits .or .i64 t (bits .and .i64 c x)) x = 0 := by
  rw [andNot_bv, toInt_zero] at h
  rw [andNot_bv, or_bv, bv_toInt, and_bv, bv_toInt, toInt_zero]
  have e : (bv t ||| (bv c &&& bv x)) &&& ~~~ bv x = (bv t &&& ~~~ bv x) ||| ((bv c &&& bv x) &&& ~~~ bv x) := by
    ext i hi
    simp only [BitVec.getElem_and, BitVec.getElem_not, BitVec.getElem_or]
    cases (bv t)[i] <;> cases (bv c)[i] <;> cases (bv x)[i] <;> rfl
  rw [e, h, BitVec.zero_or]
  ext i hi
  simp only [BitVec.getElem_and, BitVec.getElem_not, BitVec.getElem_zero]
  cases (bv c)[i] <;> cases (bv x)[i] <;> rfl

theorem GI.zero (o : Bool) : GI o 0 0 0 0 0 := ⟨by decide, zero_not 0, fun _ => ⟨rfl, rfl, rfl, rfl, rfl⟩⟩
theorem GI.meet {r h x m t : Int} (H : GI true r h x m t) (c r' : Int) : GI true r' h x m (bits .or .i64 t (bits .and .i64 c x)) := ⟨H.md, not_or t c x H.td, fun h => by cases h⟩
theorem GI.watch {r h x m t : Int} (H : GI true r h x m t) (h' x' m' : Int) (hm : 0 ≤ m' ∧ m' ≤ 2) : GI true r h' x' m' (bits .and .i64 r x') := ⟨hm, not_and r x', fun h => by cases h⟩
theorem GI.unwatch {o : Bool} {r h x m t : Int} (H : GI o r h x m t) : GI o r 0 0 0 0 := ⟨by decide, zero_not 0, fun h => ⟨(H.off h).1, rfl, rfl, rfl, rfl⟩⟩
theorem GI.ack {o : Bool} {r h x m t : Int} (H : GI o r h x m t) (c : Int) : GI o (bits .andNot .i64 r c) h x m t :=
  ⟨H.md, H.td, fun h => ⟨by rw [(H.off h).1, zero_not], (H.off h).2⟩⟩

theorem tells_inv {o : Bool} {r h x m t : Int} (H : GI o r h x m t) : ∃ h' x' m' t' hh mk, tells ⟨o, r, 0, h, x, m, t⟩ = (⟨o, r, 0, h', x', m', t'⟩, hh, mk) ∧ GI o r h' x' m' t' ∧ bits .andNot .i64 mk x = 0 ∧ ((mk = 0 ∧ hh = 0) ∨ (mk ≠ 0 ∧ hh = h ∧ o = true)) ∧ (m = 0 → bits .andNot .i64 mk r = 0) := by
  unfold tells
  simp only
  by_cases h0 : m = 0
  · rw [if_pos h0]
    by_cases ht : bits .and .i64 r x = 0
    · rw [if_pos ht]
      exact ⟨h, x, m, 0, 0, 0, rfl, ⟨H.md, zero_not x, fun e => ⟨(H.off e).1, (H.off e).2.1, (H.off e).2.2.1, (H.off e).2.2.2.1, rfl⟩⟩, zero_not x, Or.inl ⟨rfl, rfl⟩, fun _ => zero_not r⟩
    · rw [if_neg ht]
      have ho : o = true := by
        cases o
        · exact absurd (by rw [(H.off rfl).1]; exact zero_and x) ht
        · rfl
      subst ho
      exact ⟨h, x, m, _, _, _, rfl, ⟨H.md, not_and r x, fun e => by cases e⟩, not_and r x, Or.inr ⟨ht, rfl, rfl⟩, fun _ => not_and' r x⟩
  · rw [if_neg h0]
    have ho : o = true := by
      cases o
      · exact absurd (H.off rfl).2.2.2.1 h0
      · rfl
    subst ho
    by_cases ht : t = 0
    · rw [if_pos ht]
      exact ⟨h, x, m, t, 0, 0, rfl, H, zero_not x, Or.inl ⟨rfl, rfl⟩, fun e => absurd e h0⟩
    · rw [if_neg ht]
      by_cases h1 : m = 1
      · rw [if_pos h1]
        exact ⟨h, x, m, 0, h, t, rfl, ⟨H.md, zero_not x, fun e => by cases e⟩, H.td, Or.inr ⟨ht, rfl, rfl⟩, fun e => absurd e h0⟩
      · rw [if_neg h1]
        exact ⟨0, 0, 0, 0, h, t, rfl, ⟨by decide, zero_not 0, fun e => by cases e⟩, H.td, Or.inr ⟨ht, rfl, rfl⟩, fun e => absurd e h0⟩
end Go.Proofs.Ytkbihejcihheaaa
