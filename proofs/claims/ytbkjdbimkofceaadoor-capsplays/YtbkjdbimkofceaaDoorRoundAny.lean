/-
  A region that draws its order, within a round of a range over a function: where none of its operations defers a call it may be walked as one outside of every round.
-/
import Derived.Test.YtbkjdbimkofceaaDoorRows
import Derived.OrdersIn
import Derived.OwnWalkIn
import Derived.RangeFuncCalls
namespace Go.Proofs.YtbkjdbimkofceaaDoor
open Go.RowKit

theorem wpIn_round {F : Fence} {n : Nat} {P : Program} {l : Nat} (hro : F.round = none) (o : Oper) (hd : ∀ c, o.op ≠ .defer c) {a : Act} {w : World} {K K' : Act → World → Prop} {Q : Exit → Act → World → Prop}
    (hK : ∀ a w, K a w → K' a w) (h : o.wpIn F n P a w K Q) : o.wpIn (F.inRound l) n P a w K' Q := by
  obtain ⟨h1, h2⟩ := h
  refine ⟨h1, ?_⟩
  rw [Oper.semAt_plain _ _ _ hd] at h2 ⊢
  cases hr : (execOp a.eval o).run P w with
  | ok x w' =>
    rw [hr] at h2
    cases x with
    | value v => exact hK _ _ h2
    | skip => exact hK _ _ h2
    | defer d => exact hK _ _ h2
    | enter f args => exact ⟨h2.1, h2.2.mono fun e w'' h => by cases e <;> first | exact hK _ _ h | exact h⟩
    | row row args => exact ⟨h2.1, RowsIn.mono h2.2 fun v w'' h => hK _ _ h⟩
    | round l' f tmps assign body => exact ⟨h2.1, RoundIn.mono h2.2 fun e w'' h => by cases e <;> first | exact hK _ _ h | exact h⟩
    | _ => exact h2
  | halt x w' =>
    rw [hr] at h2
    cases x <;> exact h2

/-- The orders within a round. -/
theorem any_round {F : Fence} {n : Nat} {P : Program} {l : Nat} (hro : F.round = none) {md : Region.Mode} {ops : Array Oper} {Q : Exit → Act → World → Prop} (hd : ∀ (i : Nat) (o : Oper), ops[i]? = some o → ∀ c, o.op ≠ .defer c) :
    ∀ (fuel : Nat) (listed : Array Bool) (a : Act) (w : World), wpAnyIn F n P md ops Q fuel listed a w → wpAnyIn (F.inRound l) n P md ops Q fuel listed a w
  | 0, _, _, _, h => h
  | fuel + 1, listed, a, w, ⟨h0, h1⟩ => ⟨h0, fun i hi => by
      have h := h1 i hi
      unfold wpOpIn at h ⊢
      cases ho : ops[i]? with
      | none => rw [ho] at h; exact any_round hro hd fuel _ _ _ h
      | some o =>
        rw [ho] at h
        dsimp only at h ⊢
        split
        · rename_i hw
          rw [if_pos hw] at h
          exact wpIn_round hro o (hd i o ho) (fun a w h => any_round hro hd fuel _ _ _ h) h
        · rename_i hw
          rw [if_neg hw] at h
          exact ⟨h.1, any_round hro hd fuel _ _ _ h.2⟩⟩
/-- No operation defers a call. -/
def noDefer (ops : Array Oper) : Bool := ops.toList.all fun o => match o.op with | .defer _ => false | _ => true
theorem noDefer_spec {ops : Array Oper} (h : noDefer ops = true) (i : Nat) (o : Oper) (hi : ops[i]? = some o) (c : Call) : o.op ≠ .defer c := fun e => by
  have hm : o ∈ ops.toList := by
    have := Array.mem_of_getElem? hi
    simpa using this
  have := List.all_eq_true.1 h o hm
  rw [e] at this
  cases this
/-- What is asked behind a region that goes on. -/
def OnlyOn (Q : Exit → Act → World → Prop) : Exit → Act → World → Prop
  | .normal, a, w => Q .normal a w
  | _, _, _ => False
theorem region_round {n : Nat} {P : Program} {l id : Nat} {ops : Array Oper} {Q : Exit → Act → World → Prop} {a : Act} {w : World} (hm : P.follows .mixedOrders = true) (hd : noDefer ops = true)
    (h : wpAnyIn Fence.wide n P .any ops (OnlyOn Q) ops.size (Array.replicate ops.size false) a w.drew) : (Code.region id ops true).wpIn (Fence.wide.inRound l) n P Q a w := by
  have h2 : (Code.region id ops true).wpIn (Fence.wide.inRound l) n P (OnlyOn Q) a w := wpIn_region_any hm (any_round (F := Fence.wide) rfl (noDefer_spec hd) _ _ _ _ h)
  exact wpIn_mono h2 (fun e a w h => by cases e <;> first | exact h | exact h.elim)
end Go.Proofs.YtbkjdbimkofceaaDoor
