/-
  The table of forms out of the row's condition, and the witness's world.
-/
import Derived.Test.YtcnojgkolpdomaaDoorCall2
import Derived.Test.YtcnojgkolpdomaaDoorShut
import Derived.ProofKit
import Derived.LaidMore
import Derived.OpenShut
import Derived.Stop.Joined
import Derived.Lib.LaidTab
import Derived.Lib.LaidU8
namespace Go.Proofs.YtcnojgkolpdomaaDoor
open Go.ChangeShapes Go.WideShapes Go.ChangeAt Go.RowKit Go.Lib

def tabs : List (String × DataW Unit) := [("nightjar/call.forms", Rows.laid_nightjar_call_forms)]
theorem gTab : Tryd.prog.globalNamed "nightjar/call.forms" = some 0 := by kernel_rfl
theorem gTabType : (Tryd.prog.globals[0]?).map (·.type) = some 68 := by kernel_rfl
theorem cellsForm : Tryd.prog.cellsOf 27 = 4 := by kernel_rfl
theorem cellsForms : Tryd.prog.cellsOf 68 = 52 := by kernel_rfl
theorem cellsInt : Tryd.prog.cellsOf 3 = 1 := by kernel_rfl
theorem cellsStr : Tryd.prog.cellsOf 9 = 1 := by kernel_rfl

theorem door_met (os : Os) (args : Array Value) : laidMetH Tryd.prog tabs ((World.doorLaid Tryd.prog 400 os).forCall (fun _ _ => 0) ⟨#[], args, []⟩).memory :=
  laidMetH_of_parts3 (fuel := 8) (laidMet_of_run' 8 (by kernel_rfl) (by kernel_rfl)) (by kernel_rfl) (by kernel_rfl)

def formData (k : Nat) : DataW Unit := .agg [.lit (.string (fNm k).toList), .lit (.int .i64 (nArgs k : Nat)), .lit (.int .i64 (fKd k : Nat)), .lit (.int .i64 (fRt k : Nat))]
theorem laid_eq : (Rows.laid_nightjar_call_forms : DataW Unit) = .agg ((List.range 13).map formData) := rfl

theorem at_of_take1 {cs : List Value} {k : Nat} {v : Value} (h : (cs.drop k).take 1 = [v]) : cs[k]? = some v := by
  have := congrArg (·[0]?) h
  simpa [List.getElem?_take, List.getElem?_drop] using this

theorem form_cells {H : Type} {enc : TypeId × Value → H} {w : World} {base : Nat} {sp : Nat → Bool} {held : Bool} {fuel : Nat} {cs : List Value} {nm : List UInt8} {x y z : Int} {p : List MemPlace}
    (h : DataW.trod enc Tryd.prog w base sp held fuel 27 cs = some (.agg [.lit (.string nm), .lit (.int .i64 x), .lit (.int .i64 y), .lit (.int .i64 z)], p)) :
    cs = [.string ⟨nm.toArray⟩, .int .i64 x, .int .i64 y, .int .i64 z] := by
  obtain ⟨xs, n, rfl, hx, hl, hxl, hall⟩ := DataW.trod_struct Tryd.underlying27 h
  rw [cellsForm] at hl
  have hx3 : xs.map (·.1) = [.lit (.string nm), .lit (.int .i64 x), .lit (.int .i64 y), .lit (.int .i64 z)] := by
    have := congrArg Prod.fst hx
    simpa using this.symm
  obtain ⟨x0, x1, x2, x3, rfl⟩ : ∃ x0 x1 x2 x3, xs = [x0, x1, x2, x3] := by
    match xs, hx3 with
    | [x0, x1, x2, x3], _ => exact ⟨x0, x1, x2, x3, rfl⟩
  simp only [List.map_cons, List.map_nil, List.cons.injEq, and_true] at hx3
  obtain ⟨e0, e1, e2, e3⟩ := hx3
  have f0 := hall 0 _ rfl
  have f1 := hall 1 _ rfl
  have f2 := hall 2 _ rfl
  have f3 := hall 3 _ rfl
  change DataW.trod _ _ _ _ _ _ _ 9 ((cs.drop 0).take (Tryd.prog.cellsOf 9)) = some x0 at f0
  change DataW.trod _ _ _ _ _ _ _ 3 ((cs.drop 1).take (Tryd.prog.cellsOf 3)) = some x1 at f1
  change DataW.trod _ _ _ _ _ _ _ 3 ((cs.drop 2).take (Tryd.prog.cellsOf 3)) = some x2 at f2
  change DataW.trod _ _ _ _ _ _ _ 3 ((cs.drop 3).take (Tryd.prog.cellsOf 3)) = some x3 at f3
  rw [cellsStr] at f0
  rw [cellsInt] at f1 f2 f3
  have g0 : cs[0]? = some (.string ⟨nm.toArray⟩) := by
    obtain ⟨s, hz, hx', _⟩ := DataW.trod_string Tryd.underlying9 f0
    rw [hx'] at e0
    injection e0 with e0
    injection e0 with e0
    subst e0
    exact at_of_take1 hz
  have gi : ∀ (i : Nat) (u : Int) (xx : DataW H × List MemPlace) (fu : Nat), DataW.trod enc Tryd.prog w base sp held fu 3 ((cs.drop i).take 1) = some xx → xx.1 = .lit (.int .i64 u) → cs[i]? = some (.int .i64 u) := by
    intro i u xx fu hf he
    obtain ⟨z', hz, hx', _⟩ := DataW.trod_int Tryd.underlying3 hf
    rw [hx'] at he
    injection he with he
    injection he with _ he
    subst he
    exact at_of_take1 hz
  have g1 := gi 1 x _ _ f1 e1
  have g2 := gi 2 y _ _ f2 e2
  have g3 := gi 3 z _ _ f3 e3
  match cs, hl, g0, g1, g2, g3 with
  | [c0, c1, c2, c3], _, g0, g1, g2, g3 =>
    simp at g0 g1 g2 g3
    subst g0 g1 g2 g3
    rfl

theorem tab_of_laid {W : World} (h : laidMetH Tryd.prog tabs W) : FormsAt W := by
  rw [MakeChecks.laidMetH_plain _ _ _ (by kernel_rfl)] at h
  obtain ⟨ps, ⟨g', t', cs, fuel, p, q, hg', ht', hvar, hd, _, _⟩, _⟩ := h
  obtain rfl := Option.some.inj (gTab.symm.trans hg')
  obtain rfl := Option.some.inj (gTabType.symm.trans ht')
  rw [laid_eq] at hd
  have hc : ∀ k, k < 13 → ∀ j, j < 4 → W.cell? ⟨0, k * 4 + j, none⟩ = (fCells k)[j]? := by
    intro k hk j hj
    obtain ⟨fuel', d', q', hd', ht⟩ := array_elem Tryd.underlying68 hd k hk
    have ed : d' = formData k := by
      have : ((List.range 13).map formData)[k]? = some (formData k) := by simp [hk]
      rw [this] at hd'
      exact (Option.some.inj hd').symm
    subst ed
    rw [cellsForm] at ht
    have e := form_cells ht
    have hv := World.var?_cell gTab hvar (k * 4 + j)
    rw [hv]
    have e2 := congrArg (·[j]?) e
    simp only [List.getElem?_take_of_lt hj, List.getElem?_drop] at e2
    rw [List.getElem?_toArray]
    exact e2
  refine ⟨?_, hc⟩
  have := hc 0 (by decide) 0 (by decide)
  exact cell_block (W := W) (a := ⟨0, 0, none⟩) (v := .string ⟨fNm 0⟩) this
end Go.Proofs.YtcnojgkolpdomaaDoor
