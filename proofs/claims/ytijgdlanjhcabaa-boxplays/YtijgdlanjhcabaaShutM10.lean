/-
  A slice of layer 10's steps that came in, as walks want it. (No condition.)
-/
import Derived.Test.YtijgdlanjhcabaaShutM
namespace Go.Proofs.Ytijgdlanjhcabaa
open Go.ChangeShapes Go.WideShapes Go.ChangeAt Go.RowKit Go.Deep

section
variable {H : Type} {enc : TypeId × Value → H}
def Pr10 (i : Nat) (c : Value) : Prop := (i < 2 → ∃ z : Int, c = .int .i64 z) ∧ (i = 2 → ∃ b : Bool, c = .bool b)

theorem leaf_bool {P : Program} {W : World} {t : TypeId} {fuel o : Nat} {cs : List Value} {x : DataW H × List MemPlace} {base : Nat} {sp : Nat → Bool} {held : Bool} (hu : P.underlying t = some .bool) (ci : P.cellsOf t = 1) (ho : o < cs.length)
    (h : DataW.trod enc P W base sp held fuel t ((cs.drop o).take (P.cellsOf t)) = some x) : ∃ b : Bool, cs[o]? = some (.bool b) := by
  rw [ci] at h
  have hd : (cs.drop o).take 1 = [cs[o]'ho] := by
    rw [List.drop_eq_getElem_cons ho]; rfl
  rw [hd] at h
  obtain ⟨b, e1, _⟩ := DataW.trod_bool hu h
  simp only [List.cons.injEq, and_true] at e1
  exact ⟨b, by rw [List.getElem?_eq_getElem ho, e1]⟩

theorem op10_cells {W : World} {fuel : Nat} {cs : List Value} {x : DataW H × List MemPlace} (h : DataW.trod enc Try.prog W 0 (fun _ => true) true fuel 32 cs = some x) : cs.length = 3 ∧ ∀ i, i < 3 → ∃ c, cs[i]? = some c ∧ Pr10 i c := by
  obtain ⟨hl, hf⟩ := field_trod Try.underlying32 h
  have ce : Try.prog.cellsOf 32 = 3 := by kernel_rfl
  have ci : Try.prog.cellsOf 3 = 1 := by kernel_rfl
  have cb : Try.prog.cellsOf 4 = 1 := by kernel_rfl
  rw [ce] at hl
  obtain ⟨_, _, t0⟩ := hf 0 _ rfl
  obtain ⟨_, _, t1⟩ := hf 1 _ rfl
  obtain ⟨_, _, t2⟩ := hf 2 _ rfl
  obtain ⟨z0, e0, _⟩ := leaf_int (o := 0) Try.underlying3 ci (by omega) t0
  obtain ⟨z1, e1, _⟩ := leaf_int (o := 1) Try.underlying3 ci (by omega) t1
  obtain ⟨b2, e2⟩ := leaf_bool (o := 2) Try.underlying4 cb (by omega) t2
  refine ⟨hl, fun i hi => ?_⟩
  match i, hi with
  | 0, _ => exact ⟨_, e0, fun _ => ⟨_, rfl⟩, fun h => by cases h⟩
  | 1, _ => exact ⟨_, e1, fun _ => ⟨_, rfl⟩, fun h => by cases h⟩
  | 2, _ => exact ⟨_, e2, fun h => absurd h (by omega), fun _ => ⟨_, rfl⟩⟩
def boolOf10 : Value → Bool
  | .bool b => b
  | _ => false

set_option maxRecDepth 100000 in
theorem open_op10 {W : World} {base : Nat} {v : Value} {d : DataW H} {ps : List MemPlace} (hok : Value.okWide Try.prog W .any base 22 v) (h : DataW.Trod enc Try.prog W 0 (fun _ => true) true 22 v d ps) :
    ∃ (sa : Option Addr) (len cap sb off : Nat) (zs : Nat → Nat → Int) (bs : Nat → Bool), v = .slice sa len cap ∧ len ≤ maxLen ∧ (0 < len → sa = some ⟨sb, off, none⟩ ∧ sb < W.heap.size) ∧
      (∀ j, j < len → (∀ i, i < 2 → W.cell? ⟨sb, off + j * 3 + i, none⟩ = some (.int .i64 (zs j i))) ∧ W.cell? ⟨sb, off + j * 3 + 2, none⟩ = some (.bool (bs j))) := by
  obtain ⟨sa, len, cap, sb, off, cv, rfl, hm, hs, hc⟩ := open_each Pr10 Try.underlying22 (K := 3) (by kernel_rfl) (Nat.succ_pos 2) (fun fuel cs x h => op10_cells h) hok h
  refine ⟨sa, len, cap, sb, off, fun j i => intOf (cv j i), fun j => boolOf10 (cv j 2), rfl, hm, hs, fun j hj => ⟨fun i hi => ?_, ?_⟩⟩
  · obtain ⟨h1, h2, _⟩ := hc j hj i (by omega)
    obtain ⟨z, e⟩ := h2 hi
    rw [h1]
    simp only [e]
    rfl
  · obtain ⟨h1, _, h2⟩ := hc j hj 2 (by omega)
    obtain ⟨b, e⟩ := h2 rfl
    rw [h1]
    simp only [e]
    rfl
end
end Go.Proofs.Ytijgdlanjhcabaa
