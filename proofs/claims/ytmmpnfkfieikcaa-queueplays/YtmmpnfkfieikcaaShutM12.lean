/-
  A slice of layer 12's steps, and a thing by value, that came in, as walks want them. (No condition.)
-/
import Derived.Test.YtmmpnfkfieikcaaShutM
namespace Go.Proofs.Ytmmpnfkfieikcaa
open Go.ChangeShapes Go.WideShapes Go.ChangeAt Go.RowKit Go.Deep

section
variable {H : Type} {enc : TypeId × Value → H}
def Pr12 (_ : Nat) (c : Value) : Prop := ∃ z : Int, c = .int .i64 z

theorem op12_cells {W : World} {fuel : Nat} {cs : List Value} {x : DataW H × List MemPlace} (h : DataW.trod enc Try.prog W 0 (fun _ => true) true fuel 32 cs = some x) : cs.length = 3 ∧ ∀ i, i < 3 → ∃ c, cs[i]? = some c ∧ Pr12 i c := by
  obtain ⟨hl, hf⟩ := field_trod Try.underlying32 h
  have ce : Try.prog.cellsOf 32 = 3 := by kernel_rfl
  have ct : Try.prog.cellsOf 24 = 2 := by kernel_rfl
  have ci : Try.prog.cellsOf 3 = 1 := by kernel_rfl
  rw [ce] at hl
  obtain ⟨_, _, t0⟩ := hf 0 _ rfl
  obtain ⟨_, _, t1⟩ := hf 1 _ rfl
  obtain ⟨z0, e0, _⟩ := leaf_int (o := 0) Try.underlying3 ci (by omega) t0
  change DataW.trod _ _ _ _ _ _ _ 24 ((cs.drop 1).take (Try.prog.cellsOf 24)) = _ at t1
  rw [ct] at t1
  obtain ⟨hl2, hf2⟩ := field_trod Try.underlying24 t1
  obtain ⟨_, _, t2⟩ := hf2 0 _ rfl
  obtain ⟨_, _, t3⟩ := hf2 1 _ rfl
  rw [ct] at hl2
  obtain ⟨z1, e1, _⟩ := leaf_int (o := 0) Try.underlying3 ci (by omega) t2
  obtain ⟨z2, e2, _⟩ := leaf_int (o := 1) Try.underlying3 ci (by omega) t3
  have e1' : cs[1]? = some (.int .i64 z1) := by
    rw [List.getElem?_take_of_lt (by omega), List.getElem?_drop] at e1
    exact e1
  have e2' : cs[2]? = some (.int .i64 z2) := by
    rw [List.getElem?_take_of_lt (by omega), List.getElem?_drop] at e2
    exact e2
  refine ⟨hl, fun i hi => ?_⟩
  match i, hi with
  | 0, _ => exact ⟨_, e0, _, rfl⟩
  | 1, _ => exact ⟨_, e1', _, rfl⟩
  | 2, _ => exact ⟨_, e2', _, rfl⟩

set_option maxRecDepth 100000 in
theorem open_op12 {W : World} {base : Nat} {v : Value} {d : DataW H} {ps : List MemPlace} (hok : Value.okWide Try.prog W .any base 22 v) (h : DataW.Trod enc Try.prog W 0 (fun _ => true) true 22 v d ps) :
    ∃ (sa : Option Addr) (len cap sb off : Nat) (zs : Nat → Nat → Int), v = .slice sa len cap ∧ len ≤ maxLen ∧ (0 < len → sa = some ⟨sb, off, none⟩ ∧ sb < W.heap.size) ∧
      (∀ j, j < len → ∀ i, i < 3 → W.cell? ⟨sb, off + j * 3 + i, none⟩ = some (.int .i64 (zs j i))) := by
  obtain ⟨sa, len, cap, sb, off, cv, rfl, hm, hs, hc⟩ := open_each Pr12 Try.underlying22 (K := 3) (by kernel_rfl) (Nat.succ_pos 2) (fun fuel cs x h => op12_cells h) hok h
  refine ⟨sa, len, cap, sb, off, fun j i => intOf (cv j i), rfl, hm, hs, fun j hj i hi => ?_⟩
  obtain ⟨h1, z, e⟩ := hc j hj i hi
  rw [h1]
  simp only [e]
  rfl

/-- A struct of two integers that came in by value. -/
theorem open_two {P : Program} {W : World} {e it : TypeId} {base : Nat} {fs : Array Field} {v : Value} {d : DataW H} {ps : List MemPlace} (he : P.underlying e = some (.struct fs)) (ce : P.cellsOf e = 2) (hi : P.underlying it = some (.int .i64)) (ci : P.cellsOf it = 1)
    (hfs : ∀ i, i < 2 → ∃ f : Field, fs[i]? = some f ∧ f.offset = i ∧ f.type = it)
    (hok : Value.okWide P W .any base e v) (h : DataW.Trod enc P W 0 (fun _ => true) true e v d ps) : ∃ x y : Int, v = .agg #[.int .i64 x, .int .i64 y] := by
  obtain ⟨cs, rfl, hsz⟩ := okWide_struct he hok
  obtain ⟨fuel, hf⟩ := h
  obtain ⟨_, h3⟩ := struct_ints he ce hi ci hfs hf
  obtain ⟨x, hx⟩ := h3 0 (by omega)
  obtain ⟨y, hy⟩ := h3 1 (by omega)
  rw [ce] at hsz
  obtain ⟨l⟩ := cs
  match l, hsz with
  | [c0, c1], _ =>
  simp [Value.cells] at hx hy
  subst hx hy
  exact ⟨x, y, rfl⟩
end
end Go.Proofs.Ytmmpnfkfieikcaa
