/-
  A slice of layer 5's steps that came in, as walks want it. (No condition.)
-/
import Derived.Test.YtbkjdbimkofceaaDoorShutM
namespace Go.Proofs.YtbkjdbimkofceaaDoor
open Go.ChangeShapes Go.WideShapes Go.ChangeAt Go.RowKit Go.Deep

section
variable {H : Type} {enc : TypeId × Value → H}
def Pr5 (i : Nat) (c : Value) : Prop := (i < 5 → ∃ z : Int, c = .int .i64 z) ∧ (i = 5 → ∃ h : Nat, c = .int .u64 h ∧ h < 18446744073709551616)

theorem op5_cells {W : World} {fuel : Nat} {cs : List Value} {x : DataW H × List MemPlace} (h : DataW.trod enc Tryd.prog W 0 (fun _ => true) true fuel 35 cs = some x) : cs.length = 6 ∧ ∀ i, i < 6 → ∃ c, cs[i]? = some c ∧ Pr5 i c := by
  obtain ⟨hl, hf⟩ := field_trod Tryd.underlying35 h
  have ce : Tryd.prog.cellsOf 35 = 6 := by kernel_rfl
  have cc : Tryd.prog.cellsOf 33 = 3 := by kernel_rfl
  have ci : Tryd.prog.cellsOf 3 = 1 := by kernel_rfl
  have cu : Tryd.prog.cellsOf 23 = 1 := by kernel_rfl
  rw [ce] at hl
  obtain ⟨_, _, t0⟩ := hf 0 _ rfl
  obtain ⟨_, _, t1⟩ := hf 1 _ rfl
  obtain ⟨_, _, t2⟩ := hf 2 _ rfl
  obtain ⟨_, _, t5⟩ := hf 3 _ rfl
  obtain ⟨z0, e0, _⟩ := leaf_int (o := 0) Tryd.underlying3 ci (by omega) t0
  obtain ⟨z1, e1, _⟩ := leaf_int (o := 1) Tryd.underlying3 ci (by omega) t1
  obtain ⟨z5, e5, w5⟩ := leaf_int (o := 5) Tryd.underlying23 cu (by omega) t5
  have t2' : DataW.trod enc Tryd.prog W 0 (fun _ => true) true _ 33 ((cs.drop 2).take (Tryd.prog.cellsOf 33)) = some _ := t2
  obtain ⟨hl2, hf2⟩ := field_trod Tryd.underlying33 t2'
  rw [cc] at hl2
  obtain ⟨_, _, s0⟩ := hf2 0 _ rfl
  obtain ⟨_, _, s1⟩ := hf2 1 _ rfl
  obtain ⟨_, _, s2⟩ := hf2 2 _ rfl
  have hl3 : ((cs.drop 2).take (Tryd.prog.cellsOf 33)).length = 3 := by rw [cc]; simp; omega
  have hat : ∀ o, o < 3 → ((cs.drop 2).take (Tryd.prog.cellsOf 33))[o]? = cs[2 + o]? := fun o ho => by rw [cc, List.getElem?_take_of_lt ho, List.getElem?_drop]
  obtain ⟨z2, e2, _⟩ := leaf_int (o := 0) Tryd.underlying3 ci (by omega) s0
  obtain ⟨z3, e3, _⟩ := leaf_int (o := 1) Tryd.underlying3 ci (by omega) s1
  obtain ⟨z4, e4, _⟩ := leaf_int (o := 2) Tryd.underlying3 ci (by omega) s2
  rw [hat 0 (by omega)] at e2
  rw [hat 1 (by omega)] at e3
  rw [hat 2 (by omega)] at e4
  have h' : (0 : Int) ≤ z5 ∧ z5 ≤ 18446744073709551615 := by simpa [Lit.wf, IntKind.min, IntKind.max, IntKind.bits, IntKind.signed] using w5
  refine ⟨hl, fun i hi => ?_⟩
  match i, hi with
  | 0, _ => exact ⟨_, e0, fun _ => ⟨_, rfl⟩, fun h => by cases h⟩
  | 1, _ => exact ⟨_, e1, fun _ => ⟨_, rfl⟩, fun h => by cases h⟩
  | 2, _ => exact ⟨_, e2, fun _ => ⟨_, rfl⟩, fun h => by cases h⟩
  | 3, _ => exact ⟨_, e3, fun _ => ⟨_, rfl⟩, fun h => by cases h⟩
  | 4, _ => exact ⟨_, e4, fun _ => ⟨_, rfl⟩, fun h => by cases h⟩
  | 5, _ => exact ⟨_, e5, fun h => absurd h (by omega), fun _ => ⟨z5.toNat, by rw [Int.toNat_of_nonneg h'.1], by omega⟩⟩

set_option maxRecDepth 100000 in
theorem open_op5 {W : World} {base : Nat} {v : Value} {d : DataW H} {ps : List MemPlace} (hok : Value.okWide Tryd.prog W .any base 22 v) (h : DataW.Trod enc Tryd.prog W 0 (fun _ => true) true 22 v d ps) :
    ∃ (sa : Option Addr) (len cap sb off : Nat) (zs : Nat → Nat → Int) (hh : Nat → Nat), v = .slice sa len cap ∧ len ≤ maxLen ∧ (0 < len → sa = some ⟨sb, off, none⟩ ∧ sb < W.heap.size) ∧
      (∀ j, j < len → (∀ i, i < 5 → W.cell? ⟨sb, off + j * 6 + i, none⟩ = some (.int .i64 (zs j i))) ∧ W.cell? ⟨sb, off + j * 6 + 5, none⟩ = some (.int .u64 (hh j : Nat)) ∧ hh j < 18446744073709551616) := by
  obtain ⟨sa, len, cap, sb, off, cv, rfl, hm, hs, hc⟩ := open_each Pr5 Tryd.underlying22 (K := 6) (by kernel_rfl) (Nat.succ_pos 5) (fun fuel cs x h => op5_cells h) hok h
  refine ⟨sa, len, cap, sb, off, fun j i => intOf (cv j i), fun j => (intOf (cv j 5)).toNat, rfl, hm, hs, fun j hj => ⟨fun i hi => ?_, ?_⟩⟩
  · obtain ⟨h1, h2, _⟩ := hc j hj i (by omega)
    obtain ⟨z, e⟩ := h2 hi
    rw [h1]
    simp only [e]
    rfl
  · obtain ⟨h1, _, h2⟩ := hc j hj 5 (by omega)
    obtain ⟨n, e, hn⟩ := h2 rfl
    rw [h1]
    simp only [e]
    exact ⟨rfl, by simpa [intOf] using hn⟩
end
end Go.Proofs.YtbkjdbimkofceaaDoor
