/-
  A slice of layer 13's steps that came in, as walks want it. (No condition.)
-/
import Derived.Test.YtpnipmjjhiaieaaShutM
namespace Go.Proofs.Ytpnipmjjhiaieaa
open Go.ChangeShapes Go.WideShapes Go.ChangeAt Go.RowKit Go.Deep

section
variable {H : Type} {enc : TypeId × Value → H}
def Pr13 (i : Nat) (c : Value) : Prop := (i ≠ 3 → ∃ z : Int, c = .int .i64 z) ∧ (i = 3 → ∃ h : Nat, c = .int .u64 h ∧ h < 18446744073709551616)

theorem op13_cells {W : World} {fuel : Nat} {cs : List Value} {x : DataW H × List MemPlace} (h : DataW.trod enc Try.prog W 0 (fun _ => true) true fuel 32 cs = some x) : cs.length = 5 ∧ ∀ i, i < 5 → ∃ c, cs[i]? = some c ∧ Pr13 i c := by
  obtain ⟨hl, hf⟩ := field_trod Try.underlying32 h
  have ce : Try.prog.cellsOf 32 = 5 := by kernel_rfl
  have ci : Try.prog.cellsOf 3 = 1 := by kernel_rfl
  have cu : Try.prog.cellsOf 30 = 1 := by kernel_rfl
  rw [ce] at hl
  obtain ⟨_, _, t0⟩ := hf 0 _ rfl
  obtain ⟨_, _, t1⟩ := hf 1 _ rfl
  obtain ⟨_, _, t2⟩ := hf 2 _ rfl
  obtain ⟨_, _, t3⟩ := hf 3 _ rfl
  obtain ⟨_, _, t4⟩ := hf 4 _ rfl
  obtain ⟨z0, e0, _⟩ := leaf_int (o := 0) Try.underlying3 ci (by omega) t0
  obtain ⟨z1, e1, _⟩ := leaf_int (o := 1) Try.underlying3 ci (by omega) t1
  obtain ⟨z2, e2, _⟩ := leaf_int (o := 2) Try.underlying3 ci (by omega) t2
  obtain ⟨z3, e3, w2⟩ := leaf_int (o := 3) Try.underlying30 cu (by omega) t3
  obtain ⟨z4, e4, _⟩ := leaf_int (o := 4) Try.underlying3 ci (by omega) t4
  have h' : (0 : Int) ≤ z3 ∧ z3 ≤ 18446744073709551615 := by simpa [Lit.wf, IntKind.min, IntKind.max, IntKind.bits, IntKind.signed] using w2
  refine ⟨hl, fun i hi => ?_⟩
  match i, hi with
  | 0, _ => exact ⟨_, e0, fun _ => ⟨_, rfl⟩, fun h => by cases h⟩
  | 1, _ => exact ⟨_, e1, fun _ => ⟨_, rfl⟩, fun h => by cases h⟩
  | 2, _ => exact ⟨_, e2, fun _ => ⟨_, rfl⟩, fun h => by cases h⟩
  | 3, _ => exact ⟨_, e3, fun h => absurd rfl h, fun _ => ⟨z3.toNat, by rw [Int.toNat_of_nonneg h'.1], by omega⟩⟩
  | 4, _ => exact ⟨_, e4, fun _ => ⟨_, rfl⟩, fun h => by cases h⟩

set_option maxRecDepth 100000 in
theorem open_op13 {W : World} {base : Nat} {v : Value} {d : DataW H} {ps : List MemPlace} (hok : Value.okWide Try.prog W .any base 22 v) (h : DataW.Trod enc Try.prog W 0 (fun _ => true) true 22 v d ps) :
    ∃ (sa : Option Addr) (len cap sb off : Nat) (zs : Nat → Nat → Int) (hh : Nat → Nat), v = .slice sa len cap ∧ len ≤ maxLen ∧ (0 < len → sa = some ⟨sb, off, none⟩ ∧ sb < W.heap.size) ∧
      (∀ j, j < len → (∀ i, i < 5 → i ≠ 3 → W.cell? ⟨sb, off + j * 5 + i, none⟩ = some (.int .i64 (zs j i))) ∧ W.cell? ⟨sb, off + j * 5 + 3, none⟩ = some (.int .u64 (hh j : Nat)) ∧ hh j < 18446744073709551616) := by
  obtain ⟨sa, len, cap, sb, off, cv, rfl, hm, hs, hc⟩ := open_each Pr13 Try.underlying22 (K := 5) (by kernel_rfl) (Nat.succ_pos 4) (fun fuel cs x h => op13_cells h) hok h
  refine ⟨sa, len, cap, sb, off, fun j i => intOf (cv j i), fun j => (intOf (cv j 3)).toNat, rfl, hm, hs, fun j hj => ⟨fun i hi h2' => ?_, ?_⟩⟩
  · obtain ⟨h1, h2, _⟩ := hc j hj i (by omega)
    obtain ⟨z, e⟩ := h2 h2'
    rw [h1]
    simp only [e]
    rfl
  · obtain ⟨h1, _, h2⟩ := hc j hj 3 (by omega)
    obtain ⟨n, e, hn⟩ := h2 rfl
    rw [h1]
    simp only [e]
    exact ⟨rfl, by simpa [intOf] using hn⟩
end
end Go.Proofs.Ytpnipmjjhiaieaa
