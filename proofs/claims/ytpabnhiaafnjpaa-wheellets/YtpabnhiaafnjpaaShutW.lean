/-
  A slice of words that came in, as natural numbers with their bounds. (No condition.)
-/
import Derived.Test.YtpabnhiaafnjpaaShut
namespace Go.Proofs.Ytpabnhiaafnjpaa
open Go.ChangeShapes Go.WideShapes Go.ChangeAt Go.RowKit Go.Deep

section
variable {H : Type} {enc : TypeId × Value → H} {P : Program}
theorem open_wordsb {W : World} {t e : TypeId} {base : Nat} {v : Value} {d : DataW H} {ps : List MemPlace} (ht : P.underlying t = some (.slice e)) (he : P.underlying e = some (.int .u64)) (hc : P.cellsOf e = 1)
    (hok : Value.okWide P W .any base t v) (h : DataW.Trod enc P W 0 (fun _ => true) true t v d ps) :
    ∃ (sa : Option Addr) (len cap sb off : Nat) (zs : Nat → Nat), v = .slice sa len cap ∧ len ≤ maxLen ∧ (0 < len → sa = some ⟨sb, off, none⟩ ∧ sb < W.heap.size) ∧ (∀ j, j < len → W.cell? ⟨sb, off + j, none⟩ = some (.int .u64 ((zs j : Nat) : Int)) ∧ zs j < 18446744073709551616) := by
  obtain ⟨sa, len, cap, rfl⟩ := okWide_slice ht hok
  obtain ⟨fuel, hf⟩ := h
  rcases open_ints ht he hc hf with ⟨hcs, _⟩ | ⟨a, len', cap', zs, hcs, _, hl, hm, hz, _, hcell, hwf⟩
  · simp [Value.cells] at hcs
    obtain ⟨rfl, rfl, rfl⟩ := hcs
    exact ⟨none, 0, 0, 0, 0, fun _ => 0, rfl, Nat.zero_le _, fun h => absurd h (by omega), fun j hj => absurd hj (by omega)⟩
  · simp [Value.cells] at hcs
    obtain ⟨rfl, rfl, rfl⟩ := hcs
    simp only [if_true] at hz
    obtain ⟨b, off, spot⟩ := a
    have hsp : 0 < len → spot = none := fun h0 => by simpa [Addr.add] using World.cell?_spot (hcell 0 (by omega))
    refine ⟨_, len, cap, b, off, fun j => (zs.getD j 0).toNat, rfl, Nat.le_trans hl hm, fun h0 => ?_, fun j hj => ?_⟩
    · obtain rfl := hsp h0
      have h1 := hcell 0 (by omega)
      exact ⟨rfl, cell_block h1⟩
    · obtain rfl := hsp (by omega)
      rw [← add_plain]
      have hj2 : j < zs.length := by omega
      have hw := hwf (zs.getD j 0) (by rw [List.getD_eq_getElem?_getD, List.getElem?_eq_getElem hj2]; exact List.getElem_mem hj2)
      have h' : (0 : Int) ≤ zs.getD j 0 ∧ zs.getD j 0 ≤ 18446744073709551615 := by simpa [Lit.wf, IntKind.min, IntKind.max, IntKind.bits, IntKind.signed] using hw
      refine ⟨?_, by show (zs.getD j 0).toNat < _; omega⟩
      have e : (((zs.getD j 0).toNat : Nat) : Int) = zs.getD j 0 := by omega
      show _ = some (Value.int .u64 (((zs.getD j 0).toNat : Nat) : Int))
      rw [e]
      exact hcell j hj2
end
end Go.Proofs.Ytpabnhiaafnjpaa
