/-
  A slice of integers that came in, with its capacity, as the walks of the slabs want it. (No condition.)
-/
import Derived.Test.YtchookgdajkipaaDoorShut
namespace Go.Proofs.YtchookgdajkipaaDoor
open Go.ChangeShapes Go.WideShapes Go.ChangeAt Go.RowKit Go.Deep

section
variable {H : Type} {enc : TypeId × Value → H} {P : Program}
theorem open_listc {W : World} {t e : TypeId} {base : Nat} {v : Value} {d : DataW H} {ps : List MemPlace} (ht : P.underlying t = some (.slice e)) (he : P.underlying e = some (.int .i64)) (hc : P.cellsOf e = 1)
    (hok : Value.okWide P W .any base t v) (h : DataW.Trod enc P W 0 (fun _ => true) true t v d ps) :
    ∃ (sa : Option Addr) (len cap sb off : Nat) (zs : Nat → Int), v = .slice sa len cap ∧ (len ≤ cap ∧ cap ≤ maxLen) ∧ (0 < len → sa = some ⟨sb, off, none⟩ ∧ sb < W.heap.size) ∧ (∀ j, j < len → W.cell? ⟨sb, off + j, none⟩ = some (.int .i64 (zs j))) := by
  obtain ⟨sa, len, cap, rfl⟩ := okWide_slice ht hok
  obtain ⟨fuel, hf⟩ := h
  rcases open_ints ht he hc hf with ⟨hcs, _⟩ | ⟨a, len', cap', zs, hcs, _, hl, hm, hz, _, hcell, _⟩
  · simp [Value.cells] at hcs
    obtain ⟨rfl, rfl, rfl⟩ := hcs
    exact ⟨none, 0, 0, 0, 0, fun _ => 0, rfl, ⟨Nat.le_refl _, Nat.zero_le _⟩, fun h => absurd h (by omega), fun j hj => absurd hj (by omega)⟩
  · simp [Value.cells] at hcs
    obtain ⟨rfl, rfl, rfl⟩ := hcs
    simp only [if_true] at hz
    obtain ⟨b, off, spot⟩ := a
    have hsp : 0 < len → spot = none := fun h0 => by simpa [Addr.add] using World.cell?_spot (hcell 0 (by omega))
    refine ⟨_, len, cap, b, off, fun j => zs.getD j 0, rfl, ⟨hl, hm⟩, fun h0 => ?_, fun j hj => ?_⟩
    · obtain rfl := hsp h0
      have h1 := hcell 0 (by omega)
      exact ⟨rfl, cell_block h1⟩
    · obtain rfl := hsp (by omega)
      rw [← add_plain]
      exact hcell j (by omega)
end
end Go.Proofs.YtchookgdajkipaaDoor
