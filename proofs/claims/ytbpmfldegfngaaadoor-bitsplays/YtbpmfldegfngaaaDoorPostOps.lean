/-
  A slice of steps (pairs of numbers) that came in, nil or not, as the walk of BitsPlays wants it.
-/
import Derived.Test.YtbpmfldegfngaaaDoorPost
import Derived.Deep.SlicePairs
namespace Go.Proofs.YtbpmfldegfngaaaDoor
open Go.ChangeShapes Go.WideShapes Go.ChangeAt Go.RowKit Go.Deep

theorem open_ops {H : Type} {enc : TypeId × Value → H} {W : World} {base : Nat} {v : Value} {d : DataW H} {ps : List MemPlace}
    (hok : Value.okWide Tryd.prog W .any base 22 v) (h : DataW.Trod enc Tryd.prog W 0 (fun _ => true) true 22 v d ps) :
    ∃ (sa : Option Addr) (len cap sb off : Nat) (zs : Nat → Int × Int), v = .slice sa len cap ∧ len ≤ maxLen ∧ (0 < len → sa = some ⟨sb, off, none⟩ ∧ sb < W.heap.size) ∧
      (∀ j, j < len → W.cell? ⟨sb, off + j * 2, none⟩ = some (.int .i64 (zs j).1) ∧ W.cell? ⟨sb, off + j * 2 + 1, none⟩ = some (.int .i64 (zs j).2)) := by
  obtain ⟨sa, len, cap, rfl⟩ := okWide_slice Tryd.underlying22 hok
  obtain ⟨fuel, hf⟩ := h
  rcases open_slice_pairs Tryd.underlying22 Tryd.underlying29 (by kernel_rfl) rfl rfl (by kernel_rfl) (by kernel_rfl) hf with ⟨hcs, _⟩ | ⟨a, len', cap', m, fn, V0, V1, D0, D1, P0, P1, hcs, _, hl, hm, hmm, _, hcell⟩
  · simp [Value.cells] at hcs
    obtain ⟨rfl, rfl, rfl⟩ := hcs
    exact ⟨none, 0, 0, 0, 0, fun _ => (0, 0), rfl, Nat.zero_le _, fun h => absurd h (by omega), fun j hj => absurd hj (by omega)⟩
  · simp [Value.cells] at hcs
    obtain ⟨rfl, rfl, rfl⟩ := hcs
    simp only [if_true] at hmm
    subst hmm
    obtain ⟨b, off, spot⟩ := a
    have hsp : 0 < len → spot = none := fun h0 => by simpa [Addr.add] using World.cell?_spot (hcell 0 (by omega)).1
    refine ⟨_, len, m, b, off, fun j => (intOf (V0 j), intOf (V1 j)), rfl, by omega, fun h0 => ?_, fun j hj => ?_⟩
    · obtain rfl := hsp h0
      have h1 := (hcell 0 (by omega)).1
      exact ⟨rfl, cell_block h1⟩
    · obtain rfl := hsp (by omega)
      obtain ⟨h1, h2, h3, h4⟩ := hcell j (by omega)
      obtain ⟨x, e1, _, _⟩ := DataW.trod_int Tryd.underlying3 h3
      obtain ⟨y, e2, _, _⟩ := DataW.trod_int Tryd.underlying3 h4
      simp only [List.cons.injEq, and_true] at e1 e2
      rw [add_plain] at h1 h2
      rw [e1] at h1
      rw [e2] at h2
      refine ⟨?_, ?_⟩
      · rw [h1]; show _ = some (Value.int .i64 (intOf (V0 j))); rw [e1]; rfl
      · rw [show off + j * 2 + 1 = off + (j * 2 + 1) by omega, h2]; show _ = some (Value.int .i64 (intOf (V1 j))); rw [e2]; rfl

end Go.Proofs.YtbpmfldegfngaaaDoor
