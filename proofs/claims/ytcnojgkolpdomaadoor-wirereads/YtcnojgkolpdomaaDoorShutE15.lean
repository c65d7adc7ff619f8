/-
  Slices of entries, and of slices of bytes, that came in, as walks want them. (No condition.)
-/
import Derived.Test.YtcnojgkolpdomaaDoorShutC14
import Derived.Test.YtcnojgkolpdomaaDoorWire6a
namespace Go.Proofs.YtcnojgkolpdomaaDoor
open Go.ChangeShapes Go.WideShapes Go.ChangeAt Go.RowKit Go.Deep

section
variable {H : Type} {enc : TypeId × Value → H}
theorem entry_cells {W : World} {base : Nat} {sp : Nat → Bool} {held : Bool} {fuel : Nat} {cs : List Value} {x : DataW H × List MemPlace} (h : DataW.trod enc Tryd.prog W base sp held fuel 55 cs = some x) :
    ∃ e : En, smC e.call ∧ cs = e.cells := by
  obtain ⟨hl, hf⟩ := field_trod Tryd.underlying55 h
  have ce : Tryd.prog.cellsOf 55 = 9 := by kernel_rfl
  have cc : Tryd.prog.cellsOf 24 = 4 := by kernel_rfl
  have ci : Tryd.prog.cellsOf 3 = 1 := by kernel_rfl
  rw [ce] at hl
  obtain ⟨_, _, t0⟩ := hf 0 _ rfl
  obtain ⟨_, _, t1⟩ := hf 1 _ rfl
  obtain ⟨_, _, t2⟩ := hf 2 _ rfl
  obtain ⟨_, _, t3⟩ := hf 3 _ rfl
  obtain ⟨_, _, t4⟩ := hf 4 _ rfl
  obtain ⟨_, _, t5⟩ := hf 5 _ rfl
  obtain ⟨z0, e0, _⟩ := leaf_int (o := 0) Tryd.underlying3 ci (by omega) t0
  obtain ⟨z1, e1, _⟩ := leaf_int (o := 1) Tryd.underlying3 ci (by omega) t1
  obtain ⟨z2, e2, _⟩ := leaf_int (o := 2) Tryd.underlying3 ci (by omega) t2
  obtain ⟨z7, e7, _⟩ := leaf_int (o := 7) Tryd.underlying3 ci (by omega) t4
  obtain ⟨z8, e8, _⟩ := leaf_int (o := 8) Tryd.underlying3 ci (by omega) t5
  have t3' : DataW.trod enc Tryd.prog W base sp held _ 24 ((cs.drop 3).take (Tryd.prog.cellsOf 24)) = some _ := t3
  obtain ⟨y, hy, ey⟩ := call_cells t3'
  rw [cc] at ey
  refine ⟨⟨z0, z1, z2, y, z7, z8⟩, hy, ?_⟩
  match cs, hl, e0, e1, e2, e7, e8, ey with
  | [c0, c1, c2, c3, c4, c5, c6, c7, c8], _, e0, e1, e2, e7, e8, ey =>
    simp at e0 e1 e2 e7 e8 ey
    obtain ⟨rfl, rfl, rfl, rfl⟩ := ey
    subst e0 e1 e2 e7 e8
    rfl
/-- The entries that a row of cells tells. -/
def takeE (es : Nat → En) : Nat → List En
  | 0 => []
  | n + 1 => takeE es n ++ [es n]
theorem takeE_len (es : Nat → En) : ∀ n, (takeE es n).length = n
  | 0 => rfl
  | n + 1 => by simp [takeE, takeE_len es n]
theorem takeE_at (es : Nat → En) : ∀ n j (h : j < (takeE es n).length), (takeE es n)[j] = es j
  | n + 1, j, h => by
    have hl := takeE_len es n
    rw [takeE_len] at h
    simp only [takeE]
    by_cases e : j < n
    · rw [List.getElem_append_left (by omega)]; exact takeE_at es n j (by omega)
    · obtain rfl : j = n := by omega
      rw [List.getElem_append_right (by omega)]; simp
theorem open_entries {W : World} {base : Nat} {v : Value} {d : DataW H} {ps : List MemPlace} (hok : Value.okWide Tryd.prog W .any base 48 v) (h : DataW.Trod enc Tryd.prog W 0 (fun _ => true) true 48 v d ps) : ∃ L : List En, ReadsE W v L := by
  obtain ⟨sa, len, cap, rfl⟩ := okWide_slice Tryd.underlying48 hok
  obtain ⟨fuel, hf⟩ := h
  rcases open_slice Tryd.underlying48 hf with ⟨hcs, _⟩ | ⟨a, len', cap', m, n, D, Pl, hcs, _, hl, hm, hmm, _, hx⟩
  · simp [Value.cells] at hcs
    obtain ⟨rfl, rfl, rfl⟩ := hcs
    exact ⟨[], none, 0, rfl, Nat.zero_le _, by decide, fun x hx => absurd hx (by simp), fun h => absurd h (by simp)⟩
  · simp [Value.cells] at hcs
    obtain ⟨rfl, rfl, rfl⟩ := hcs
    simp only [if_true] at hmm
    subst hmm
    obtain ⟨b, off, spot⟩ := a
    have ce : Tryd.prog.cellsOf 55 = 9 := by kernel_rfl
    rw [ce] at hx
    have each : ∀ j, j < len → ∃ e : En, smC e.call ∧ ∀ i, i < 9 → W.cell? ((⟨b, off, spot⟩ : Addr).add (j * 9 + i)) = e.cells[i]? := fun j hj => by
      obtain ⟨cs', h1, h2⟩ := hx j (by omega)
      obtain ⟨_, hlen, hcell⟩ := World.cells?_some h1
      obtain ⟨e, he, rfl⟩ := entry_cells h2
      refine ⟨e, he, fun i hi => ?_⟩
      have h4 := hcell i (by omega)
      rwa [add_add] at h4
    obtain ⟨es, hes⟩ : ∃ es : Nat → En, ∀ j, j < len → smC (es j).call ∧ ∀ i, i < 9 → W.cell? ((⟨b, off, spot⟩ : Addr).add (j * 9 + i)) = (es j).cells[i]? := by
      refine ⟨fun j => if hj : j < len then Classical.choose (each j hj) else zE, fun j hj => ?_⟩
      simp only [dif_pos hj]
      exact Classical.choose_spec (each j hj)
    have hsp : 0 < len → spot = none := fun h0 => by
      have hc := (hes 0 h0).2 0 (by decide)
      have : W.cell? ((⟨b, off, spot⟩ : Addr).add (0 * 9 + 0)) = some (.int .i64 (es 0).kind) := hc
      simpa [Addr.add] using World.cell?_spot this
    have hN := takeE_len es len
    refine ⟨takeE es len, some ⟨b, off, spot⟩, m, by rw [hN], by rw [hN]; omega, by omega, ?_, fun h0 => ?_⟩
    · intro e he
      obtain ⟨j, hj, rfl⟩ := List.getElem_of_mem he
      rw [takeE_at]
      exact (hes j (by omega)).1
    · rw [hN] at h0
      obtain rfl := hsp h0
      have hb := (hes 0 h0).2 0 (by decide)
      have hb2 : W.cell? ((⟨b, off, none⟩ : Addr).add (0 * 9 + 0)) = some (.int .i64 (es 0).kind) := hb
      refine ⟨b, off, rfl, by have := cell_block hb2; simpa [Addr.add] using this, fun j hj i hi => ?_⟩
      rw [takeE_at]
      rw [hN] at hj
      have := (hes j hj).2 i hi
      rwa [add_plain, ← Nat.add_assoc] at this
end
end Go.Proofs.YtcnojgkolpdomaaDoor
