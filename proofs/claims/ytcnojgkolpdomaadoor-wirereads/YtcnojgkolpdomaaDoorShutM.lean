/-
  Slices of structs of mixed fields that came in, as walks want them. (No condition.)
-/
import Derived.Test.YtcnojgkolpdomaaDoorShut
namespace Go.Proofs.YtcnojgkolpdomaaDoor
open Go.ChangeShapes Go.WideShapes Go.ChangeAt Go.RowKit Go.Deep

section
variable {H : Type} {enc : TypeId × Value → H} {P : Program}

/-- A struct's field, read by itself. -/
theorem field_trod {W : World} {e : TypeId} {fs : Array Field} {fuel : Nat} {cs : List Value} {x : DataW H × List MemPlace} {base : Nat} {sp : Nat → Bool} {held : Bool} (he : P.underlying e = some (.struct fs))
    (h : DataW.trod enc P W base sp held fuel e cs = some x) : cs.length = P.cellsOf e ∧ ∀ (i : Nat) (f : Field), fs[i]? = some f → ∃ fuel' x', DataW.trod enc P W base sp held fuel' f.type ((cs.drop f.offset).take (P.cellsOf f.type)) = some x' := by
  obtain ⟨xs, n, _, _, hl, hxl, hf⟩ := DataW.trod_struct he h
  refine ⟨hl, fun i f hi => ?_⟩
  have h1 := hf i f hi
  have hi2 : i < xs.length := by
    rw [hxl]; exact (Array.getElem?_eq_some_iff.1 hi).1
  rw [List.getElem?_eq_getElem hi2] at h1
  exact ⟨_, _, h1⟩
/-- A number in a struct. -/
theorem leaf_int {W : World} {t : TypeId} {k : IntKind} {fuel o : Nat} {cs : List Value} {x : DataW H × List MemPlace} {base : Nat} {sp : Nat → Bool} {held : Bool} (hu : P.underlying t = some (.int k)) (ci : P.cellsOf t = 1) (ho : o < cs.length)
    (h : DataW.trod enc P W base sp held fuel t ((cs.drop o).take (P.cellsOf t)) = some x) : ∃ z : Int, cs[o]? = some (.int k z) ∧ (Lit.int k z).wf = true := by
  rw [ci] at h
  have hd : (cs.drop o).take 1 = [cs[o]'ho] := by
    rw [List.drop_eq_getElem_cons ho]; rfl
  rw [hd] at h
  obtain ⟨z, e1, _, hw⟩ := DataW.trod_int hu h
  simp only [List.cons.injEq, and_true] at e1
  exact ⟨z, by rw [List.getElem?_eq_getElem ho, e1], hw⟩

/-- A slice whose elements' cells are each of a kind. -/
theorem open_each {W : World} {t e : TypeId} {K base : Nat} {v : Value} {d : DataW H} {ps : List MemPlace} (Pr : Nat → Value → Prop) (ht : P.underlying t = some (.slice e)) (ce : P.cellsOf e = K) (hK : 0 < K)
    (hst : ∀ fuel cs x, DataW.trod enc P W 0 (fun _ => true) true fuel e cs = some x → cs.length = K ∧ ∀ i, i < K → ∃ c, cs[i]? = some c ∧ Pr i c)
    (hok : Value.okWide P W .any base t v) (h : DataW.Trod enc P W 0 (fun _ => true) true t v d ps) :
    ∃ (sa : Option Addr) (len cap sb off : Nat) (cv : Nat → Nat → Value), v = .slice sa len cap ∧ len ≤ maxLen ∧ (0 < len → sa = some ⟨sb, off, none⟩ ∧ sb < W.heap.size) ∧ (∀ j, j < len → ∀ i, i < K → W.cell? ⟨sb, off + j * K + i, none⟩ = some (cv j i) ∧ Pr i (cv j i)) := by
  obtain ⟨sa, len, cap, rfl⟩ := okWide_slice ht hok
  obtain ⟨fuel, hf⟩ := h
  rcases open_slice ht hf with ⟨hcs, _⟩ | ⟨a, len', cap', m, n, D, Pl, hcs, _, hl, hm, hmm, _, hx⟩
  · simp [Value.cells] at hcs
    obtain ⟨rfl, rfl, rfl⟩ := hcs
    exact ⟨none, 0, 0, 0, 0, fun _ _ => .int .i64 0, rfl, Nat.zero_le _, fun h => absurd h (by omega), fun j hj => absurd hj (by omega)⟩
  · simp [Value.cells] at hcs
    obtain ⟨rfl, rfl, rfl⟩ := hcs
    simp only [if_true] at hmm
    subst hmm
    obtain ⟨b, off, spot⟩ := a
    rw [ce] at hx
    have each : ∀ j, j < len → ∀ i, i < K → ∃ c, W.cell? ((⟨b, off, spot⟩ : Addr).add (j * K + i)) = some c ∧ Pr i c := fun j hj i hi2 => by
      obtain ⟨cs', h1, h2⟩ := hx j (by omega)
      obtain ⟨_, hlen, hcell⟩ := World.cells?_some h1
      obtain ⟨_, h3⟩ := hst _ _ _ h2
      obtain ⟨c, hc, hp⟩ := h3 i hi2
      have h4 := hcell i (by omega)
      rw [add_add, hc] at h4
      exact ⟨c, h4, hp⟩
    have hsp : 0 < len → spot = none := fun h0 => by
      obtain ⟨c, hc, _⟩ := each 0 h0 0 hK
      simpa [Addr.add] using World.cell?_spot hc
    refine ⟨_, len, m, b, off, fun j i => (W.cell? ⟨b, off + j * K + i, none⟩).getD (.int .i64 0), rfl, by omega, fun h0 => ?_, fun j hj i hi2 => ?_⟩
    · obtain rfl := hsp h0
      obtain ⟨c, hc, _⟩ := each 0 h0 0 hK
      rw [add_plain] at hc
      exact ⟨rfl, cell_block hc⟩
    · obtain rfl := hsp (by omega)
      obtain ⟨c, hc, hp⟩ := each j hj i hi2
      rw [add_plain, ← Nat.add_assoc] at hc
      show _ = some ((W.cell? ⟨b, off + j * K + i, none⟩).getD (.int .i64 0)) ∧ Pr i ((W.cell? ⟨b, off + j * K + i, none⟩).getD (.int .i64 0))
      rw [hc]
      exact ⟨rfl, hp⟩
end
end Go.Proofs.YtcnojgkolpdomaaDoor
