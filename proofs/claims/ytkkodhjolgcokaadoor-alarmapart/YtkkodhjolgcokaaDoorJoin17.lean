/-
  Texts of one claim, joined, one behind the other.
-/
import Derived.Test.YtkkodhjolgcokaaDoorJoin4
/-
  Slices of structs of mixed fields that came in, as walks want them. (No condition.)
-/
namespace Go.Proofs.YtkkodhjolgcokaaDoor
open Go.ChangeShapes Go.WideShapes Go.ChangeAt Go.RowKit Go.Deep

section
variable {H : Type} {enc : TypeId × Value → H} {P : Program}

/-- A struct's field, read by itself. -/
theorem field_trod {W : World} {e : TypeId} {fs : Array Field} {fuel : Nat} {cs : List Value} {x : DataW H × List MemPlace} {base : Nat} {sp : Nat → Bool} {held : Bool} (he : P.underlying e = some (.struct fs))
    (h : DataW.trod enc P W base sp held fuel e cs = some x) : cs.length = P.cellsOf e ∧ ∀ (i : Nat) (f : Field), fs[i]? = some f → ∃ fuel' x', DataW.trod enc P W base sp held fuel' f.type ((cs.drop f.offset).take (P.cellsOf f.type)) = some x' := by
  obtain ⟨xs, n, _, _, hl, hxl, hf⟩ := DataW.trod_struct he h
  refine ⟨hl, fun i f hi => ?_⟩
  have h1 := hf i f hi
  have hi2 : i < xs.length := by
    rw [hxl]; exact (Array.getElem?_eq_some_iff.1 hi).1
  rw [List.getElem?_eq_getElem hi2] at h1
  exact ⟨_, _, h1⟩
/-- A number in a struct. -/
theorem leaf_int {W : World} {t : TypeId} {k : IntKind} {fuel o : Nat} {cs : List Value} {x : DataW H × List MemPlace} {base : Nat} {sp : Nat → Bool} {held : Bool} (hu : P.underlying t = some (.int k)) (ci : P.cellsOf t = 1) (ho : o < cs.length)
    (h : DataW.trod enc P W base sp held fuel t ((cs.drop o).take (P.cellsOf t)) = some x) : ∃ z : Int, cs[o]? = some (.int k z) ∧ (Lit.int k z).wf = true := by
  rw [ci] at h
  have hd : (cs.drop o).take 1 = [cs[o]'ho] := by
    rw [List.drop_eq_getElem_cons ho]; rfl
  rw [hd] at h
  obtain ⟨z, e1, _, hw⟩ := DataW.trod_int hu h
  simp only [List.cons.injEq, and_true] at e1
  exact ⟨z, by rw [List.getElem?_eq_getElem ho, e1], hw⟩

/-- A slice whose elements' cells are each of a kind. -/
theorem open_each {W : World} {t e : TypeId} {K base : Nat} {v : Value} {d : DataW H} {ps : List MemPlace} (Pr : Nat → Value → Prop) (ht : P.underlying t = some (.slice e)) (ce : P.cellsOf e = K) (hK : 0 < K)
    (hst : ∀ fuel cs x, DataW.trod enc P W 0 (fun _ => true) true fuel e cs = some x → cs.length = K ∧ ∀ i, i < K → ∃ c, cs[i]? = some c ∧ Pr i c)
    (hok : Value.okWide P W .any base t v) (h : DataW.Trod enc P W 0 (fun _ => true) true t v d ps) :
    ∃ (sa : Option Addr) (len cap sb off : Nat) (cv : Nat → Nat → Value), v = .slice sa len cap ∧ len ≤ maxLen ∧ (0 < len → sa = some ⟨sb, off, none⟩ ∧ sb < W.heap.size) ∧ (∀ j, j < len → ∀ i, i < K → W.cell? ⟨sb, off + j * K + i, none⟩ = some (cv j i) ∧ Pr i (cv j i)) := by
  obtain ⟨sa, len, cap, rfl⟩ := okWide_slice ht hok
  obtain ⟨fuel, hf⟩ := h
  rcases open_slice ht hf with ⟨hcs, _⟩ | ⟨a, len', cap', m, n, D, Pl, hcs, _, hl, hm, hmm, _, hx⟩
  · simp [Value.cells] at hcs
    obtain ⟨rfl, rfl, rfl⟩ := hcs
    exact ⟨none, 0, 0, 0, 0, fun _ _ => .int .i64 0, rfl, Nat.zero_le _, fun h => absurd h (by omega), fun j hj => absurd hj (by omega)⟩
  · simp [Value.cells] at hcs
    obtain ⟨rfl, rfl, rfl⟩ := hcs
    simp only [if_true] at hmm
    subst hmm
    obtain ⟨b, off, spot⟩ := a
    rw [ce] at hx
    have each : ∀ j, j < len → ∀ i, i < K → ∃ c, W.cell? ((⟨b, off, spot⟩ : Addr).add (j * K + i)) = some c ∧ Pr i c := fun j hj i hi2 => by
      obtain ⟨cs', h1, h2⟩ := hx j (by omega)
      obtain ⟨_, hlen, hcell⟩ := World.cells?_some h1
      obtain ⟨_, h3⟩ := hst _ _ _ h2
      obtain ⟨c, hc, hp⟩ := h3 i hi2
      have h4 := hcell i (by omega)
      rw [add_add, hc] at h4
      exact ⟨c, h4, hp⟩
    have hsp : 0 < len → spot = none := fun h0 => by
      obtain ⟨c, hc, _⟩ := each 0 h0 0 hK
      simpa [Addr.add] using World.cell?_spot hc
    refine ⟨_, len, m, b, off, fun j i => (W.cell? ⟨b, off + j * K + i, none⟩).getD (.int .i64 0), rfl, by omega, fun h0 => ?_, fun j hj i hi2 => ?_⟩
    · obtain rfl := hsp h0
      obtain ⟨c, hc, _⟩ := each 0 h0 0 hK
      rw [add_plain] at hc
      exact ⟨rfl, cell_block hc⟩
    · obtain rfl := hsp (by omega)
      obtain ⟨c, hc, hp⟩ := each j hj i hi2
      rw [add_plain, ← Nat.add_assoc] at hc
      show _ = some ((W.cell? ⟨b, off + j * K + i, none⟩).getD (.int .i64 0)) ∧ Pr i ((W.cell? ⟨b, off + j * K + i, none⟩).getD (.int .i64 0))
      rw [hc]
      exact ⟨rfl, hp⟩
end
end Go.Proofs.YtkkodhjolgcokaaDoor
/-
  A slice of layer 8's steps that came in, as walks want it. (No condition.)
-/
namespace Go.Proofs.YtkkodhjolgcokaaDoor
open Go.ChangeShapes Go.WideShapes Go.ChangeAt Go.RowKit Go.Deep

section
variable {H : Type} {enc : TypeId × Value → H}
def Pr8 (i : Nat) (c : Value) : Prop := (i < 2 → ∃ z : Int, c = .int .i64 z) ∧ (2 ≤ i → i < 5 → ∃ h : Nat, c = .int .u64 h ∧ h < 18446744073709551616) ∧ (i = 5 → ∃ b : Bool, c = .bool b)

theorem leaf_bool {P : Program} {W : World} {t : TypeId} {fuel o : Nat} {cs : List Value} {x : DataW H × List MemPlace} {base : Nat} {sp : Nat → Bool} {held : Bool} (hu : P.underlying t = some .bool) (ci : P.cellsOf t = 1) (ho : o < cs.length)
    (h : DataW.trod enc P W base sp held fuel t ((cs.drop o).take (P.cellsOf t)) = some x) : ∃ b : Bool, cs[o]? = some (.bool b) := by
  rw [ci] at h
  have hd : (cs.drop o).take 1 = [cs[o]'ho] := by
    rw [List.drop_eq_getElem_cons ho]; rfl
  rw [hd] at h
  obtain ⟨b, e1, _⟩ := DataW.trod_bool hu h
  simp only [List.cons.injEq, and_true] at e1
  exact ⟨b, by rw [List.getElem?_eq_getElem ho, e1]⟩
theorem u64_of {z : Int} (w : (Lit.int .u64 z).wf = true) : ∃ h : Nat, (Value.int .u64 z) = .int .u64 (h : Nat) ∧ h < 18446744073709551616 := by
  have h' : (0 : Int) ≤ z ∧ z ≤ 18446744073709551615 := by simpa [Lit.wf, IntKind.min, IntKind.max, IntKind.bits, IntKind.signed] using w
  exact ⟨z.toNat, by rw [Int.toNat_of_nonneg h'.1], by omega⟩
theorem op8_cells {W : World} {fuel : Nat} {cs : List Value} {x : DataW H × List MemPlace} (h : DataW.trod enc Tryd.prog W 0 (fun _ => true) true fuel 45 cs = some x) : cs.length = 6 ∧ ∀ i, i < 6 → ∃ c, cs[i]? = some c ∧ Pr8 i c := by
  obtain ⟨hl, hf⟩ := field_trod Tryd.underlying45 h
  have ce : Tryd.prog.cellsOf 45 = 6 := by kernel_rfl
  have ci : Tryd.prog.cellsOf 3 = 1 := by kernel_rfl
  have cu : Tryd.prog.cellsOf 22 = 1 := by kernel_rfl
  have cb : Tryd.prog.cellsOf 4 = 1 := by kernel_rfl
  rw [ce] at hl
  obtain ⟨_, _, t0⟩ := hf 0 _ rfl
  obtain ⟨_, _, t1⟩ := hf 1 _ rfl
  obtain ⟨_, _, t2⟩ := hf 2 _ rfl
  obtain ⟨_, _, t3⟩ := hf 3 _ rfl
  obtain ⟨_, _, t4⟩ := hf 4 _ rfl
  obtain ⟨_, _, t5⟩ := hf 5 _ rfl
  obtain ⟨z0, e0, _⟩ := leaf_int (o := 0) Tryd.underlying3 ci (by omega) t0
  obtain ⟨z1, e1, _⟩ := leaf_int (o := 1) Tryd.underlying3 ci (by omega) t1
  obtain ⟨z2, e2, w2⟩ := leaf_int (o := 2) Tryd.underlying22 cu (by omega) t2
  obtain ⟨z3, e3, w3⟩ := leaf_int (o := 3) Tryd.underlying22 cu (by omega) t3
  obtain ⟨z4, e4, w4⟩ := leaf_int (o := 4) Tryd.underlying22 cu (by omega) t4
  obtain ⟨b5, e5⟩ := leaf_bool (o := 5) Tryd.underlying4 cb (by omega) t5
  refine ⟨hl, fun i hi => ?_⟩
  match i, hi with
  | 0, _ => exact ⟨_, e0, fun _ => ⟨_, rfl⟩, fun h => absurd h (by omega), fun h => by cases h⟩
  | 1, _ => exact ⟨_, e1, fun _ => ⟨_, rfl⟩, fun h => absurd h (by omega), fun h => by cases h⟩
  | 2, _ => exact ⟨_, e2, fun h => absurd h (by omega), fun _ _ => u64_of w2, fun h => by cases h⟩
  | 3, _ => exact ⟨_, e3, fun h => absurd h (by omega), fun _ _ => u64_of w3, fun h => by cases h⟩
  | 4, _ => exact ⟨_, e4, fun h => absurd h (by omega), fun _ _ => u64_of w4, fun h => by cases h⟩
  | 5, _ => exact ⟨_, e5, fun h => absurd h (by omega), fun _ h => absurd h (by omega), fun _ => ⟨_, rfl⟩⟩
def boolOf8 : Value → Bool
  | .bool b => b
  | _ => false

set_option maxRecDepth 100000 in
theorem open_op8 {W : World} {base : Nat} {v : Value} {d : DataW H} {ps : List MemPlace} (hok : Value.okWide Tryd.prog W .any base 42 v) (h : DataW.Trod enc Tryd.prog W 0 (fun _ => true) true 42 v d ps) :
    ∃ (sa : Option Addr) (len cap sb off : Nat) (zs : Nat → Nat → Int) (hh : Nat → Nat → Nat) (bz : Nat → Bool), v = .slice sa len cap ∧ len ≤ maxLen ∧ (0 < len → sa = some ⟨sb, off, none⟩ ∧ sb < W.heap.size) ∧
      (∀ j, j < len → (∀ i, i < 2 → W.cell? ⟨sb, off + j * 6 + i, none⟩ = some (.int .i64 (zs j i))) ∧ (∀ i, 2 ≤ i → i < 5 → W.cell? ⟨sb, off + j * 6 + i, none⟩ = some (.int .u64 (hh j i : Nat)) ∧ hh j i < 18446744073709551616) ∧ W.cell? ⟨sb, off + j * 6 + 5, none⟩ = some (.bool (bz j))) := by
  obtain ⟨sa, len, cap, sb, off, cv, rfl, hm, hs, hc⟩ := open_each Pr8 Tryd.underlying42 (K := 6) (by kernel_rfl) (Nat.succ_pos 5) (fun fuel cs x h => op8_cells h) hok h
  refine ⟨sa, len, cap, sb, off, fun j i => intOf (cv j i), fun j i => (intOf (cv j i)).toNat, fun j => boolOf8 (cv j 5), rfl, hm, hs, fun j hj => ⟨fun i hi => ?_, fun i hi hi2 => ?_, ?_⟩⟩
  · obtain ⟨h1, h2, _⟩ := hc j hj i (by omega)
    obtain ⟨z, e⟩ := h2 hi
    rw [h1]
    simp only [e]
    rfl
  · obtain ⟨h1, _, h2, _⟩ := hc j hj i (by omega)
    obtain ⟨n, e, hn⟩ := h2 hi hi2
    rw [h1]
    simp only [e]
    exact ⟨rfl, by simpa [intOf] using hn⟩
  · obtain ⟨h1, _, _, h2⟩ := hc j hj 5 (by omega)
    obtain ⟨b, e⟩ := h2 rfl
    rw [h1]
    simp only [e]
    rfl
end
end Go.Proofs.YtkkodhjolgcokaaDoor
/-
  A slice of words that came in, as natural numbers with their bounds. (No condition.)
-/
namespace Go.Proofs.YtkkodhjolgcokaaDoor
open Go.ChangeShapes Go.WideShapes Go.ChangeAt Go.RowKit Go.Deep

section
variable {H : Type} {enc : TypeId × Value → H} {P : Program}
theorem open_wordsb {W : World} {t e : TypeId} {base : Nat} {v : Value} {d : DataW H} {ps : List MemPlace} (ht : P.underlying t = some (.slice e)) (he : P.underlying e = some (.int .u64)) (hc : P.cellsOf e = 1)
    (hok : Value.okWide P W .any base t v) (h : DataW.Trod enc P W 0 (fun _ => true) true t v d ps) :
    ∃ (sa : Option Addr) (len cap sb off : Nat) (zs : Nat → Nat), v = .slice sa len cap ∧ len ≤ maxLen ∧ (0 < len → sa = some ⟨sb, off, none⟩ ∧ sb < W.heap.size) ∧ (∀ j, j < len → W.cell? ⟨sb, off + j, none⟩ = some (.int .u64 ((zs j : Nat) : Int)) ∧ zs j < 18446744073709551616) := by
  obtain ⟨sa, len, cap, rfl⟩ := okWide_slice ht hok
  obtain ⟨fuel, hf⟩ := h
  rcases open_ints ht he hc hf with ⟨hcs, _⟩ | ⟨a, len', cap', zs, hcs, _, hl, hm, hz, _, hcell, hwf⟩
  · simp [Value.cells] at hcs
    obtain ⟨rfl, rfl, rfl⟩ := hcs
    exact ⟨none, 0, 0, 0, 0, fun _ => 0, rfl, Nat.zero_le _, fun h => absurd h (by omega), fun j hj => absurd hj (by omega)⟩
  · simp [Value.cells] at hcs
    obtain ⟨rfl, rfl, rfl⟩ := hcs
    simp only [if_true] at hz
    obtain ⟨b, off, spot⟩ := a
    have hsp : 0 < len → spot = none := fun h0 => by simpa [Addr.add] using World.cell?_spot (hcell 0 (by omega))
    refine ⟨_, len, cap, b, off, fun j => (zs.getD j 0).toNat, rfl, Nat.le_trans hl hm, fun h0 => ?_, fun j hj => ?_⟩
    · obtain rfl := hsp h0
      have h1 := hcell 0 (by omega)
      exact ⟨rfl, cell_block h1⟩
    · obtain rfl := hsp (by omega)
      rw [← add_plain]
      have hj2 : j < zs.length := by omega
      have hw := hwf (zs.getD j 0) (by rw [List.getD_eq_getElem?_getD, List.getElem?_eq_getElem hj2]; exact List.getElem_mem hj2)
      have h' : (0 : Int) ≤ zs.getD j 0 ∧ zs.getD j 0 ≤ 18446744073709551615 := by simpa [Lit.wf, IntKind.min, IntKind.max, IntKind.bits, IntKind.signed] using hw
      refine ⟨?_, by show (zs.getD j 0).toNat < _; omega⟩
      have e : (((zs.getD j 0).toNat : Nat) : Int) = zs.getD j 0 := by omega
      show _ = some (Value.int .u64 (((zs.getD j 0).toNat : Nat) : Int))
      rw [e]
      exact hcell j hj2
end
end Go.Proofs.YtkkodhjolgcokaaDoor
