/-
  The row's last step for a call that only makes memory, and arguments as the walks want them: slices of integers, of bools, of strings, of structs of integers; structs of integers by value. (No condition.)
-/
import Derived.Test.YtkkodhjolgcokaaDoorFrame
import Derived.ProofKit
import Derived.OpenShut
import Derived.Stop.Joined
import Derived.Deep.Slices
import Derived.Deep.Strs
import Derived.Deep.Grids
namespace Go.Proofs.YtkkodhjolgcokaaDoor
open Go.ChangeShapes Go.WideShapes Go.ChangeAt Go.RowKit Go.Deep

theorem own : ownKnob Tryd.prog.godebug = none := by kernel_rfl
theorem below_of_grown {W W' : World} (h : W.grownBy W' none) : Below W.heap.size W W' := ⟨h.os, h.tape, h.output, h.size, fun i hi => h.block i hi (by simp)⟩

section
variable {H : Type} {enc : TypeId × Value → H} {P : Program}
/-- A call that leaves all old blocks alone: what was read reads so still, and the results read as said. -/
theorem post_of_grown {f : Func} {s : ChangeSpec} {apart fresh handsOn again : Bool} {W W' : World} {args : Array Value} {v : Value} {ds gs : List (DataW H)} {before pa pv : List MemPlace}
    (hW : DataW.Whole enc P f.params.toList s.vars apart W args.toList ds gs before)
    (hres : ∀ (b : Nat) (sp : Nat → Bool) (hd : Bool), DataW.TrodAll enc P W' b sp hd f.resultTypes.toList (v.resultList f.resultTypes.size) (s.fn H (ds ++ gs)).results [])
    (hargs : ∀ sp : Nat → Bool, (∀ p ∈ before, sp p.block = true) → DataW.TrodAll enc P W' 0 sp true f.params.toList args.toList (s.fn H (ds ++ gs)).args pa)
    (hvars : ∀ sp : Nat → Bool, (∀ p ∈ before, sp p.block = true) → DataW.TrodVars enc P W' sp s.vars (s.fn H (ds ++ gs)).vars pv)
    (hps : before = pa ++ pv) (hg : W.grownBy W' none)
    (hok : ∀ (j : Nat) (t : TypeId) (r : Value), f.resultTypes[j]? = some t → (v.resultList f.resultTypes.size)[j]? = some r → Value.okWide P W' .any 0 t r) :
    s.post enc P f apart fresh handsOn again W args v W' := by
  have hb := below_of_grown hg
  have hold : ∀ p ∈ before, p.block < W.heap.size := fun p hp => hW.lt p hp
  have hd : ∀ p ∈ before, (fun b => decide (b < W.heap.size)) p.block = true := fun p hp => by simpa using hold p hp
  have hin : ∀ p, p ∈ pa ++ pv ↔ p ∈ before := fun p => by rw [hps]
  refine ⟨ds, gs, before, [], pa, pv, hW, hres _ _ _, hargs _ hd, hvars _ hd, World.keptBut_mono (fun p hp => ⟨hp, Or.inr ?_⟩) (hb.frame (· ∈ before)), fun _ => ?_⟩
  · simpa using (hin p).2 hp
  · obtain ⟨_, _, _, _, _, hz, hn⟩ := hW
    refine ⟨hok, _, _, ([] ++ pa) ++ pv, ⟨[] ++ pa, pv, trodAll_append (hargs _ (fun _ _ => rfl)) (hres _ _ _), hvars _ (fun _ _ => rfl), rfl, fun b off hp => ?_, fun ha => ?_⟩, fun p hp _ => ?_⟩
    · have hi : MemPlace.cell b off ∈ before := (hin _).1 (by simpa using hp)
      rw [hb.frozen (hold _ hi)]
      exact hz b off hi
    · have := hn ha
      rw [hps] at this
      simpa using this
    · exact (hin p).1 (by simpa using hp)
end

theorem laidOut : laidOutB Tryd.prog = true := by kernel_rfl

section
variable {H : Type} {enc : TypeId × Value → H} {P : Program}
/-- Arguments read behind such a call as they did. -/
theorem trodAll_stays {W W' : World} {sp : Nat → Bool} (hl : laidOutB P = true) (hb : Below W.heap.size W W') : ∀ {ts : List TypeId} {vs : List Value} {ds : List (DataW H)} {ps : List MemPlace},
    (∀ t ∈ ts, P.readableRec t = true ∧ t < P.types.size) → DataW.TrodAll enc P W 0 (fun _ => true) true ts vs ds ps → (∀ p ∈ ps, p.block < W.heap.size) → (∀ p ∈ ps, sp p.block = true) → DataW.TrodAll enc P W' 0 sp true ts vs ds ps
  | [], [], [], _, _, h, _, _ => h
  | _ :: _, _ :: _, _ :: _, _, hT, ⟨p, q, h1, h2, e⟩, hlt, hs =>
    ⟨p, q, WideElems.Trod_stays hl (hT _ (List.mem_cons.2 (Or.inl rfl))).1 (hT _ (List.mem_cons.2 (Or.inl rfl))).2 h1 (fun x hx => hb.same (hlt x (by rw [e]; exact List.mem_append_left _ hx))) (fun x hx => hs x (by rw [e]; exact List.mem_append_left _ hx)),
      trodAll_stays hl hb (fun t ht => hT t (List.mem_cons.2 (Or.inr ht))) h2 (fun x hx => hlt x (by rw [e]; exact List.mem_append_right _ hx)) (fun x hx => hs x (by rw [e]; exact List.mem_append_right _ hx)), e⟩

theorem cell_block {W : World} {a : Addr} {v : Value} (h : W.cell? a = some v) : a.block < W.heap.size := by
  unfold World.cell? at h
  refine Decidable.byContradiction fun hn => ?_
  rw [Array.getElem?_eq_none (by simpa using hn)] at h
  cases h

/-- A slice of integers that came in, nil or not, as a walk wants it. -/
theorem open_list {W : World} {t e : TypeId} {base : Nat} {v : Value} {d : DataW H} {ps : List MemPlace} (ht : P.underlying t = some (.slice e)) (he : P.underlying e = some (.int .i64)) (hc : P.cellsOf e = 1)
    (hok : Value.okWide P W .any base t v) (h : DataW.Trod enc P W 0 (fun _ => true) true t v d ps) :
    ∃ (sa : Option Addr) (len cap sb off : Nat) (zs : Nat → Int), v = .slice sa len cap ∧ len ≤ maxLen ∧ (0 < len → sa = some ⟨sb, off, none⟩ ∧ sb < W.heap.size) ∧ (∀ j, j < len → W.cell? ⟨sb, off + j, none⟩ = some (.int .i64 (zs j))) := by
  obtain ⟨sa, len, cap, rfl⟩ := okWide_slice ht hok
  obtain ⟨fuel, hf⟩ := h
  rcases open_ints ht he hc hf with ⟨hcs, _⟩ | ⟨a, len', cap', zs, hcs, _, hl, hm, hz, _, hcell, _⟩
  · simp [Value.cells] at hcs
    obtain ⟨rfl, rfl, rfl⟩ := hcs
    exact ⟨none, 0, 0, 0, 0, fun _ => 0, rfl, Nat.zero_le _, fun h => absurd h (by omega), fun j hj => absurd hj (by omega)⟩
  · simp [Value.cells] at hcs
    obtain ⟨rfl, rfl, rfl⟩ := hcs
    simp only [if_true] at hz
    obtain ⟨b, off, spot⟩ := a
    have hsp : 0 < len → spot = none := fun h0 => by simpa [Addr.add] using World.cell?_spot (hcell 0 (by omega))
    refine ⟨_, len, cap, b, off, fun j => zs.getD j 0, rfl, by omega, fun h0 => ?_, fun j hj => ?_⟩
    · obtain rfl := hsp h0
      have h1 := hcell 0 (by omega)
      exact ⟨rfl, cell_block h1⟩
    · obtain rfl := hsp (by omega)
      rw [← add_plain]
      exact hcell j (by omega)
end

section
variable {H : Type} {enc : TypeId × Value → H} {P : Program}
/-- A slice of bools that came in. -/
theorem open_bits {W : World} {t e : TypeId} {base : Nat} {v : Value} {d : DataW H} {ps : List MemPlace} (ht : P.underlying t = some (.slice e)) (he : P.underlying e = some .bool) (hc : P.cellsOf e = 1)
    (hok : Value.okWide P W .any base t v) (h : DataW.Trod enc P W 0 (fun _ => true) true t v d ps) :
    ∃ (sa : Option Addr) (len cap sb off : Nat) (zs : Nat → Bool), v = .slice sa len cap ∧ len ≤ maxLen ∧ (0 < len → sa = some ⟨sb, off, none⟩ ∧ sb < W.heap.size) ∧ (∀ j, j < len → W.cell? ⟨sb, off + j, none⟩ = some (.bool (zs j))) := by
  obtain ⟨sa, len, cap, rfl⟩ := okWide_slice ht hok
  obtain ⟨fuel, hf⟩ := h
  rcases open_bools ht he hc hf with ⟨hcs, _⟩ | ⟨a, len', cap', B, hcs, _, hl, hm, _, hcell⟩
  · simp [Value.cells] at hcs
    obtain ⟨rfl, rfl, rfl⟩ := hcs
    exact ⟨none, 0, 0, 0, 0, fun _ => false, rfl, Nat.zero_le _, fun h => absurd h (by omega), fun j hj => absurd hj (by omega)⟩
  · simp [Value.cells] at hcs
    obtain ⟨rfl, rfl, rfl⟩ := hcs
    obtain ⟨b, off, spot⟩ := a
    have hsp : 0 < len → spot = none := fun h0 => by simpa [Addr.add] using World.cell?_spot (hcell 0 (by omega))
    refine ⟨_, len, cap, b, off, B, rfl, by omega, fun h0 => ?_, fun j hj => ?_⟩
    · obtain rfl := hsp h0
      exact ⟨rfl, cell_block (hcell 0 (by omega))⟩
    · obtain rfl := hsp (by omega)
      rw [← add_plain]
      exact hcell j (by omega)

/-- A slice of unsigned integers that came in. -/
theorem open_words {W : World} {t e : TypeId} {base : Nat} {v : Value} {d : DataW H} {ps : List MemPlace} {q : IntKind} (ht : P.underlying t = some (.slice e)) (he : P.underlying e = some (.int q)) (hc : P.cellsOf e = 1)
    (hok : Value.okWide P W .any base t v) (h : DataW.Trod enc P W 0 (fun _ => true) true t v d ps) :
    ∃ (sa : Option Addr) (len cap sb off : Nat) (zs : Nat → Int), v = .slice sa len cap ∧ len ≤ maxLen ∧ (0 < len → sa = some ⟨sb, off, none⟩ ∧ sb < W.heap.size) ∧ (∀ j, j < len → W.cell? ⟨sb, off + j, none⟩ = some (.int q (zs j))) := by
  obtain ⟨sa, len, cap, rfl⟩ := okWide_slice ht hok
  obtain ⟨fuel, hf⟩ := h
  rcases open_slice1 ht hc hf with ⟨hcs, _⟩ | ⟨a, len', cap', m, n, V, D, Pl, hcs, _, hl, hm, hmm, _, hx⟩
  · simp [Value.cells] at hcs
    obtain ⟨rfl, rfl, rfl⟩ := hcs
    exact ⟨none, 0, 0, 0, 0, fun _ => 0, rfl, Nat.zero_le _, fun h => absurd h (by omega), fun j hj => absurd hj (by omega)⟩
  · simp [Value.cells] at hcs
    obtain ⟨rfl, rfl, rfl⟩ := hcs
    simp only [if_true] at hmm
    subst hmm
    obtain ⟨b, off, spot⟩ := a
    have hsp : 0 < len → spot = none := fun h0 => by simpa [Addr.add] using World.cell?_spot (hx 0 (by omega)).1
    refine ⟨_, len, m, b, off, fun j => intOf (V j), rfl, by omega, fun h0 => ?_, fun j hj => ?_⟩
    · obtain rfl := hsp h0
      exact ⟨rfl, cell_block (hx 0 (by omega)).1⟩
    · obtain rfl := hsp (by omega)
      obtain ⟨x, e1, _, _⟩ := DataW.trod_int he (hx j (by omega)).2
      simp only [List.cons.injEq, and_true] at e1
      rw [← add_plain, (hx j (by omega)).1]
      show _ = some (Value.int q (intOf (V j)))
      rw [e1]; rfl

/-- A slice of strings that came in. -/
theorem open_texts {W : World} {t e : TypeId} {base : Nat} {v : Value} {d : DataW H} {ps : List MemPlace} (ht : P.underlying t = some (.slice e)) (he : P.underlying e = some .string) (hc : P.cellsOf e = 1)
    (hok : Value.okWide P W .any base t v) (h : DataW.Trod enc P W 0 (fun _ => true) true t v d ps) :
    ∃ (sa : Option Addr) (len cap sb off : Nat) (zs : Nat → ByteArray), v = .slice sa len cap ∧ len ≤ maxLen ∧ (0 < len → sa = some ⟨sb, off, none⟩ ∧ sb < W.heap.size) ∧ (∀ j, j < len → W.cell? ⟨sb, off + j, none⟩ = some (.string (zs j))) := by
  obtain ⟨sa, len, cap, rfl⟩ := okWide_slice ht hok
  obtain ⟨fuel, hf⟩ := h
  rcases open_strs ht he hc hf with ⟨hcs, _⟩ | ⟨a, len', cap', m, Sx, hcs, _, hl, hm, hmm, _, hcell⟩
  · simp [Value.cells] at hcs
    obtain ⟨rfl, rfl, rfl⟩ := hcs
    exact ⟨none, 0, 0, 0, 0, fun _ => ByteArray.empty, rfl, Nat.zero_le _, fun h => absurd h (by omega), fun j hj => absurd hj (by omega)⟩
  · simp [Value.cells] at hcs
    obtain ⟨rfl, rfl, rfl⟩ := hcs
    simp only [if_true] at hmm
    subst hmm
    obtain ⟨b, off, spot⟩ := a
    have hsp : 0 < len → spot = none := fun h0 => by simpa [Addr.add] using World.cell?_spot (hcell 0 (by omega)).1
    refine ⟨_, len, m, b, off, Sx, rfl, by omega, fun h0 => ?_, fun j hj => ?_⟩
    · obtain rfl := hsp h0
      exact ⟨rfl, cell_block (hcell 0 (by omega)).1⟩
    · obtain rfl := hsp (by omega)
      rw [← add_plain]
      exact (hcell j (by omega)).1

/-- The cells of a struct of K integers. -/
theorem struct_ints {W : World} {e it : TypeId} {K : Nat} {fs : Array Field} {fuel : Nat} {cs : List Value} {x : DataW H × List MemPlace} {base : Nat} {sp : Nat → Bool} {held : Bool} (he : P.underlying e = some (.struct fs)) (ce : P.cellsOf e = K) (hi : P.underlying it = some (.int .i64)) (ci : P.cellsOf it = 1)
    (hfs : ∀ i, i < K → ∃ f : Field, fs[i]? = some f ∧ f.offset = i ∧ f.type = it) (h : DataW.trod enc P W base sp held fuel e cs = some x) : cs.length = K ∧ ∀ i, i < K → ∃ z : Int, cs[i]? = some (.int .i64 z) := by
  obtain ⟨xs, n, _, _, hl, hxl, hf⟩ := DataW.trod_struct he h
  rw [ce] at hl
  refine ⟨hl, fun i hK => ?_⟩
  obtain ⟨f, hf1, hf2, hf3⟩ := hfs i hK
  have h1 := hf i f hf1
  rw [hf2, hf3, ci] at h1
  have hi2 : i < xs.length := by
    rw [hxl]; exact (Array.getElem?_eq_some_iff.1 hf1).1
  rw [List.getElem?_eq_getElem hi2] at h1
  have hd : (cs.drop i).take 1 = [cs[i]'(by omega)] := by
    rw [List.drop_eq_getElem_cons (by omega)]; rfl
  rw [hd] at h1
  obtain ⟨z, e1, _, _⟩ := DataW.trod_int hi h1
  simp only [List.cons.injEq, and_true] at e1
  exact ⟨z, by rw [List.getElem?_eq_getElem (by omega), e1]⟩

/-- A slice of structs of K integers that came in. -/
theorem open_structs {W : World} {t e it : TypeId} {K base : Nat} {fs : Array Field} {v : Value} {d : DataW H} {ps : List MemPlace} (ht : P.underlying t = some (.slice e)) (he : P.underlying e = some (.struct fs)) (ce : P.cellsOf e = K) (hK : 0 < K) (hi : P.underlying it = some (.int .i64)) (ci : P.cellsOf it = 1)
    (hfs : ∀ i, i < K → ∃ f : Field, fs[i]? = some f ∧ f.offset = i ∧ f.type = it)
    (hok : Value.okWide P W .any base t v) (h : DataW.Trod enc P W 0 (fun _ => true) true t v d ps) :
    ∃ (sa : Option Addr) (len cap sb off : Nat) (zs : Nat → Nat → Int), v = .slice sa len cap ∧ len ≤ maxLen ∧ (0 < len → sa = some ⟨sb, off, none⟩ ∧ sb < W.heap.size) ∧ (∀ j, j < len → ∀ i, i < K → W.cell? ⟨sb, off + j * K + i, none⟩ = some (.int .i64 (zs j i))) := by
  obtain ⟨sa, len, cap, rfl⟩ := okWide_slice ht hok
  obtain ⟨fuel, hf⟩ := h
  rcases open_slice ht hf with ⟨hcs, _⟩ | ⟨a, len', cap', m, n, D, Pl, hcs, _, hl, hm, hmm, _, hx⟩
  · simp [Value.cells] at hcs
    obtain ⟨rfl, rfl, rfl⟩ := hcs
    exact ⟨none, 0, 0, 0, 0, fun _ _ => 0, rfl, Nat.zero_le _, fun h => absurd h (by omega), fun j hj => absurd hj (by omega)⟩
  · simp [Value.cells] at hcs
    obtain ⟨rfl, rfl, rfl⟩ := hcs
    simp only [if_true] at hmm
    subst hmm
    obtain ⟨b, off, spot⟩ := a
    rw [ce] at hx
    have each : ∀ j, j < len → ∀ i, i < K → ∃ z : Int, W.cell? ((⟨b, off, spot⟩ : Addr).add (j * K + i)) = some (.int .i64 z) := fun j hj i hi2 => by
      obtain ⟨cs', h1, h2⟩ := hx j (by omega)
      obtain ⟨_, hlen, hcell⟩ := World.cells?_some h1
      obtain ⟨_, h3⟩ := struct_ints he ce hi ci hfs h2
      obtain ⟨z, hz⟩ := h3 i hi2
      have h4 := hcell i (by omega)
      rw [add_add, hz] at h4
      exact ⟨z, h4⟩
    have hsp : 0 < len → spot = none := fun h0 => by
      obtain ⟨z, hz⟩ := each 0 h0 0 hK
      simpa [Addr.add] using World.cell?_spot hz
    refine ⟨_, len, m, b, off, fun j i => intOf ((W.cell? ⟨b, off + j * K + i, none⟩).getD (.int .i64 0)), rfl, by omega, fun h0 => ?_, fun j hj i hi2 => ?_⟩
    · obtain rfl := hsp h0
      obtain ⟨z, hz⟩ := each 0 h0 0 hK
      rw [add_plain] at hz
      exact ⟨rfl, cell_block hz⟩
    · obtain rfl := hsp (by omega)
      obtain ⟨z, hz⟩ := each j hj i hi2
      rw [add_plain, ← Nat.add_assoc] at hz
      show _ = some (Value.int .i64 (intOf ((W.cell? ⟨b, off + j * K + i, none⟩).getD (.int .i64 0))))
      rw [hz]; rfl

/-- A struct of three integers that came in by value. -/
theorem open_three {W : World} {e it : TypeId} {base : Nat} {fs : Array Field} {v : Value} {d : DataW H} {ps : List MemPlace} (he : P.underlying e = some (.struct fs)) (ce : P.cellsOf e = 3) (hi : P.underlying it = some (.int .i64)) (ci : P.cellsOf it = 1)
    (hfs : ∀ i, i < 3 → ∃ f : Field, fs[i]? = some f ∧ f.offset = i ∧ f.type = it)
    (hok : Value.okWide P W .any base e v) (h : DataW.Trod enc P W 0 (fun _ => true) true e v d ps) : ∃ x y z : Int, v = .agg #[.int .i64 x, .int .i64 y, .int .i64 z] := by
  obtain ⟨cs, rfl, hsz⟩ := okWide_struct he hok
  obtain ⟨fuel, hf⟩ := h
  obtain ⟨_, h3⟩ := struct_ints he ce hi ci hfs hf
  obtain ⟨x, hx⟩ := h3 0 (by omega)
  obtain ⟨y, hy⟩ := h3 1 (by omega)
  obtain ⟨z, hz⟩ := h3 2 (by omega)
  rw [ce] at hsz
  obtain ⟨l⟩ := cs
  match l, hsz with
  | [c0, c1, c2], _ =>
  simp [Value.cells] at hx hy hz
  subst hx hy hz
  exact ⟨x, y, z, rfl⟩
end

end Go.Proofs.YtkkodhjolgcokaaDoor
