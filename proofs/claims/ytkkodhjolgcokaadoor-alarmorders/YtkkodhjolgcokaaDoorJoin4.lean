/-
  Texts of one claim, joined, one behind the other.
-/
import Derived.Test.YtkkodhjolgcokaaDoorRows
import Derived.WalkKit
import Derived.WalkSpells
import Derived.Lib.Hide
import Derived.Deep.OwnRows
import Derived.Deep.Draws
import Derived.Deep.AppendLies
import Derived.StillTailTactics
import Derived.Laws.BitsAllLaws
import Derived.Deep.QuietTactic
import Derived.BigQuiet
import Derived.Maps.Range
import Derived.Maps.RangeWalk
import Derived.ProofKit
import Derived.OpenShut
import Derived.Stop.Joined
import Derived.Deep.Slices
import Derived.Deep.Strs
import Derived.Deep.Grids
import Derived.Laws.BitsLemmas
import Derived.Laws.Bits128
import Derived.WalkArith
import Derived.RowKit
import Derived.Laws.Bits64b
import Derived.Lib.TrailingZeros
/-
  What a call may have turned: only blocks of one range of numbers; all else is as it was. (Own frame relation; no condition.)
-/
namespace Go.Proofs.YtkkodhjolgcokaaDoor
open Go.RowKit Go.Lib

/-- From w to w' nothing that was there has turned but blocks of the range from lo on, below hi. -/
structure Only (lo hi : Nat) (w w' : World) : Prop where
  os : w'.os = w.os
  tape : w'.tape = w.tape
  output : w'.output = w.output
  size : w.heap.size ≤ w'.heap.size
  block : ∀ k, k < w.heap.size → (k < lo ∨ hi ≤ k) → w'.heap[k]? = w.heap[k]?

theorem Only.refl (lo hi : Nat) (w : World) : Only lo hi w w := ⟨rfl, rfl, rfl, Nat.le_refl _, fun _ _ _ => rfl⟩
theorem Only.trans {lo hi : Nat} {a b c : World} (h : Only lo hi a b) (k : Only lo hi b c) : Only lo hi a c :=
  ⟨k.os.trans h.os, k.tape.trans h.tape, k.output.trans h.output, Nat.le_trans h.size k.size, fun i hi hr => (k.block i (Nat.lt_of_lt_of_le hi h.size) hr).trans (h.block i hi hr)⟩
theorem Only.wider {lo hi lo' hi' : Nat} {a b : World} (h : Only lo hi a b) (h1 : lo' ≤ lo) (h2 : hi ≤ hi') : Only lo' hi' a b :=
  ⟨h.os, h.tape, h.output, h.size, fun i hs hr => h.block i hs (by omega)⟩
theorem Only.of_none {lo hi : Nat} {a b : World} (h : a.grownBy b none) : Only lo hi a b := ⟨h.os, h.tape, h.output, h.size, fun i hs _ => h.block i hs (by simp)⟩
theorem Only.of_some {lo hi g : Nat} {a b : World} (h : a.grownBy b (some g)) (h1 : lo ≤ g) (h2 : g < hi) : Only lo hi a b :=
  ⟨h.os, h.tape, h.output, h.size, fun i hs hr => h.block i hs (by intro e; cases e; omega)⟩
theorem Only.drew (lo hi : Nat) (w : World) : Only lo hi w w.drew := ⟨rfl, rfl, rfl, Nat.le_refl _, fun _ _ _ => rfl⟩
theorem Only.drewN (lo hi : Nat) (w : World) (m : Nat) : Only lo hi w (w.drewN m) := ⟨rfl, rfl, rfl, Nat.le_refl _, fun _ _ _ => rfl⟩
theorem Only.alloc (lo hi : Nat) (w : World) (o : Obj) : Only lo hi w (w.alloc o) := Only.of_none (World.grownBy_alloc w o none)
theorem Only.set {lo hi : Nat} (w : World) (a : Addr) (v : Value) (h1 : lo ≤ a.block) (h2 : a.block < hi) : Only lo hi w (w.setCell a v) :=
  ⟨rfl, rfl, rfl, by simp [World.setCell], fun i _ hr => Below.heap_setCell w a v i (by rintro rfl; omega)⟩
theorem Only.cell {lo hi : Nat} {a b : World} (h : Only lo hi a b) (p : Addr) (hp : p.block < a.heap.size) (hr : p.block < lo ∨ hi ≤ p.block) : b.cell? p = a.cell? p :=
  World.cell?_of_block (h.block p.block hp hr)
theorem Only.frozen {lo hi : Nat} {a b : World} (h : Only lo hi a b) (p : Addr) (hp : p.block < a.heap.size) (hr : p.block < lo ∨ hi ≤ p.block) : b.frozen? p = a.frozen? p :=
  World.frozen?_of_block (h.block p.block hp hr)
/-- Of what was there at first nothing has turned, if the range lies behind it. -/
theorem Only.on {lo hi : Nat} {W a b : World} (h : W.grownBy a none) (k : Only lo hi a b) (hl : W.heap.size ≤ lo) : W.grownBy b none :=
  ⟨k.os.trans h.os, k.tape.trans h.tape, k.output.trans h.output, Nat.le_trans h.size k.size, fun i hi _ => (k.block i (Nat.lt_of_lt_of_le hi h.size) (by omega)).trans (h.block i hi (by simp))⟩
/-- A range that ends where the other begins, one behind the other. -/
theorem Only.into {lo hi : Nat} {a b c : World} (h : Only lo hi a b) (k : b.grownBy c none) : Only lo hi a c := h.trans (Only.of_none k)
theorem own_only {w w' : World} {base : Nat} {e : TypeId} {size r n cp : Nat} {xs : List Value} {lo hi : Nat} (h : w.ownsRow base e size (.slice (some ⟨r, 0, none⟩) n cp) n xs) (k : Only lo hi w w') (hr : r < lo ∨ hi ≤ r) :
    w'.ownsRow base e size (.slice (some ⟨r, 0, none⟩) n cp) n xs := by
  have hl := (h.lt r rfl).2
  refine ⟨h.1, ?_⟩
  rcases h.2 with hn | ⟨g, cap, cur, hv, hb, hgg, rest⟩
  · exact .inl hn
  · refine .inr ⟨g, cap, cur, hv, hb, ?_, rest⟩
    cases hv
    rw [k.block r hl hr]
    exact hgg

end Go.Proofs.YtkkodhjolgcokaaDoor
/-
  The row's last step for a call that only makes memory, and arguments as the walks want them: slices of integers, of bools, of strings, of structs of integers; structs of integers by value. (No condition.)
-/
namespace Go.Proofs.YtkkodhjolgcokaaDoor
open Go.ChangeShapes Go.WideShapes Go.ChangeAt Go.RowKit Go.Deep

theorem own : ownKnob Tryd.prog.godebug = none := by kernel_rfl
theorem below_of_grown {W W' : World} (h : W.grownBy W' none) : Below W.heap.size W W' := ⟨h.os, h.tape, h.output, h.size, fun i hi => h.block i hi (by simp)⟩

section
variable {H : Type} {enc : TypeId × Value → H} {P : Program}
/-- A call that leaves all old blocks alone: what was read reads so still, and the results read as said. -/
theorem post_of_grown {f : Func} {s : ChangeSpec} {apart fresh handsOn again : Bool} {W W' : World} {args : Array Value} {v : Value} {ds gs : List (DataW H)} {before pa pv : List MemPlace}
    (hW : DataW.Whole enc P f.params.toList s.vars apart W args.toList ds gs before)
    (hres : ∀ (b : Nat) (sp : Nat → Bool) (hd : Bool), DataW.TrodAll enc P W' b sp hd f.resultTypes.toList (v.resultList f.resultTypes.size) (s.fn H (ds ++ gs)).results [])
    (hargs : ∀ sp : Nat → Bool, (∀ p ∈ before, sp p.block = true) → DataW.TrodAll enc P W' 0 sp true f.params.toList args.toList (s.fn H (ds ++ gs)).args pa)
    (hvars : ∀ sp : Nat → Bool, (∀ p ∈ before, sp p.block = true) → DataW.TrodVars enc P W' sp s.vars (s.fn H (ds ++ gs)).vars pv)
    (hps : before = pa ++ pv) (hg : W.grownBy W' none)
    (hok : ∀ (j : Nat) (t : TypeId) (r : Value), f.resultTypes[j]? = some t → (v.resultList f.resultTypes.size)[j]? = some r → Value.okWide P W' .any 0 t r) :
    s.post enc P f apart fresh handsOn again W args v W' := by
  have hb := below_of_grown hg
  have hold : ∀ p ∈ before, p.block < W.heap.size := fun p hp => hW.lt p hp
  have hd : ∀ p ∈ before, (fun b => decide (b < W.heap.size)) p.block = true := fun p hp => by simpa using hold p hp
  have hin : ∀ p, p ∈ pa ++ pv ↔ p ∈ before := fun p => by rw [hps]
  refine ⟨ds, gs, before, [], pa, pv, hW, hres _ _ _, hargs _ hd, hvars _ hd, World.keptBut_mono (fun p hp => ⟨hp, Or.inr ?_⟩) (hb.frame (· ∈ before)), fun _ => ?_⟩
  · simpa using (hin p).2 hp
  · obtain ⟨_, _, _, _, _, hz, hn⟩ := hW
    refine ⟨hok, _, _, ([] ++ pa) ++ pv, ⟨[] ++ pa, pv, trodAll_append (hargs _ (fun _ _ => rfl)) (hres _ _ _), hvars _ (fun _ _ => rfl), rfl, fun b off hp => ?_, fun ha => ?_⟩, fun p hp _ => ?_⟩
    · have hi : MemPlace.cell b off ∈ before := (hin _).1 (by simpa using hp)
      rw [hb.frozen (hold _ hi)]
      exact hz b off hi
    · have := hn ha
      rw [hps] at this
      simpa using this
    · exact (hin p).1 (by simpa using hp)
end

theorem laidOut : laidOutB Tryd.prog = true := by kernel_rfl

section
variable {H : Type} {enc : TypeId × Value → H} {P : Program}
/-- Arguments read behind such a call as they did. -/
theorem trodAll_stays {W W' : World} {sp : Nat → Bool} (hl : laidOutB P = true) (hb : Below W.heap.size W W') : ∀ {ts : List TypeId} {vs : List Value} {ds : List (DataW H)} {ps : List MemPlace},
    (∀ t ∈ ts, P.readableRec t = true ∧ t < P.types.size) → DataW.TrodAll enc P W 0 (fun _ => true) true ts vs ds ps → (∀ p ∈ ps, p.block < W.heap.size) → (∀ p ∈ ps, sp p.block = true) → DataW.TrodAll enc P W' 0 sp true ts vs ds ps
  | [], [], [], _, _, h, _, _ => h
  | _ :: _, _ :: _, _ :: _, _, hT, ⟨p, q, h1, h2, e⟩, hlt, hs =>
    ⟨p, q, WideElems.Trod_stays hl (hT _ (List.mem_cons.2 (Or.inl rfl))).1 (hT _ (List.mem_cons.2 (Or.inl rfl))).2 h1 (fun x hx => hb.same (hlt x (by rw [e]; exact List.mem_append_left _ hx))) (fun x hx => hs x (by rw [e]; exact List.mem_append_left _ hx)),
      trodAll_stays hl hb (fun t ht => hT t (List.mem_cons.2 (Or.inr ht))) h2 (fun x hx => hlt x (by rw [e]; exact List.mem_append_right _ hx)) (fun x hx => hs x (by rw [e]; exact List.mem_append_right _ hx)), e⟩

theorem cell_block {W : World} {a : Addr} {v : Value} (h : W.cell? a = some v) : a.block < W.heap.size := by
  unfold World.cell? at h
  refine Decidable.byContradiction fun hn => ?_
  rw [Array.getElem?_eq_none (by simpa using hn)] at h
  cases h

/-- A slice of integers that came in, nil or not, as a walk wants it. -/
theorem open_list {W : World} {t e : TypeId} {base : Nat} {v : Value} {d : DataW H} {ps : List MemPlace} (ht : P.underlying t = some (.slice e)) (he : P.underlying e = some (.int .i64)) (hc : P.cellsOf e = 1)
    (hok : Value.okWide P W .any base t v) (h : DataW.Trod enc P W 0 (fun _ => true) true t v d ps) :
    ∃ (sa : Option Addr) (len cap sb off : Nat) (zs : Nat → Int), v = .slice sa len cap ∧ len ≤ maxLen ∧ (0 < len → sa = some ⟨sb, off, none⟩ ∧ sb < W.heap.size) ∧ (∀ j, j < len → W.cell? ⟨sb, off + j, none⟩ = some (.int .i64 (zs j))) := by
  obtain ⟨sa, len, cap, rfl⟩ := okWide_slice ht hok
  obtain ⟨fuel, hf⟩ := h
  rcases open_ints ht he hc hf with ⟨hcs, _⟩ | ⟨a, len', cap', zs, hcs, _, hl, hm, hz, _, hcell, _⟩
  · simp [Value.cells] at hcs
    obtain ⟨rfl, rfl, rfl⟩ := hcs
    exact ⟨none, 0, 0, 0, 0, fun _ => 0, rfl, Nat.zero_le _, fun h => absurd h (by omega), fun j hj => absurd hj (by omega)⟩
  · simp [Value.cells] at hcs
    obtain ⟨rfl, rfl, rfl⟩ := hcs
    simp only [if_true] at hz
    obtain ⟨b, off, spot⟩ := a
    have hsp : 0 < len → spot = none := fun h0 => by simpa [Addr.add] using World.cell?_spot (hcell 0 (by omega))
    refine ⟨_, len, cap, b, off, fun j => zs.getD j 0, rfl, by omega, fun h0 => ?_, fun j hj => ?_⟩
    · obtain rfl := hsp h0
      have h1 := hcell 0 (by omega)
      exact ⟨rfl, cell_block h1⟩
    · obtain rfl := hsp (by omega)
      rw [← add_plain]
      exact hcell j (by omega)
end

section
variable {H : Type} {enc : TypeId × Value → H} {P : Program}
/-- A slice of bools that came in. -/
theorem open_bits {W : World} {t e : TypeId} {base : Nat} {v : Value} {d : DataW H} {ps : List MemPlace} (ht : P.underlying t = some (.slice e)) (he : P.underlying e = some .bool) (hc : P.cellsOf e = 1)
    (hok : Value.okWide P W .any base t v) (h : DataW.Trod enc P W 0 (fun _ => true) true t v d ps) :
    ∃ (sa : Option Addr) (len cap sb off : Nat) (zs : Nat → Bool), v = .slice sa len cap ∧ len ≤ maxLen ∧ (0 < len → sa = some ⟨sb, off, none⟩ ∧ sb < W.heap.size) ∧ (∀ j, j < len → W.cell? ⟨sb, off + j, none⟩ = some (.bool (zs j))) := by
  obtain ⟨sa, len, cap, rfl⟩ := okWide_slice ht hok
  obtain ⟨fuel, hf⟩ := h
  rcases open_bools ht he hc hf with ⟨hcs, _⟩ | ⟨a, len', cap', B, hcs, _, hl, hm, _, hcell⟩
  · simp [Value.cells] at hcs
    obtain ⟨rfl, rfl, rfl⟩ := hcs
    exact ⟨none, 0, 0, 0, 0, fun _ => false, rfl, Nat.zero_le _, fun h => absurd h (by omega), fun j hj => absurd hj (by omega)⟩
  · simp [Value.cells] at hcs
    obtain ⟨rfl, rfl, rfl⟩ := hcs
    obtain ⟨b, off, spot⟩ := a
    have hsp : 0 < len → spot = none := fun h0 => by simpa [Addr.add] using World.cell?_spot (hcell 0 (by omega))
    refine ⟨_, len, cap, b, off, B, rfl, by omega, fun h0 => ?_, fun j hj => ?_⟩
    · obtain rfl := hsp h0
      exact ⟨rfl, cell_block (hcell 0 (by omega))⟩
    · obtain rfl := hsp (by omega)
      rw [← add_plain]
      exact hcell j (by omega)

/-- A slice of unsigned integers that came in. -/
theorem open_words {W : World} {t e : TypeId} {base : Nat} {v : Value} {d : DataW H} {ps : List MemPlace} {q : IntKind} (ht : P.underlying t = some (.slice e)) (he : P.underlying e = some (.int q)) (hc : P.cellsOf e = 1)
    (hok : Value.okWide P W .any base t v) (h : DataW.Trod enc P W 0 (fun _ => true) true t v d ps) :
    ∃ (sa : Option Addr) (len cap sb off : Nat) (zs : Nat → Int), v = .slice sa len cap ∧ len ≤ maxLen ∧ (0 < len → sa = some ⟨sb, off, none⟩ ∧ sb < W.heap.size) ∧ (∀ j, j < len → W.cell? ⟨sb, off + j, none⟩ = some (.int q (zs j))) := by
  obtain ⟨sa, len, cap, rfl⟩ := okWide_slice ht hok
  obtain ⟨fuel, hf⟩ := h
  rcases open_slice1 ht hc hf with ⟨hcs, _⟩ | ⟨a, len', cap', m, n, V, D, Pl, hcs, _, hl, hm, hmm, _, hx⟩
  · simp [Value.cells] at hcs
    obtain ⟨rfl, rfl, rfl⟩ := hcs
    exact ⟨none, 0, 0, 0, 0, fun _ => 0, rfl, Nat.zero_le _, fun h => absurd h (by omega), fun j hj => absurd hj (by omega)⟩
  · simp [Value.cells] at hcs
    obtain ⟨rfl, rfl, rfl⟩ := hcs
    simp only [if_true] at hmm
    subst hmm
    obtain ⟨b, off, spot⟩ := a
    have hsp : 0 < len → spot = none := fun h0 => by simpa [Addr.add] using World.cell?_spot (hx 0 (by omega)).1
    refine ⟨_, len, m, b, off, fun j => intOf (V j), rfl, by omega, fun h0 => ?_, fun j hj => ?_⟩
    · obtain rfl := hsp h0
      exact ⟨rfl, cell_block (hx 0 (by omega)).1⟩
    · obtain rfl := hsp (by omega)
      obtain ⟨x, e1, _, _⟩ := DataW.trod_int he (hx j (by omega)).2
      simp only [List.cons.injEq, and_true] at e1
      rw [← add_plain, (hx j (by omega)).1]
      show _ = some (Value.int q (intOf (V j)))
      rw [e1]; rfl

/-- A slice of strings that came in. -/
theorem open_texts {W : World} {t e : TypeId} {base : Nat} {v : Value} {d : DataW H} {ps : List MemPlace} (ht : P.underlying t = some (.slice e)) (he : P.underlying e = some .string) (hc : P.cellsOf e = 1)
    (hok : Value.okWide P W .any base t v) (h : DataW.Trod enc P W 0 (fun _ => true) true t v d ps) :
    ∃ (sa : Option Addr) (len cap sb off : Nat) (zs : Nat → ByteArray), v = .slice sa len cap ∧ len ≤ maxLen ∧ (0 < len → sa = some ⟨sb, off, none⟩ ∧ sb < W.heap.size) ∧ (∀ j, j < len → W.cell? ⟨sb, off + j, none⟩ = some (.string (zs j))) := by
  obtain ⟨sa, len, cap, rfl⟩ := okWide_slice ht hok
  obtain ⟨fuel, hf⟩ := h
  rcases open_strs ht he hc hf with ⟨hcs, _⟩ | ⟨a, len', cap', m, Sx, hcs, _, hl, hm, hmm, _, hcell⟩
  · simp [Value.cells] at hcs
    obtain ⟨rfl, rfl, rfl⟩ := hcs
    exact ⟨none, 0, 0, 0, 0, fun _ => ByteArray.empty, rfl, Nat.zero_le _, fun h => absurd h (by omega), fun j hj => absurd hj (by omega)⟩
  · simp [Value.cells] at hcs
    obtain ⟨rfl, rfl, rfl⟩ := hcs
    simp only [if_true] at hmm
    subst hmm
    obtain ⟨b, off, spot⟩ := a
    have hsp : 0 < len → spot = none := fun h0 => by simpa [Addr.add] using World.cell?_spot (hcell 0 (by omega)).1
    refine ⟨_, len, m, b, off, Sx, rfl, by omega, fun h0 => ?_, fun j hj => ?_⟩
    · obtain rfl := hsp h0
      exact ⟨rfl, cell_block (hcell 0 (by omega)).1⟩
    · obtain rfl := hsp (by omega)
      rw [← add_plain]
      exact (hcell j (by omega)).1

/-- The cells of a struct of K integers. -/
theorem struct_ints {W : World} {e it : TypeId} {K : Nat} {fs : Array Field} {fuel : Nat} {cs : List Value} {x : DataW H × List MemPlace} {base : Nat} {sp : Nat → Bool} {held : Bool} (he : P.underlying e = some (.struct fs)) (ce : P.cellsOf e = K) (hi : P.underlying it = some (.int .i64)) (ci : P.cellsOf it = 1)
    (hfs : ∀ i, i < K → ∃ f : Field, fs[i]? = some f ∧ f.offset = i ∧ f.type = it) (h : DataW.trod enc P W base sp held fuel e cs = some x) : cs.length = K ∧ ∀ i, i < K → ∃ z : Int, cs[i]? = some (.int .i64 z) := by
  obtain ⟨xs, n, _, _, hl, hxl, hf⟩ := DataW.trod_struct he h
  rw [ce] at hl
  refine ⟨hl, fun i hK => ?_⟩
  obtain ⟨f, hf1, hf2, hf3⟩ := hfs i hK
  have h1 := hf i f hf1
  rw [hf2, hf3, ci] at h1
  have hi2 : i < xs.length := by
    rw [hxl]; exact (Array.getElem?_eq_some_iff.1 hf1).1
  rw [List.getElem?_eq_getElem hi2] at h1
  have hd : (cs.drop i).take 1 = [cs[i]'(by omega)] := by
    rw [List.drop_eq_getElem_cons (by omega)]; rfl
  rw [hd] at h1
  obtain ⟨z, e1, _, _⟩ := DataW.trod_int hi h1
  simp only [List.cons.injEq, and_true] at e1
  exact ⟨z, by rw [List.getElem?_eq_getElem (by omega), e1]⟩

/-- A slice of structs of K integers that came in. -/
theorem open_structs {W : World} {t e it : TypeId} {K base : Nat} {fs : Array Field} {v : Value} {d : DataW H} {ps : List MemPlace} (ht : P.underlying t = some (.slice e)) (he : P.underlying e = some (.struct fs)) (ce : P.cellsOf e = K) (hK : 0 < K) (hi : P.underlying it = some (.int .i64)) (ci : P.cellsOf it = 1)
    (hfs : ∀ i, i < K → ∃ f : Field, fs[i]? = some f ∧ f.offset = i ∧ f.type = it)
    (hok : Value.okWide P W .any base t v) (h : DataW.Trod enc P W 0 (fun _ => true) true t v d ps) :
    ∃ (sa : Option Addr) (len cap sb off : Nat) (zs : Nat → Nat → Int), v = .slice sa len cap ∧ len ≤ maxLen ∧ (0 < len → sa = some ⟨sb, off, none⟩ ∧ sb < W.heap.size) ∧ (∀ j, j < len → ∀ i, i < K → W.cell? ⟨sb, off + j * K + i, none⟩ = some (.int .i64 (zs j i))) := by
  obtain ⟨sa, len, cap, rfl⟩ := okWide_slice ht hok
  obtain ⟨fuel, hf⟩ := h
  rcases open_slice ht hf with ⟨hcs, _⟩ | ⟨a, len', cap', m, n, D, Pl, hcs, _, hl, hm, hmm, _, hx⟩
  · simp [Value.cells] at hcs
    obtain ⟨rfl, rfl, rfl⟩ := hcs
    exact ⟨none, 0, 0, 0, 0, fun _ _ => 0, rfl, Nat.zero_le _, fun h => absurd h (by omega), fun j hj => absurd hj (by omega)⟩
  · simp [Value.cells] at hcs
    obtain ⟨rfl, rfl, rfl⟩ := hcs
    simp only [if_true] at hmm
    subst hmm
    obtain ⟨b, off, spot⟩ := a
    rw [ce] at hx
    have each : ∀ j, j < len → ∀ i, i < K → ∃ z : Int, W.cell? ((⟨b, off, spot⟩ : Addr).add (j * K + i)) = some (.int .i64 z) := fun j hj i hi2 => by
      obtain ⟨cs', h1, h2⟩ := hx j (by omega)
      obtain ⟨_, hlen, hcell⟩ := World.cells?_some h1
      obtain ⟨_, h3⟩ := struct_ints he ce hi ci hfs h2
      obtain ⟨z, hz⟩ := h3 i hi2
      have h4 := hcell i (by omega)
      rw [add_add, hz] at h4
      exact ⟨z, h4⟩
    have hsp : 0 < len → spot = none := fun h0 => by
      obtain ⟨z, hz⟩ := each 0 h0 0 hK
      simpa [Addr.add] using World.cell?_spot hz
    refine ⟨_, len, m, b, off, fun j i => intOf ((W.cell? ⟨b, off + j * K + i, none⟩).getD (.int .i64 0)), rfl, by omega, fun h0 => ?_, fun j hj i hi2 => ?_⟩
    · obtain rfl := hsp h0
      obtain ⟨z, hz⟩ := each 0 h0 0 hK
      rw [add_plain] at hz
      exact ⟨rfl, cell_block hz⟩
    · obtain rfl := hsp (by omega)
      obtain ⟨z, hz⟩ := each j hj i hi2
      rw [add_plain, ← Nat.add_assoc] at hz
      show _ = some (Value.int .i64 (intOf ((W.cell? ⟨b, off + j * K + i, none⟩).getD (.int .i64 0))))
      rw [hz]; rfl

/-- A struct of three integers that came in by value. -/
theorem open_three {W : World} {e it : TypeId} {base : Nat} {fs : Array Field} {v : Value} {d : DataW H} {ps : List MemPlace} (he : P.underlying e = some (.struct fs)) (ce : P.cellsOf e = 3) (hi : P.underlying it = some (.int .i64)) (ci : P.cellsOf it = 1)
    (hfs : ∀ i, i < 3 → ∃ f : Field, fs[i]? = some f ∧ f.offset = i ∧ f.type = it)
    (hok : Value.okWide P W .any base e v) (h : DataW.Trod enc P W 0 (fun _ => true) true e v d ps) : ∃ x y z : Int, v = .agg #[.int .i64 x, .int .i64 y, .int .i64 z] := by
  obtain ⟨cs, rfl, hsz⟩ := okWide_struct he hok
  obtain ⟨fuel, hf⟩ := h
  obtain ⟨_, h3⟩ := struct_ints he ce hi ci hfs hf
  obtain ⟨x, hx⟩ := h3 0 (by omega)
  obtain ⟨y, hy⟩ := h3 1 (by omega)
  obtain ⟨z, hz⟩ := h3 2 (by omega)
  rw [ce] at hsz
  obtain ⟨l⟩ := cs
  match l, hsz with
  | [c0, c1, c2], _ =>
  simp [Value.cells] at hx hy hz
  subst hx hy hz
  exact ⟨x, y, z, rfl⟩
end

end Go.Proofs.YtkkodhjolgcokaaDoor
/-
  Plain facts: counting the bits of a 64-bit word by halves, quarters and bytes gives how many of its bits are set. No program is run here.
-/
namespace Go.Proofs.YtkkodhjolgcokaaDoor

/-- How many numbers below n are in P. -/
def cnt (P : Nat → Bool) : Nat → Nat
  | 0 => 0
  | n + 1 => cnt P n + (P n).toNat

theorem cnt_congr {P Q : Nat → Bool} : ∀ {n : Nat}, (∀ i, i < n → P i = Q i) → cnt P n = cnt Q n
  | 0, _ => rfl
  | n + 1, h => by rw [cnt, cnt, cnt_congr (fun i hi => h i (by omega)), h n (by omega)]
theorem cnt_add (P : Nat → Bool) (a : Nat) : ∀ b : Nat, cnt P (a + b) = cnt P a + cnt (fun i => P (a + i)) b
  | 0 => rfl
  | b + 1 => by
    show cnt P (a + b) + (P (a + b)).toNat = _
    rw [cnt_add P a b, cnt, Nat.add_assoc]
theorem cnt_le (P : Nat → Bool) : ∀ n : Nat, cnt P n ≤ n
  | 0 => Nat.le_refl _
  | n + 1 => by
    have := cnt_le P n
    have h : (P n).toNat ≤ 1 := by cases P n <;> decide
    rw [cnt]; omega

def rep (c : Nat) : Nat → Nat
  | 0 => 0
  | n + 1 => c + 256 * rep c n

theorem and_split (a c r : Nat) (hc : c < 256) : a &&& (c + 256 * r) = ((a % 256) &&& c) + 256 * ((a / 256) &&& r) := by
  have h1 : (a &&& (c + 256 * r)) % 2 ^ 8 = (a % 2 ^ 8) &&& ((c + 256 * r) % 2 ^ 8) := Nat.and_mod_two_pow
  have h2 : (a &&& (c + 256 * r)) / 2 ^ 8 = (a / 2 ^ 8) &&& ((c + 256 * r) / 2 ^ 8) := Nat.and_div_two_pow
  rw [show (c + 256 * r) % 2 ^ 8 = c by omega] at h1
  rw [show (c + 256 * r) / 2 ^ 8 = r by omega] at h2
  have h3 := Nat.div_add_mod (a &&& (c + 256 * r)) (2 ^ 8)
  rw [h1, h2] at h3
  rw [← h3]
  show 256 * (a / 256 &&& r) + (a % 256 &&& c) = _
  omega

def f1 (b : Nat) : Nat := (b / 2 &&& 85) + (b &&& 85)
def f2 (b : Nat) : Nat := (b / 4 &&& 51) + (b &&& 51)
def s1 (n x : Nat) : Nat := (x / 2 &&& rep 85 n) + (x &&& rep 85 n)
def s2 (n x : Nat) : Nat := (x / 4 &&& rep 51 n) + (x &&& rep 51 n)
def s3 (n x : Nat) : Nat := (x / 16 + x) &&& rep 15 n

theorem low1 : ∀ b : Fin 256, ∀ c : Fin 2, (b.val / 2 + 128 * c.val) &&& 85 = b.val / 2 &&& 85 := by decide +kernel
theorem low2 : ∀ b : Fin 256, ∀ c : Fin 4, (b.val / 4 + 64 * c.val) &&& 51 = b.val / 4 &&& 51 := by decide +kernel
theorem f1_lt : ∀ b : Fin 256, f1 b.val < 256 := by decide +kernel
theorem f2_le : ∀ b : Fin 256, f2 (f1 b.val) ≤ 68 ∧ f2 (f1 b.val) % 16 ≤ 4 := by decide +kernel
def p8 (b : Nat) : Nat := (f2 (f1 b) / 16 + f2 (f1 b)) % 16
theorem p8_cnt : ∀ b : Fin 256, p8 b.val = cnt (fun i => b.val.testBit i) 8 := by decide +kernel

theorem s1_succ (n x : Nat) : s1 (n + 1) x = f1 (x % 256) + 256 * s1 n (x / 256) := by
  unfold s1 f1
  rw [rep, and_split _ 85 _ (by decide), and_split _ 85 _ (by decide)]
  have h := low1 ⟨x % 256, Nat.mod_lt _ (by decide)⟩ ⟨x / 256 % 2, Nat.mod_lt _ (by decide)⟩
  simp only at h
  rw [show x / 2 % 256 = x % 256 / 2 + 128 * (x / 256 % 2) by omega, h, show x / 2 / 256 = x / 256 / 2 by omega]
  omega
theorem s2_succ (n x : Nat) : s2 (n + 1) x = f2 (x % 256) + 256 * s2 n (x / 256) := by
  unfold s2 f2
  rw [rep, and_split _ 51 _ (by decide), and_split _ 51 _ (by decide)]
  have h := low2 ⟨x % 256, Nat.mod_lt _ (by decide)⟩ ⟨x / 256 % 4, Nat.mod_lt _ (by decide)⟩
  simp only at h
  rw [show x / 4 % 256 = x % 256 / 4 + 64 * (x / 256 % 4) by omega, h, show x / 4 / 256 = x / 256 / 4 by omega]
  omega
theorem s3_succ (n lo hi : Nat) (h1 : lo ≤ 68) (h2 : hi % 16 ≤ 4) : s3 (n + 1) (lo + 256 * hi) = (lo / 16 + lo) % 16 + 256 * s3 n hi := by
  unfold s3
  have e : (lo + 256 * hi) / 16 + (lo + 256 * hi) = (lo / 16 + lo + 16 * (hi % 16)) + 256 * (hi / 16 + hi) := by omega
  rw [e, rep, and_split _ 15 _ (by decide)]
  rw [show ((lo / 16 + lo + 16 * (hi % 16)) + 256 * (hi / 16 + hi)) % 256 = lo / 16 + lo + 16 * (hi % 16) by omega,
    show ((lo / 16 + lo + 16 * (hi % 16)) + 256 * (hi / 16 + hi)) / 256 = hi / 16 + hi by omega]
  have h15 : (lo / 16 + lo + 16 * (hi % 16)) &&& 15 = (lo / 16 + lo + 16 * (hi % 16)) % 16 := Nat.and_two_pow_sub_one_eq_mod _ 4
  rw [h15]
  omega

theorem s12_low (n x : Nat) : s2 n (s1 n x) % 16 ≤ 4 := by
  cases n with
  | zero => simp [s2, rep]
  | succ n =>
    have hb := f1_lt ⟨x % 256, Nat.mod_lt _ (by decide)⟩
    have hc := (f2_le ⟨x % 256, Nat.mod_lt _ (by decide)⟩).2
    simp only at hb hc
    rw [s1_succ, s2_succ, show (f1 (x % 256) + 256 * s1 n (x / 256)) % 256 = f1 (x % 256) by omega]
    omega

def swar (n x : Nat) : Nat := s3 n (s2 n (s1 n x))
theorem swar_succ (n x : Nat) : swar (n + 1) x = p8 (x % 256) + 256 * swar n (x / 256) := by
  have hb := f1_lt ⟨x % 256, Nat.mod_lt _ (by decide)⟩
  have hc := (f2_le ⟨x % 256, Nat.mod_lt _ (by decide)⟩).1
  simp only at hb hc
  unfold swar p8
  rw [s1_succ, s2_succ, show (f1 (x % 256) + 256 * s1 n (x / 256)) % 256 = f1 (x % 256) by omega,
    show (f1 (x % 256) + 256 * s1 n (x / 256)) / 256 = s1 n (x / 256) by omega, s3_succ _ _ _ hc (s12_low n _)]

theorem p8_byte (x : Nat) : p8 (x % 256) = cnt (fun i => x.testBit i) 8 ∧ p8 (x % 256) ≤ 8 := by
  have h := p8_cnt ⟨x % 256, Nat.mod_lt _ (by decide)⟩
  simp only at h
  have e : cnt (fun i => (x % 256).testBit i) 8 = cnt (fun i => x.testBit i) 8 := by
    refine cnt_congr fun i hi => ?_
    rw [show 256 = 2 ^ 8 from rfl, Nat.testBit_mod_two_pow]
    simp [hi]
  exact ⟨h.trans e, by rw [h]; exact cnt_le _ 8⟩
theorem cnt_bytes (x n : Nat) : cnt (fun i => x.testBit i) (8 * (n + 1)) = cnt (fun i => x.testBit i) 8 + cnt (fun i => (x / 256).testBit i) (8 * n) := by
  rw [show 8 * (n + 1) = 8 + 8 * n by omega, cnt_add]
  congr 1
  refine cnt_congr fun i _ => ?_
  rw [show 256 = 2 ^ 8 from rfl, Nat.testBit_div_two_pow, Nat.add_comm]

theorem swar_cnt (x : Nat) : ∃ p0 p1 p2 p3 p4 p5 p6 p7 : Nat, p0 ≤ 8 ∧ p1 ≤ 8 ∧ p2 ≤ 8 ∧ p3 ≤ 8 ∧ p4 ≤ 8 ∧ p5 ≤ 8 ∧ p6 ≤ 8 ∧ p7 ≤ 8 ∧
    swar 8 x = p0 + 256 * (p1 + 256 * (p2 + 256 * (p3 + 256 * (p4 + 256 * (p5 + 256 * (p6 + 256 * p7)))))) ∧
    cnt (fun i => x.testBit i) 64 = p0 + p1 + p2 + p3 + p4 + p5 + p6 + p7 := by
  refine ⟨_, _, _, _, _, _, _, _, (p8_byte x).2, (p8_byte (x / 256)).2, (p8_byte (x / 256 / 256)).2, (p8_byte (x / 256 / 256 / 256)).2, (p8_byte (x / 256 / 256 / 256 / 256)).2,
    (p8_byte (x / 256 / 256 / 256 / 256 / 256)).2, (p8_byte (x / 256 / 256 / 256 / 256 / 256 / 256)).2, (p8_byte (x / 256 / 256 / 256 / 256 / 256 / 256 / 256)).2, ?_, ?_⟩
  · rw [swar_succ, swar_succ, swar_succ, swar_succ, swar_succ, swar_succ, swar_succ, swar_succ]
    simp [swar, s3, rep]
  · rw [show 64 = 8 * (7 + 1) from rfl, cnt_bytes, cnt_bytes, cnt_bytes, cnt_bytes, cnt_bytes, cnt_bytes, cnt_bytes, cnt_bytes, show ∀ y : Nat, cnt (fun i => y.testBit i) (8 * 0) = 0 from fun _ => rfl]
    simp only [(p8_byte _).1]
    omega

theorem swar_fold (x : Nat) :
    swar 8 x + swar 8 x / 256 + (swar 8 x + swar 8 x / 256) / 65536 + (swar 8 x + swar 8 x / 256 + (swar 8 x + swar 8 x / 256) / 65536) / 4294967296 < 9223372036854775808 ∧
    (swar 8 x + swar 8 x / 256 + (swar 8 x + swar 8 x / 256) / 65536 + (swar 8 x + swar 8 x / 256 + (swar 8 x + swar 8 x / 256) / 65536) / 4294967296) % 128 = cnt (fun i => x.testBit i) 64 := by
  obtain ⟨p0, p1, p2, p3, p4, p5, p6, p7, h0, h1, h2, h3, h4, h5, h6, h7, hs, hc⟩ := swar_cnt x
  rw [hc]
  generalize swar 8 x = s at *
  have e1 : s + s / 256 = (p0 + p1) + 256 * ((p1 + p2) + 256 * ((p2 + p3) + 256 * ((p3 + p4) + 256 * ((p4 + p5) + 256 * ((p5 + p6) + 256 * ((p6 + p7) + 256 * p7)))))) := by omega
  rw [e1]
  generalize s + s / 256 = t at *
  clear hs
  have e2 : (p0 + p1) + 256 * ((p1 + p2) + 256 * ((p2 + p3) + 256 * ((p3 + p4) + 256 * ((p4 + p5) + 256 * ((p5 + p6) + 256 * ((p6 + p7) + 256 * p7)))))) + ((p0 + p1) + 256 * ((p1 + p2) + 256 * ((p2 + p3) + 256 * ((p3 + p4) + 256 * ((p4 + p5) + 256 * ((p5 + p6) + 256 * ((p6 + p7) + 256 * p7))))))) / 65536 =
      (p0 + p1 + p2 + p3) + 256 * ((p1 + p2 + p3 + p4) + 256 * ((p2 + p3 + p4 + p5) + 256 * ((p3 + p4 + p5 + p6) + 256 * ((p4 + p5 + p6 + p7) + 256 * ((p5 + p6 + p7) + 256 * ((p6 + p7) + 256 * p7)))))) := by omega
  rw [e2]
  clear e1 e2
  have e3 : ((p0 + p1 + p2 + p3) + 256 * ((p1 + p2 + p3 + p4) + 256 * ((p2 + p3 + p4 + p5) + 256 * ((p3 + p4 + p5 + p6) + 256 * ((p4 + p5 + p6 + p7) + 256 * ((p5 + p6 + p7) + 256 * ((p6 + p7) + 256 * p7))))))) / 4294967296 =
      (p4 + p5 + p6 + p7) + 256 * ((p5 + p6 + p7) + 256 * ((p6 + p7) + 256 * p7)) := by omega
  rw [e3]
  clear e3
  constructor <;> omega

/-! The walk's numbers, folded from the inside out. -/
theorem and_le_right (a b : Nat) : a &&& b ≤ b := Nat.and_le_right
theorem wrapN' (a : Nat) (ha : a < 18446744073709551616) : IntKind.u64.wrap (a : Int) = (a : Int) := by rw [IntKind.wrap_u64]; omega
theorem fold1 (x : Nat) (hx : x < 18446744073709551616) :
    IntKind.u64.wrap (bits .and .u64 ((x : Int) / 2) 6148914691236517205 + bits .and .u64 (x : Int) 6148914691236517205) = (s1 8 x : Int) := by
  have h1 := bits_and_u64_nat (x / 2) 6148914691236517205 (by omega) (by omega)
  have h2 := bits_and_u64_nat x 6148914691236517205 (by omega) (by omega)
  have e0 : (x : Int) / 2 = ((x / 2 : Nat) : Int) := by omega
  have b1 := and_le_right (x / 2) 6148914691236517205
  have b2 := and_le_right x 6148914691236517205
  rw [e0]
  rw [show ((6148914691236517205 : Nat) : Int) = (6148914691236517205 : Int) from rfl] at h1 h2
  rw [h1, h2, ← Int.natCast_add, wrapN' _ (by omega)]
  rfl
theorem fold2 (x : Nat) (hx : x < 18446744073709551616) :
    IntKind.u64.wrap (bits .and .u64 ((x : Int) / 4) 3689348814741910323 + bits .and .u64 (x : Int) 3689348814741910323) = (s2 8 x : Int) := by
  have h1 := bits_and_u64_nat (x / 4) 3689348814741910323 (by omega) (by omega)
  have h2 := bits_and_u64_nat x 3689348814741910323 (by omega) (by omega)
  have e0 : (x : Int) / 4 = ((x / 4 : Nat) : Int) := by omega
  have b1 := and_le_right (x / 4) 3689348814741910323
  have b2 := and_le_right x 3689348814741910323
  rw [e0]
  rw [show ((3689348814741910323 : Nat) : Int) = (3689348814741910323 : Int) from rfl] at h1 h2
  rw [h1, h2, ← Int.natCast_add, wrapN' _ (by omega)]
  rfl
theorem fold3 (x : Nat) (hx : x < 9223372036854775808) :
    bits .and .u64 (IntKind.u64.wrap ((x : Int) / 16 + (x : Int))) 1085102592571150095 = (s3 8 x : Int) := by
  have h1 := bits_and_u64_nat (x / 16 + x) 1085102592571150095 (by omega) (by omega)
  rw [show (x : Int) / 16 + (x : Int) = ((x / 16 + x : Nat) : Int) by omega, wrapN' _ (by omega)]
  rw [show ((1085102592571150095 : Nat) : Int) = (1085102592571150095 : Int) from rfl] at h1
  rw [h1]
  rfl
theorem s1_lt (x : Nat) : s1 8 x < 18446744073709551616 := by
  have b1 := and_le_right (x / 2) (rep 85 8)
  have b2 := and_le_right x (rep 85 8)
  have : rep 85 8 = 6148914691236517205 := by decide
  unfold s1; omega
theorem s2_lt (x : Nat) : s2 8 x < 9223372036854775808 := by
  have b1 := and_le_right (x / 4) (rep 51 8)
  have b2 := and_le_right x (rep 51 8)
  have : rep 51 8 = 3689348814741910323 := by decide
  unfold s2; omega
theorem fold4 (z : Nat) (hz : z + z / 256 + (z + z / 256) / 65536 + (z + z / 256 + (z + z / 256) / 65536) / 4294967296 < 9223372036854775808) :
    bits .and .i64 (Go.RowKit.wrap64 (IntKind.u64.wrap (IntKind.u64.wrap (IntKind.u64.wrap ((z : Int) + (z : Int) / 256) + IntKind.u64.wrap ((z : Int) + (z : Int) / 256) / 65536) + IntKind.u64.wrap (IntKind.u64.wrap ((z : Int) + (z : Int) / 256) + IntKind.u64.wrap ((z : Int) + (z : Int) / 256) / 65536) / 4294967296))) 127 =
      (((z + z / 256 + (z + z / 256) / 65536 + (z + z / 256 + (z + z / 256) / 65536) / 4294967296) % 128 : Nat) : Int) := by
  rw [i64_and127]
  rw [show (z : Int) + (z : Int) / 256 = ((z + z / 256 : Nat) : Int) by omega, wrapN' (z + z / 256) (by omega)]
  generalize z + z / 256 = t at *
  rw [show (t : Int) + (t : Int) / 65536 = ((t + t / 65536 : Nat) : Int) by omega, wrapN' (t + t / 65536) (by omega)]
  generalize t + t / 65536 = u at *
  rw [show (u : Int) + (u : Int) / 4294967296 = ((u + u / 4294967296 : Nat) : Int) by omega, wrapN' (u + u / 4294967296) (by omega)]
  unfold Go.RowKit.wrap64
  omega

end Go.Proofs.YtkkodhjolgcokaaDoor
/-
  Plain facts: a set of numbers as words of 64 bits, and what or, and-not, and, exclusive or and the lowest bit of such a word say of the set. No program is run here.
-/
namespace Go.Proofs.YtkkodhjolgcokaaDoor

def wordTo (S : Nat → Bool) (j : Nat) : Nat → Nat
  | 0 => 0
  | i + 1 => 2 ^ i * (S (64 * j + i)).toNat + wordTo S j i
/-- The j-th word of the set S. -/
def word (S : Nat → Bool) (j : Nat) : Nat := wordTo S j 64

theorem wordTo_lt (S : Nat → Bool) (j : Nat) : ∀ m : Nat, wordTo S j m < 2 ^ m
  | 0 => by simp [wordTo]
  | m + 1 => by
    have := wordTo_lt S j m
    rw [wordTo, Nat.pow_succ]
    cases S (64 * j + m) <;> simp <;> omega
theorem wordTo_bit (S : Nat → Bool) (j : Nat) : ∀ m i : Nat, (wordTo S j m).testBit i = (decide (i < m) && S (64 * j + i))
  | 0, i => by simp [wordTo]
  | m + 1, i => by
    rw [wordTo, Nat.testBit_two_pow_mul_add _ (wordTo_lt S j m), wordTo_bit S j m i]
    by_cases h : i < m
    · simp [h, show i < m + 1 by omega]
    · by_cases h2 : i = m
      · subst h2
        cases S (64 * j + i) <;> simp
      · obtain ⟨d, rfl⟩ : ∃ d, i = m + (d + 1) := ⟨i - m - 1, by omega⟩
        cases S (64 * j + m) <;> simp [show m + (d + 1) - m = d + 1 by omega, Nat.testBit_succ] <;> (intro h'; omega)
theorem word_lt (S : Nat → Bool) (j : Nat) : word S j < 18446744073709551616 := wordTo_lt S j 64
theorem word_bit (S : Nat → Bool) (j i : Nat) : (word S j).testBit i = (decide (i < 64) && S (64 * j + i)) := wordTo_bit S j 64 i
theorem word_none (j : Nat) : word (fun _ => false) j = 0 := by
  apply Nat.eq_of_testBit_eq; intro i; rw [word_bit]; simp
theorem word_congr {S T : Nat → Bool} {j : Nat} (h : ∀ i, i < 64 → S (64 * j + i) = T (64 * j + i)) : word S j = word T j := by
  apply Nat.eq_of_testBit_eq; intro i; rw [word_bit, word_bit]
  by_cases hi : i < 64
  · rw [h i hi]
  · simp [hi]

def ins (S : Nat → Bool) (k : Nat) : Nat → Bool := fun i => i == k || S i
def del (S : Nat → Bool) (k : Nat) : Nat → Bool := fun i => i != k && S i

theorem pow_bit (m i : Nat) : (2 ^ m).testBit i = decide (m = i) := Nat.testBit_two_pow
theorem word_ins_same (S : Nat → Bool) (k : Nat) : word (ins S k) (k / 64) = word S (k / 64) ||| 2 ^ (k % 64) := by
  apply Nat.eq_of_testBit_eq; intro i
  rw [Nat.testBit_or, word_bit, word_bit, pow_bit]
  unfold ins
  have hk : 64 * (k / 64) + k % 64 = k := Nat.div_add_mod k 64
  have hm : k % 64 < 64 := Nat.mod_lt _ (by decide)
  by_cases hi : i < 64
  · by_cases he : k % 64 = i
    · have : 64 * (k / 64) + i = k := by omega
      simp [hi, he, this]
    · have : 64 * (k / 64) + i ≠ k := by omega
      simp [hi, he, this]
  · have : ¬ k % 64 = i := by omega
    simp [hi, this]
theorem word_ins_other (S : Nat → Bool) (k j : Nat) (h : j ≠ k / 64) : word (ins S k) j = word S j := by
  refine word_congr fun i hi => ?_
  have : 64 * j + i ≠ k := by omega
  simp [ins, this]
theorem word_del_other (S : Nat → Bool) (k j : Nat) (h : j ≠ k / 64) : word (del S k) j = word S j := by
  refine word_congr fun i hi => ?_
  have : 64 * j + i ≠ k := by omega
  simp [del, this]
theorem not_bit (x i : Nat) (hx : x < 18446744073709551616) : (18446744073709551615 - x).testBit i = (decide (i < 64) && !x.testBit i) := by
  have := Nat.testBit_two_pow_sub_succ (n := 64) hx i
  rw [show 2 ^ 64 - (x + 1) = 18446744073709551615 - x by omega] at this
  exact this
theorem pow_lt (m : Nat) (h : m < 64) : 2 ^ m < 18446744073709551616 := Nat.pow_lt_pow_right (a := 2) (by decide) h
theorem word_del_same (S : Nat → Bool) (k : Nat) : word (del S k) (k / 64) = word S (k / 64) &&& (18446744073709551615 - 2 ^ (k % 64)) := by
  apply Nat.eq_of_testBit_eq; intro i
  have hk : 64 * (k / 64) + k % 64 = k := Nat.div_add_mod k 64
  have hm : k % 64 < 64 := Nat.mod_lt _ (by decide)
  rw [Nat.testBit_and, not_bit _ _ (pow_lt _ hm), word_bit, word_bit, pow_bit]
  unfold del
  by_cases hi : i < 64
  · by_cases he : k % 64 = i
    · have : 64 * (k / 64) + i = k := by omega
      simp [hi, he, this]
    · have : 64 * (k / 64) + i ≠ k := by omega
      simp [hi, he, this]
  · simp [hi]
theorem word_has (S : Nat → Bool) (k : Nat) : word S (k / 64) &&& 2 ^ (k % 64) = if S k then 2 ^ (k % 64) else 0 := by
  apply Nat.eq_of_testBit_eq; intro i
  have hk : 64 * (k / 64) + k % 64 = k := Nat.div_add_mod k 64
  have hm : k % 64 < 64 := Nat.mod_lt _ (by decide)
  rw [Nat.testBit_and, word_bit, pow_bit]
  by_cases he : k % 64 = i
  · subst he
    rw [hk]
    cases h : S k <;> simp [hm]
  · cases h : S k <;> simp [he]

theorem word_xor_zero (S : Nat → Bool) (j : Nat) : word S j ^^^ 0 = word S j := Nat.xor_zero _
theorem word_xor_all (S : Nat → Bool) (j : Nat) : word S j ^^^ 18446744073709551615 = word (fun i => !S i) j := by
  apply Nat.eq_of_testBit_eq; intro i
  have h1 : (18446744073709551615).testBit i = decide (i < 64) := Nat.testBit_two_pow_sub_one 64 i
  rw [Nat.testBit_xor, word_bit, word_bit, h1]
  by_cases hi : i < 64 <;> simp [hi]

/-- The bits from m on. -/
def from64 (m : Nat) : Nat := 18446744073709551616 - 2 ^ m
theorem from_bit (m i : Nat) (hm : m < 64) : (from64 m).testBit i = (decide (m ≤ i) && decide (i < 64)) := by
  have h0 : 0 < 2 ^ m := Nat.two_pow_pos m
  have h1 := pow_lt m hm
  have h := not_bit (2 ^ m - 1) i (by omega)
  rw [show 18446744073709551615 - (2 ^ m - 1) = from64 m by unfold from64; omega, Nat.testBit_two_pow_sub_one] at h
  rw [h]
  by_cases hi : i < 64 <;> by_cases hmi : m ≤ i <;> simp [hi, hmi] <;> omega
theorem from_zero : from64 0 = 18446744073709551615 := by decide
theorem from_lt (m : Nat) : from64 m < 18446744073709551616 := by
  have h0 : 0 < 2 ^ m := Nat.two_pow_pos m
  unfold from64; omega

theorem masked_bit (P : Nat → Bool) (j m i : Nat) (hm : m < 64) : (word P j &&& from64 m).testBit i = (decide (m ≤ i) && decide (i < 64) && P (64 * j + i)) := by
  rw [Nat.testBit_and, word_bit, from_bit m i hm]
  by_cases hi : i < 64 <;> by_cases hmi : m ≤ i <;> simp [hi, hmi]
theorem masked_zero (P : Nat → Bool) (j m : Nat) (hm : m < 64) (h : word P j &&& from64 m = 0) (i : Nat) (h1 : m ≤ i) (h2 : i < 64) : P (64 * j + i) = false := by
  have := masked_bit P j m i hm
  rw [h] at this
  simpa [h1, h2] using this.symm
/-- A word that is not 0 has a lowest bit. -/
theorem lowest (x : Nat) (h0 : x ≠ 0) (hx : x < 18446744073709551616) : x.testBit (Lib.ctz 64 x) = true ∧ (∀ i, i < Lib.ctz 64 x → x.testBit i = false) ∧ Lib.ctz 64 x < 64 := by
  have e : Lib.ctz 64 x = Lib.ctzFrom 64 x := by unfold Lib.ctz; rw [if_neg h0]
  obtain ⟨m, hm, hk⟩ := Lib.ctzFrom_spec 64 x (by omega) hx
  rw [e]
  generalize Lib.ctzFrom 64 x = c at *
  refine ⟨?_, fun i hi => ?_, hk⟩
  · rw [hm, Nat.mul_comm, Nat.testBit_mul_two_pow]
    simp [Nat.testBit_zero]
  · rw [hm, Nat.mul_comm, Nat.testBit_mul_two_pow]
    simp; omega
theorem lowest_unique (x c : Nat) (hx : x < 18446744073709551616) (h1 : x.testBit c = true) (h2 : ∀ i, i < c → x.testBit i = false) : Lib.ctz 64 x = c := by
  have h0 : x ≠ 0 := by rintro rfl; simp at h1
  obtain ⟨a1, a2, _⟩ := lowest x h0 hx
  rcases Nat.lt_trichotomy (Lib.ctz 64 x) c with h | h | h
  · rw [h2 _ h] at a1; cases a1
  · exact h
  · rw [a2 _ h] at h1; cases h1

/-! How many numbers a set has. -/
theorem cnt_word (S : Nat → Bool) (j : Nat) : cnt (fun i => (word S j).testBit i) 64 = cnt (fun i => S (64 * j + i)) 64 := by
  refine cnt_congr fun i hi => ?_
  rw [word_bit]; simp [hi]
theorem cnt_words (S : Nat → Bool) (j : Nat) : cnt S (64 * (j + 1)) = cnt S (64 * j) + cnt (fun i => (word S j).testBit i) 64 := by
  rw [cnt_word, show 64 * (j + 1) = 64 * j + 64 by omega, cnt_add]
theorem cnt_beyond (S : Nat → Bool) (n m : Nat) (h : n ≤ m) (hS : ∀ i, n ≤ i → S i = false) : cnt S m = cnt S n := by
  obtain ⟨d, rfl⟩ : ∃ d, m = n + d := ⟨m - n, by omega⟩
  rw [cnt_add]
  have : cnt (fun i => S (n + i)) d = 0 := by
    have e : cnt (fun i => S (n + i)) d = cnt (fun _ => false) d := cnt_congr fun i _ => hS _ (by omega)
    rw [e]
    clear e h
    induction d with
    | zero => rfl
    | succ d ih => rw [cnt, ih]; rfl
  omega

end Go.Proofs.YtkkodhjolgcokaaDoor
/-
  Plain facts on masks of 64-bit numbers: no program is run here.
-/
namespace Go.Proofs.YtkkodhjolgcokaaDoor

theorem u64_mask (i : Nat) (hi : i ≤ 63) (a : Nat) (ha : a < 18446744073709551616) : bits .and .u64 (a : Int) ((2 ^ i - 1 : Nat) : Int) = ((a % 2 ^ i : Nat) : Int) := by
  have hm : 2 ^ i - 1 < 18446744073709551616 := by
    have : 2 ^ i ≤ 2 ^ 63 := Nat.pow_le_pow_right (by decide) hi
    omega
  rw [bits_and_u64_nat a _ ha hm, Nat.and_two_pow_sub_one_eq_mod]

theorem i64_mask (i : Nat) (hi : i ≤ 62) (n : Int) : bits .and .i64 n ((2 ^ i - 1 : Nat) : Int) = n % ((2 ^ i : Nat) : Int) := by
  have hp : 2 ^ i ≤ 2 ^ 62 := Nat.pow_le_pow_right (by decide) hi
  have hp0 : 0 < 2 ^ i := Nat.two_pow_pos i
  have hb : (BitVec.ofInt 64 ((2 ^ i - 1 : Nat) : Int)).toNat = 2 ^ i - 1 := by
    rw [BitVec.ofInt_natCast, BitVec.toNat_ofNat]; exact Nat.mod_eq_of_lt (by omega)
  have key : (BitVec.ofInt 64 n &&& BitVec.ofInt 64 ((2 ^ i - 1 : Nat) : Int)).toNat = (n % ((2 ^ 64 : Nat) : Int)).toNat % 2 ^ i := by
    rw [BitVec.toNat_and, BitVec.toNat_ofInt, hb, Nat.and_two_pow_sub_one_eq_mod]
  show IntKind.i64.wrap ((BitVec.ofInt 64 n &&& BitVec.ofInt 64 ((2 ^ i - 1 : Nat) : Int)).toNat : Nat) = _
  rw [key, IntKind.wrap_i64]
  have h64 : 2 ^ 64 = 2 ^ i * 2 ^ (64 - i) := by rw [← Nat.pow_add]; congr 1; omega
  have e1 : (((n % ((2 ^ 64 : Nat) : Int)).toNat % 2 ^ i : Nat) : Int) = n % ((2 ^ i : Nat) : Int) := by
    rw [Int.natCast_emod, Int.toNat_of_nonneg (Int.emod_nonneg _ (by decide)), Int.emod_emod_of_dvd _ (Int.natCast_dvd_natCast.2 ⟨2 ^ (64 - i), h64⟩)]
  rw [e1]
  have h1 : 0 ≤ n % ((2 ^ i : Nat) : Int) := Int.emod_nonneg _ (by omega)
  have h2 : n % ((2 ^ i : Nat) : Int) < ((2 ^ i : Nat) : Int) := Int.emod_lt_of_pos _ (by omega)
  omega

end Go.Proofs.YtkkodhjolgcokaaDoor
/-
  Contracts of package bits, over this seat's translation.
-/
namespace Go.Proofs.YtkkodhjolgcokaaDoor
open Go.RowKit Go.Lib
set_option maxRecDepth 100000

theorem ret_int {k : IntKind} {a b : Int} (h : a = b) : Ending.returned (.int k a) = .returned (.int k b) := by rw [h]
theorem ret_bool {a b : Bool} (h : a = b) : Ending.returned (.bool a) = .returned (.bool b) := by rw [h]

set_option maxHeartbeats 400000 in
theorem clamp_any (n lo hi : Int) (w : World) :
    Calls Tryd.prog 58 #[.int .i64 n, .int .i64 lo, .int .i64 hi] w fun e w' => e = .returned (.int .i64 (max lo (min n hi))) ∧ w = w' := by
  go_enter Tryd.func58, Tryd.ntmps58
  go_wp2
  all_goals
    go_ret
    exact ⟨ret_int (by omega), rfl⟩

set_option maxHeartbeats 400000 in
theorem fits_in (b k n : Nat) (w : World) (hk : k < n) (hc : w.cell? ⟨b, 0, none⟩ = some (.int .i64 n)) :
    Calls Tryd.prog 62 #[.pointer (some ⟨b, 0, none⟩), .int .i64 k] w fun e w' => e = .returned (.bool true) ∧ w = w' := by
  go_enter Tryd.func62, Tryd.ntmps62
  go_wp2
  go_ret
  exact ⟨rfl, rfl⟩

set_option maxHeartbeats 400000 in
theorem fits_out (b n : Nat) (k : Int) (w : World) (hk : k < 0 ∨ (n : Int) ≤ k) (hc : w.cell? ⟨b, 0, none⟩ = some (.int .i64 n)) :
    Calls Tryd.prog 62 #[.pointer (some ⟨b, 0, none⟩), .int .i64 k] w fun e w' => e = .returned (.bool false) ∧ w = w' := by
  by_cases h0 : k < 0
  · clear hk
    go_enter Tryd.func62, Tryd.ntmps62
    go_wp2
    go_ret
    exact ⟨rfl, rfl⟩
  · have h1 : ¬ k < (n : Int) := by omega
    have h2 : 0 ≤ k := by omega
    clear hk h0
    go_enter Tryd.func62, Tryd.ntmps62
    go_wp2
    go_ret
    exact ⟨rfl, rfl⟩

theorem powW (m : Nat) (hm : m < 64) : IntKind.u64.wrap ((2 : Int) ^ m) = ((2 ^ m : Nat) : Int) := by
  have h := pow_lt m hm
  have e : ((2 : Int) ^ m) = ((2 ^ m : Nat) : Int) := by rw [Int.natCast_pow]; rfl
  rw [e]
  generalize 2 ^ m = x at *
  rw [IntKind.wrap_u64]
  omega

set_option maxHeartbeats 400000 in
theorem bit_any (k : Nat) (w : World) (hk : k < 9223372036854775808) :
    Calls Tryd.prog 63 #[.int .i64 k] w fun e w' => e = .returned (.int .u64 ((2 ^ (k % 64) : Nat) : Int)) ∧ w' = w := by
  go_enter Tryd.func63, Tryd.ntmps63
  go_wp2
  go_ret
  exact ⟨ret_int (powW _ (Nat.mod_lt _ (by decide))), rfl⟩

/-- The library's table, as it is laid. -/
def TabAt (w : World) : Prop := ∀ j, j < Lib.deBruijn64tab.length → w.cell? ⟨0, j, none⟩ = some (.int .u8 (Lib.deBruijn64tab.getD j 0))

set_option maxHeartbeats 400000 in
theorem tz_core (x k idx : Nat) (w : World) (hx0 : ((x : Int) == 0) = false)
    (key : IntKind.u64.wrap (bits BinOp.and IntKind.u64 (x : Int) (IntKind.u64.wrap (-(x : Int))) * 285870213051353865) / 288230376151711744 = (idx : Int))
    (hi : idx < 64) (hk : k < 64) (hcell : w.cell? ⟨0, idx, none⟩ = some (.int .u8 k)) :
    Calls Tryd.prog 78 #[.int .u64 x] w fun e w' => e = .returned (.int .i64 k) ∧ w = w' := by
  go_enter Tryd.func78, Tryd.ntmps78
  go_wp2_with (simp only [key])
  go_ret
  exact ⟨rfl, rfl⟩
theorem tz_key (x a : Nat) (hx : x < 18446744073709551616) (hx0 : x ≠ 0) (hlow : x &&& (18446744073709551616 - x) = a) :
    IntKind.u64.wrap (bits BinOp.and IntKind.u64 (x : Int) (IntKind.u64.wrap (-(x : Int))) * 285870213051353865) / 288230376151711744 = ((a * 285870213051353865 % 18446744073709551616 / 288230376151711744 : Nat) : Int) := by
  have e1 : IntKind.u64.wrap (-(x : Int)) = ((18446744073709551616 - x : Nat) : Int) := by rw [IntKind.wrap_u64]; omega
  rw [e1, bits_and_u64_nat x _ hx (by omega), hlow, IntKind.wrap_u64]
  omega
/-- math/bits.TrailingZeros64 of a word that is not 0: its lowest bit. -/
theorem tz_any (x : Nat) (w : World) (hx0 : x ≠ 0) (hx : x < 18446744073709551616) (hT : TabAt w) :
    Calls Tryd.prog 78 #[.int .u64 x] w fun e w' => e = .returned (.int .i64 (Lib.ctz 64 x : Nat)) ∧ w = w' := by
  obtain ⟨hlow, hk⟩ := Lib.lowest_bit 64 x hx0 hx
  obtain ⟨hi, htab⟩ := Lib.deBruijn64_at _ hk
  have hcell := hT _ hi
  rw [htab] at hcell
  exact tz_core x _ _ w (by simp; omega) (tz_key x _ hx hx0 hlow) hi hk hcell

set_option maxHeartbeats 1000000 in
theorem ones_any (x : Nat) (w : World) (hx : x < 18446744073709551616) :
    Calls Tryd.prog 76 #[.int .u64 x] w fun e w' => e = .returned (.int .i64 (cnt (fun i => x.testBit i) 64 : Nat)) ∧ w = w' := by
  obtain ⟨hz, hc⟩ := swar_fold x
  have HC := Lib.hid hc
  clear hc
  go_enter Tryd.func76, Tryd.ntmps76
  go_wp2
  go_ret
  refine ⟨ret_int ?_, rfl⟩
  rw [← HC.out, ← fold4 _ hz]
  rw [fold1 x hx, fold2 _ (s1_lt x), fold3 _ (s2_lt _)]
  rfl

/-- A set of the program: block b holds its size and its words' slice, block g the words. -/
structure SetAt (w : World) (b g n : Nat) (S : Nat → Bool) : Prop where
  size : n ≤ 4096
  bound : ∀ i, n ≤ i → S i = false
  c0 : w.cell? ⟨b, 0, none⟩ = some (.int .i64 n)
  c1 : w.cell? ⟨b, 1, none⟩ = some (.slice (some ⟨g, 0, none⟩) ((n + 63) / 64) ((n + 63) / 64))
  cw : ∀ j, j < (n + 63) / 64 → w.cell? ⟨g, j, none⟩ = some (.int .u64 (word S j : Nat))
  cf : ∀ j, j < (n + 63) / 64 → w.frozen? ⟨g, j, none⟩ = false
  bg : b ≠ g
  hb : b < w.heap.size
  hg : g < w.heap.size

theorem SetAt.drewN {w : World} {b g n : Nat} {S : Nat → Bool} (h : SetAt w b g n S) (k : Nat) : SetAt (w.drewN k) b g n S :=
  ⟨h.size, h.bound, h.c0, h.c1, h.cw, h.cf, h.bg, h.hb, h.hg⟩
theorem SetAt.kept {w w' : World} {b g n : Nat} {S : Nat → Bool} (h : SetAt w b g n S) {row : Option Nat} (hw : w.grownBy w' row) (h1 : some b ≠ row) (h2 : some g ≠ row) : SetAt w' b g n S :=
  ⟨h.size, h.bound, (hw.cell_far ⟨b, 0, none⟩ h.hb h1).trans h.c0, (hw.cell_far ⟨b, 1, none⟩ h.hb h1).trans h.c1, fun j hj => (hw.cell_far ⟨g, j, none⟩ h.hg h2).trans (h.cw j hj),
    fun j hj => (hw.frozen_far ⟨g, j, none⟩ h.hg h2).trans (h.cf j hj), h.bg, Nat.lt_of_lt_of_le h.hb hw.size, Nat.lt_of_lt_of_le h.hg hw.size⟩

set_option maxHeartbeats 1000000 in
theorem has_in (b g n k : Nat) (S : Nat → Bool) (w : World) (h : SetAt w b g n S) (hk : k < n) :
    Calls Tryd.prog 39 #[.pointer (some ⟨b, 0, none⟩), .int .i64 k] w fun e w' => e = .returned (.bool (S k)) ∧ ∃ m, w' = w.drewN m := by
  have h0 := h.c0
  have h1 := h.c1
  have hsz := h.size
  have hq : k / 64 < (n + 63) / 64 := by omega
  have h2 := h.cw _ hq
  have hwd := word_lt S (k / 64)
  have hpw := pow_lt (k % 64) (Nat.mod_lt _ (by decide))
  have hand := bits_and_u64_nat (word S (k / 64)) (2 ^ (k % 64)) hwd hpw
  rw [word_has] at hand
  have hp0 : 0 < 2 ^ (k % 64) := Nat.two_pow_pos _
  generalize word S (k / 64) = wd at *
  have hf := fits_in b k n w hk h0
  have hbt : ∀ W : World, Calls Tryd.prog 63 #[.int .i64 k] W fun e w' => e = .returned (.int .u64 ((2 ^ (k % 64) : Nat) : Int)) ∧ w' = W := fun W => bit_any k W (by omega)
  generalize 2 ^ (k % 64) = pw at *
  have HF := Lib.hid hf
  have HB := Lib.hid hbt
  clear hf hbt
  cases hS : S k
  · rw [hS] at hand
    have hand' : bits .and .u64 (wd : Int) (pw : Int) = 0 := hand
    clear hand h
    go_enter Tryd.func39, Tryd.ntmps39
    go_wp2_with fail
    go_quiet ((first | (go_at_call 62; exact Calls.quiet_of_same ((fits_in b k n _ hk (by assumption)).mono fun _ _ ⟨a, c⟩ => ⟨a, c.symm⟩)) | (go_at_call 63; exact Calls.quiet_of_same (HB.out _))))
    go_wp2
    go_ret
    exact ⟨rfl, nq, rfl⟩
  · rw [hS] at hand
    have hand' : bits .and .u64 (wd : Int) (pw : Int) = (pw : Int) := hand
    have hne : ((pw : Int) != 0) = true := by simp; omega
    clear hand h
    go_enter Tryd.func39, Tryd.ntmps39
    go_wp2_with fail
    go_quiet ((first | (go_at_call 62; exact Calls.quiet_of_same ((fits_in b k n _ hk (by assumption)).mono fun _ _ ⟨a, c⟩ => ⟨a, c.symm⟩)) | (go_at_call 63; exact Calls.quiet_of_same (HB.out _))))
    go_wp2
    go_ret
    exact ⟨rfl, nq, rfl⟩

set_option maxHeartbeats 1000000 in
theorem has_out (b g n : Nat) (k : Int) (S : Nat → Bool) (w : World) (h : SetAt w b g n S) (hk : k < 0 ∨ (n : Int) ≤ k) :
    Calls Tryd.prog 39 #[.pointer (some ⟨b, 0, none⟩), .int .i64 k] w fun e w' => e = .returned (.bool false) ∧ ∃ m, w' = w.drewN m := by
  have h0 := h.c0
  have HK := Lib.hid hk
  clear hk h
  go_enter Tryd.func39, Tryd.ntmps39
  go_wp2_with fail
  go_quiet ((go_at_call 62; exact Calls.quiet_of_same ((fits_out b n k _ HK.out (by assumption)).mono fun _ _ ⟨a, c⟩ => ⟨a, c.symm⟩)))
  go_wp2
  go_ret
  exact ⟨rfl, nq, rfl⟩

theorem grow_draw (w : World) (row : Option Nat) (m : Nat) : w.grownBy (w.drewN m) row := ⟨rfl, rfl, rfl, Nat.le_refl _, fun _ _ _ => rfl⟩
theorem SetAt.drew {w : World} {b g n : Nat} {S : Nat → Bool} (h : SetAt w b g n S) : SetAt w.drew b g n S :=
  ⟨h.size, h.bound, h.c0, h.c1, h.cw, h.cf, h.bg, h.hb, h.hg⟩

theorem SetAt.store {w : World} {b g n : Nat} {S T : Nat → Bool} (h : SetAt w b g n S) (q : Nat) (hq : q < (n + 63) / 64) (hT : ∀ i, n ≤ i → T i = false) (ho : ∀ j, j ≠ q → word T j = word S j) (v : Int) (hv : v = (word T q : Nat)) :
    SetAt (w.setCell ⟨g, q, none⟩ (.int .u64 v)) b g n T := by
  subst hv
  have hz : (w.setCell ⟨g, q, none⟩ (.int .u64 (word T q : Nat))).heap.size = w.heap.size := by simp [World.setCell]
  refine ⟨h.size, hT, ?_, ?_, fun j hj => ?_, fun j hj => ?_, h.bg, by rw [hz]; exact h.hb, by rw [hz]; exact h.hg⟩
  · rw [World.cell?_setCell_other _ _ _ _ (by intro e; cases e; exact h.bg rfl)]; exact h.c0
  · rw [World.cell?_setCell_other _ _ _ _ (by intro e; cases e; exact h.bg rfl)]; exact h.c1
  · by_cases e : j = q
    · subst e; exact World.cell?_setCell_same _ _ _ (h.cw j hj)
    · rw [World.cell?_setCell_other _ _ _ _ (by intro e'; cases e'; exact e rfl), h.cw j hj, ho j e]
  · rw [World.frozen?_setCell]; exact h.cf j hj
theorem ins_bound {S : Nat → Bool} {n k : Nat} (hk : k < n) (h : ∀ i, n ≤ i → S i = false) (i : Nat) (hi : n ≤ i) : ins S k i = false := by
  have : i ≠ k := by omega
  simp [ins, this, h i hi]
theorem del_bound {S : Nat → Bool} {n k : Nat} (h : ∀ i, n ≤ i → S i = false) (i : Nat) (hi : n ≤ i) : del S k i = false := by
  simp [del, h i hi]
theorem grow_set {a w : World} {g q : Nat} (h : a.grownBy w (some g)) (u : Value) : a.grownBy (w.setCell ⟨g, q, none⟩ u) (some g) :=
  ⟨h.os, h.tape, h.output, by simpa [World.setCell] using h.size, fun i hi hne => (Below.heap_setCell w ⟨g, q, none⟩ u i (by rintro rfl; exact hne rfl)).trans (h.block i hi hne)⟩

set_option maxRecDepth 100000 in
set_option maxHeartbeats 1000000 in
theorem put_in (b g n k : Nat) (S : Nat → Bool) (w : World) (h : SetAt w b g n S) (hk : k < n) (hS : S k = false) :
    Calls Tryd.prog 38 #[.pointer (some ⟨b, 0, none⟩), .int .i64 k] w fun e w' => e = .returned (.bool true) ∧ w.grownBy w' (some g) ∧ SetAt w' b g n (ins S k) := by
  have h0 := h.c0
  have hsz := h.size
  have hq : k / 64 < (n + 63) / 64 := by omega
  have hi := has_in b g n k S w h hk
  rw [hS] at hi
  have HI := Lib.hid hi
  have HH := Lib.hid h
  clear hi h
  go_enter Tryd.func38, Tryd.ntmps38
  go_wp2_with fail
  refine (fits_in b k n _ hk h0).mono ?_
  rintro e w' ⟨rfl, rfl⟩
  go_wp2_with fail
  refine HI.out.mono ?_
  rintro e w1 ⟨rfl, m, hw1⟩
  have hs1 : SetAt w1 b g n S := hw1 ▸ HH.out.drewN m
  have hg1 : w.grownBy w1 (some g) := hw1 ▸ grow_draw w _ m
  clear hw1
  have HS := Lib.hid hs1
  clear hs1 h0
  go_wp2_with fail
  refine wp_region_still_tail 12 (by kernel_rfl) (by kernel_rfl) ?_
  simp only [List.take_succ_cons, List.take_zero, List.drop_succ_cons, List.drop_zero]
  change wpStill _ _ w1.drew (fun a' => wpList _ _ _ _ a' w1.drew) _ _
  have hs2 : SetAt w1.drew b g n S := HS.out.drew
  have hg2 : w.grownBy w1.drew (some g) := ⟨hg1.os, hg1.tape, hg1.output, hg1.size, hg1.block⟩
  generalize w1.drew = w2 at hs2 hg2 ⊢
  clear hg1 HS
  have h1 := hs2.c1
  have h2 := hs2.cw _ hq
  have h3 := hs2.cf _ hq
  have q1 : IntKind.i64.wrap ((k : Int) / 64) = (k : Int) / 64 := by rw [IntKind.wrap_i64]; omega
  have q2 : 0 ≤ (k : Int) / 64 := by omega
  have q3 : (k : Int) / 64 < ((n : Int) + 63) / 64 := by omega
  have q4 : ((k : Int) / 64).toNat = k / 64 := by omega
  repeat still_step
  still_call (bit_any k _ (by omega))
  repeat still_step
  refine wpStill_nil ?_
  have hwd := word_lt S (k / 64)
  have hpw := pow_lt (k % 64) (Nat.mod_lt _ (by decide))
  go_wp2
  go_ret
  refine ⟨rfl, grow_set hg2 _, hs2.store _ hq (ins_bound hk hs2.bound) (fun j hj => word_ins_other S k j hj) _ ?_⟩
  have e := bits_or_u64_nat (word S (k / 64)) (2 ^ (k % 64)) hwd hpw
  rw [← word_ins_same, Int.natCast_pow] at e
  exact e

set_option maxRecDepth 100000 in
set_option maxHeartbeats 1000000 in
theorem drop_in (b g n k : Nat) (S : Nat → Bool) (w : World) (h : SetAt w b g n S) (hk : k < n) (hS : S k = true) :
    Calls Tryd.prog 57 #[.pointer (some ⟨b, 0, none⟩), .int .i64 k] w fun e w' => e = .returned (.bool true) ∧ w.grownBy w' (some g) ∧ SetAt w' b g n (del S k) := by
  have h0 := h.c0
  have hsz := h.size
  have hq : k / 64 < (n + 63) / 64 := by omega
  have hi := has_in b g n k S w h hk
  rw [hS] at hi
  have HI := Lib.hid hi
  have HH := Lib.hid h
  clear hi h
  go_enter Tryd.func57, Tryd.ntmps57
  go_wp2_with fail
  refine HI.out.mono ?_
  rintro e w1 ⟨rfl, m, hw1⟩
  have hs1 : SetAt w1 b g n S := hw1 ▸ HH.out.drewN m
  have hg1 : w.grownBy w1 (some g) := hw1 ▸ grow_draw w _ m
  clear hw1
  have HS := Lib.hid hs1
  clear hs1 h0
  go_wp2_with fail
  refine wp_region_still_tail 12 (by kernel_rfl) (by kernel_rfl) ?_
  simp only [List.take_succ_cons, List.take_zero, List.drop_succ_cons, List.drop_zero]
  change wpStill _ _ w1.drew (fun a' => wpList _ _ _ _ a' w1.drew) _ _
  have hs2 : SetAt w1.drew b g n S := HS.out.drew
  have hg2 : w.grownBy w1.drew (some g) := ⟨hg1.os, hg1.tape, hg1.output, hg1.size, hg1.block⟩
  generalize w1.drew = w2 at hs2 hg2 ⊢
  clear hg1 HS
  have h1 := hs2.c1
  have h2 := hs2.cw _ hq
  have h3 := hs2.cf _ hq
  have q1 : IntKind.i64.wrap ((k : Int) / 64) = (k : Int) / 64 := by rw [IntKind.wrap_i64]; omega
  have q2 : 0 ≤ (k : Int) / 64 := by omega
  have q3 : (k : Int) / 64 < ((n : Int) + 63) / 64 := by omega
  have q4 : ((k : Int) / 64).toNat = k / 64 := by omega
  repeat still_step
  still_call (bit_any k _ (by omega))
  repeat still_step
  refine wpStill_nil ?_
  have hwd := word_lt S (k / 64)
  have hpw := pow_lt (k % 64) (Nat.mod_lt _ (by decide))
  go_wp2
  go_ret
  refine ⟨rfl, grow_set hg2 _, hs2.store _ hq (del_bound hs2.bound) (fun j hj => word_del_other S k j hj) _ ?_⟩
  have e := u64_andNot_nat (word S (k / 64)) (2 ^ (k % 64)) hwd hpw
  rw [← word_del_same, Int.natCast_pow] at e
  exact e

set_option maxHeartbeats 1000000 in
theorem put_out (b g n : Nat) (k : Int) (S : Nat → Bool) (w : World) (h : SetAt w b g n S) (hk : k < 0 ∨ (n : Int) ≤ k) :
    Calls Tryd.prog 38 #[.pointer (some ⟨b, 0, none⟩), .int .i64 k] w fun e w' => e = .returned (.bool false) ∧ ∃ m, w' = w.drewN m := by
  have HF := Lib.hid (fits_out b n k w hk h.c0)
  clear hk h
  go_enter Tryd.func38, Tryd.ntmps38
  go_wp2_with fail
  refine (HF.out).mono ?_
  rintro e w' ⟨rfl, rfl⟩
  go_wp2
  go_ret
  exact ⟨rfl, 0, rfl⟩

set_option maxHeartbeats 1000000 in
theorem put_had (b g n k : Nat) (S : Nat → Bool) (w : World) (h : SetAt w b g n S) (hk : k < n) (hS : S k = true) :
    Calls Tryd.prog 38 #[.pointer (some ⟨b, 0, none⟩), .int .i64 k] w fun e w' => e = .returned (.bool false) ∧ ∃ m, w' = w.drewN m := by
  have HF := Lib.hid (fits_in b k n w hk h.c0)
  have hi := has_in b g n k S w h hk
  rw [hS] at hi
  have HI := Lib.hid hi
  clear hi h
  go_enter Tryd.func38, Tryd.ntmps38
  go_wp2_with fail
  refine (HF.out).mono ?_
  rintro e w' ⟨rfl, rfl⟩
  go_wp2_with fail
  refine HI.out.mono ?_
  rintro e w1 ⟨rfl, m, rfl⟩
  go_wp2
  go_ret
  exact ⟨rfl, m, rfl⟩

set_option maxHeartbeats 1000000 in
theorem drop_out (b g n : Nat) (k : Int) (S : Nat → Bool) (w : World) (h : SetAt w b g n S) (hk : k < 0 ∨ (n : Int) ≤ k) :
    Calls Tryd.prog 57 #[.pointer (some ⟨b, 0, none⟩), .int .i64 k] w fun e w' => e = .returned (.bool false) ∧ ∃ m, w' = w.drewN m := by
  have HI := Lib.hid (has_out b g n k S w h hk)
  clear hk h
  go_enter Tryd.func57, Tryd.ntmps57
  go_wp2_with fail
  refine HI.out.mono ?_
  rintro e w1 ⟨rfl, m, rfl⟩
  go_wp2
  go_ret
  exact ⟨rfl, m, rfl⟩

set_option maxHeartbeats 1000000 in
theorem drop_not (b g n k : Nat) (S : Nat → Bool) (w : World) (h : SetAt w b g n S) (hk : k < n) (hS : S k = false) :
    Calls Tryd.prog 57 #[.pointer (some ⟨b, 0, none⟩), .int .i64 k] w fun e w' => e = .returned (.bool false) ∧ ∃ m, w' = w.drewN m := by
  have hi := has_in b g n k S w h hk
  rw [hS] at hi
  have HI := Lib.hid hi
  clear hi h
  go_enter Tryd.func57, Tryd.ntmps57
  go_wp2_with fail
  refine HI.out.mono ?_
  rintro e w1 ⟨rfl, m, rfl⟩
  go_wp2
  go_ret
  exact ⟨rfl, m, rfl⟩


end Go.Proofs.YtkkodhjolgcokaaDoor
