/-
  Contracts of nightjarref05, over this seat's translation: how its table lies in memory; New, Bits, with.
-/
import Derived.Test.YtbkjdbimkofceaaDoorCapsR
import Derived.Test.YtbkjdbimkofceaaDoorAppSrc
import Derived.Deep.RegionHeld3
namespace Go.Proofs.YtbkjdbimkofceaaDoor
open Go.RowKit Go.Lib
set_option maxRecDepth 100000

/-- A place of the document's table: five cells. -/
def P5 (w : World) (r o : Nat) (p : Pl) : Prop := w.cell? ⟨r, o, none⟩ = some (.int .i64 (p.gen : Nat)) ∧ w.cell? ⟨r, o + 1, none⟩ = some (.bool p.out) ∧ w.cell? ⟨r, o + 2, none⟩ = some (.int .i64 p.k) ∧ w.cell? ⟨r, o + 3, none⟩ = some (.int .i64 p.i) ∧ w.cell? ⟨r, o + 4, none⟩ = some (.int .i64 (p.r : Nat))
/-- The places of the document's table, in block r. -/
structure PlAt5 (w : World) (r n : Nat) (T : Nat → Pl) : Prop where
  lt : r < w.heap.size
  pl : ∀ j, j < n → P5 w r (j * 5) (T j)
theorem P5.of {w w' : World} {r o : Nat} {p : Pl} (h : P5 w r o p) (k : ∀ j, w'.cell? ⟨r, j, none⟩ = w.cell? ⟨r, j, none⟩) : P5 w' r o p :=
  ⟨(k _).trans h.1, (k _).trans h.2.1, (k _).trans h.2.2.1, (k _).trans h.2.2.2.1, (k _).trans h.2.2.2.2⟩
theorem PlAt5.kept {w w' : World} {r n : Nat} {T : Nat → Pl} (h : PlAt5 w r n T) (k : w.grownBy w' none) : PlAt5 w' r n T :=
  ⟨Nat.lt_of_lt_of_le h.lt k.size, fun j hj => (h.pl j hj).of fun i => k.cell_far ⟨r, i, none⟩ h.lt (by simp)⟩
theorem PlAt5.only {w w' : World} {r n lo hi : Nat} {T : Nat → Pl} (h : PlAt5 w r n T) (k : Only lo hi w w') (hd : r < lo ∨ hi ≤ r) : PlAt5 w' r n T :=
  ⟨Nat.lt_of_lt_of_le h.lt k.size, fun j hj => (h.pl j hj).of fun i => k.cell ⟨r, i, none⟩ h.lt hd⟩

/-- A place as its cells. -/
def Pl.cells (p : Pl) : List Value := [.int .i64 (p.gen : Nat), .bool p.out, .int .i64 p.k, .int .i64 p.i, .int .i64 (p.r : Nat)]
def pcells (T : Nat → Pl) (n : Nat) : List Value := (List.range n).flatMap fun j => (T j).cells
theorem pcells_succ (T : Nat → Pl) (n : Nat) : pcells T (n + 1) = pcells T n ++ (T n).cells := by simp [pcells, List.range_succ]
theorem pcells_len (T : Nat → Pl) : ∀ n, (pcells T n).length = n * 5
  | 0 => rfl
  | n + 1 => by rw [pcells_succ, List.length_append, pcells_len T n]; simp [Pl.cells]; omega
theorem pcells_at (T : Nat → Pl) (j i : Nat) (hi : i < 5) : ∀ n, j < n → (pcells T n)[j * 5 + i]? = (T j).cells[i]?
  | n + 1, h => by
    rw [pcells_succ]
    by_cases e : j = n
    · subst e
      rw [List.getElem?_append_right (by rw [pcells_len]; omega), pcells_len]
      congr 1
      omega
    · rw [List.getElem?_append_left (by rw [pcells_len]; omega)]
      exact pcells_at T j i hi n (by omega)
theorem P5.at {w : World} {r o : Nat} {p : Pl} (h : P5 w r o p) (i : Nat) (hi : i < 5) : w.cell? ⟨r, o + i, none⟩ = p.cells[i]? := by
  match i, hi with
  | 0, _ => exact h.1
  | 1, _ => exact h.2.1
  | 2, _ => exact h.2.2.1
  | 3, _ => exact h.2.2.2.1
  | 4, _ => exact h.2.2.2.2
theorem P5.of_at {w : World} {r o : Nat} {p : Pl} (h : ∀ i, i < 5 → w.cell? ⟨r, o + i, none⟩ = p.cells[i]?) : P5 w r o p :=
  ⟨h 0 (by decide), h 1 (by decide), h 2 (by decide), h 3 (by decide), h 4 (by decide)⟩
theorem add5 (b j : Nat) : (⟨b, 0, none⟩ : Addr).add j = ⟨b, j, none⟩ := by unfold Addr.add; split <;> simp_all
theorem PlAt5.src {w : World} {r n cp : Nat} {T : Nat → Pl} (h : PlAt5 w r n T) : SrcAt w 5 (.slice (some ⟨r, 0, none⟩) n cp) n (pcells T n) := by
  refine Or.inl ⟨_, cp, rfl, pcells_len T n, fun j u hu => ?_, fun u hu => ?_⟩
  · have hj : j < n * 5 := by rw [← pcells_len T n]; exact (List.getElem?_eq_some_iff.1 hu).1
    have e : j = j / 5 * 5 + j % 5 := by omega
    rw [add5, ← hu, e, pcells_at T (j / 5) (j % 5) (by omega) n (by omega)]
    exact (h.pl (j / 5) (by omega)).at (j % 5) (by omega)
  · simp only [pcells, List.mem_flatMap, Pl.cells] at hu
    obtain ⟨i, _, hu⟩ := hu
    simp at hu
    rcases hu with rfl | rfl | rfl | rfl | rfl <;> rfl
theorem place_info : ∃ i : TypeInfo, Tryd.prog.info? 76 = some i ∧ i.zero = some (.agg #[.int .i64 0, .bool false, .int .i64 0, .int .i64 0, .int .i64 0]) ∧ i.size = 5 ∧ i.bytes = 40 := ⟨_, rfl, rfl, rfl, rfl⟩

theorem rbits5 (p g r : Nat) (w : World) (hp : p < 65536) (hg : g < 1099511627776) (hr : r < 256) :
    Calls Tryd.prog 29 #[.int .i64 p, .int .i64 g, .int .i64 r] w fun e w' => e = .returned (.int .u64 (hbits p g r : Nat)) ∧ w = w' := by
  go_enter Tryd.func29, Tryd.ntmps29
  go_wp2
  go_ret
  exact ⟨ret_int (by unfold hbits; simp), rfl⟩

theorem make_places (c : Nat) (hc : c ≤ 1000) (w : World) :
    (Instr.makeSlice 27 (.int .i64 (c : Int)) (.int .i64 (c : Int))).run Tryd.prog w =
      .ok (.slice (some ⟨w.heap.size, 0, none⟩) c c) (w.alloc (.cells (madeCells #[.int .i64 0, .bool false, .int .i64 0, .int .i64 0, .int .i64 0] (c * 5)) 76)) := by
  obtain ⟨i, hi, hz, hs, hb⟩ := place_info
  have h := run_make (P := Tryd.prog) w 27 76 i _ Tryd.underlying27 hi hz .i64 .i64 (c : Int) (c : Int) (by omega) (by omega) (by rw [hb]; omega) (by omega)
  rw [hs, Int.toNat_natCast] at h
  exact h
theorem made5 (c j i : Nat) (hj : j < c) (hi : i < 5) : (madeCells #[.int .i64 0, .bool false, .int .i64 0, .int .i64 0, .int .i64 0] (c * 5))[j * 5 + i]? = Pl.fresh.cells[i]? := by
  have e : (j * 5 + i) % 5 = i := by omega
  have h2 : j * 5 + i < c * 5 := by omega
  generalize j * 5 + i = q at *
  subst e
  have key : (madeCells #[.int .i64 0, .bool false, .int .i64 0, .int .i64 0, .int .i64 0] (c * 5))[q]? = #[Value.int .i64 0, .bool false, .int .i64 0, .int .i64 0, .int .i64 0][q % 5]? := by
    simp [madeCells, h2]
    rw [List.getElem?_eq_getElem (show q % 5 < 5 by omega)]
    rfl
  rw [key]
  match q % 5, hi with
  | 0, _ => rfl
  | 1, _ => rfl
  | 2, _ => rfl
  | 3, _ => rfl
  | 4, _ => rfl

set_option maxHeartbeats 1000000 in
theorem rnew5 (room : Nat) (gens : Int) (w : World) (hr : room ≤ 15) :
    Calls Tryd.prog 8 #[.int .i64 room, .int .i64 gens] w fun e w' => ∃ r, e = .returned (.agg #[.slice (some ⟨r, 0, none⟩) room room, .int .i64 (gensOf gens : Nat)]) ∧ w.grownBy w' none ∧ w.heap.size ≤ r ∧ PlAt5 w' r room (fun _ => Pl.fresh) := by
  have hmk := fun W => make_places room (by omega) W
  have FIN : ∀ g : Int, g = (gensOf gens : Nat) → w.grownBy ((w.alloc (.cells #[.slice (some ⟨w.heap.size + 1, 0, none⟩) room room, .int .i64 g] 29)).alloc (.cells (madeCells #[.int .i64 0, .bool false, .int .i64 0, .int .i64 0, .int .i64 0] (room * 5)) 76)) none ∧ PlAt5 ((w.alloc (.cells #[.slice (some ⟨w.heap.size + 1, 0, none⟩) room room, .int .i64 g] 29)).alloc (.cells (madeCells #[.int .i64 0, .bool false, .int .i64 0, .int .i64 0, .int .i64 0] (room * 5)) 76)) (w.heap.size + 1) room (fun _ => Pl.fresh) := fun g _ => by
    have k1 := World.grownBy_alloc w (.cells #[.slice (some ⟨w.heap.size + 1, 0, none⟩) room room, .int .i64 g] 29) none
    have k2 := World.grownBy_alloc (w.alloc (.cells #[.slice (some ⟨w.heap.size + 1, 0, none⟩) room room, .int .i64 g] 29)) (.cells (madeCells #[.int .i64 0, .bool false, .int .i64 0, .int .i64 0, .int .i64 0] (room * 5)) 76) none
    refine ⟨k1.trans k2, by simp, fun j hj => P5.of_at fun i hi => ?_⟩
    have := World.cell?_alloc_new (w.alloc (.cells #[.slice (some ⟨w.heap.size + 1, 0, none⟩) room room, .int .i64 g] 29)) (madeCells #[.int .i64 0, .bool false, .int .i64 0, .int .i64 0, .int .i64 0] (room * 5)) 76 (j * 5 + i)
    rw [World.size_alloc] at this
    rw [this]
    exact made5 room j i hj hi
  have HF := Lib.hid FIN
  clear FIN
  by_cases h1 : gens < 1
  · have hg : (1 : Int) = (gensOf gens : Nat) := by unfold gensOf; omega
    obtain ⟨a, b⟩ := HF.out 1 hg
    have HA := Lib.hid a
    have HB := Lib.hid b
    have HG := Lib.hid hg
    clear a b hg
    go_enter Tryd.func8, Tryd.ntmps8
    go_wp2
    exact bodyPost_ret (v := .agg #[.slice (some ⟨w.heap.size + 1, 0, none⟩) room room, .int .i64 1]) (by simp [results, Tryd.results8, go_sem]) rfl ⟨_, by rw [← HG.out], HA.out, by omega, HB.out⟩
  · by_cases h2 : 16777215 < gens
    · have hg : (16777215 : Int) = (gensOf gens : Nat) := by unfold gensOf; omega
      obtain ⟨a, b⟩ := HF.out 16777215 hg
      have HA := Lib.hid a
      have HB := Lib.hid b
      have HG := Lib.hid hg
      clear a b hg
      go_enter Tryd.func8, Tryd.ntmps8
      go_wp2
      exact bodyPost_ret (v := .agg #[.slice (some ⟨w.heap.size + 1, 0, none⟩) room room, .int .i64 16777215]) (by simp [results, Tryd.results8, go_sem]) rfl ⟨_, by rw [← HG.out], HA.out, by omega, HB.out⟩
    · have hg : gens = (gensOf gens : Nat) := by unfold gensOf; omega
      obtain ⟨a, b⟩ := HF.out gens hg
      have HA := Lib.hid a
      have HB := Lib.hid b
      have HG := Lib.hid hg
      clear a b hg
      go_enter Tryd.func8, Tryd.ntmps8
      go_wp2
      exact bodyPost_ret (v := .agg #[.slice (some ⟨w.heap.size + 1, 0, none⟩) room room, .int .i64 gens]) (by simp [results, Tryd.results8, go_sem]) rfl ⟨_, by rw [← HG.out], HA.out, by omega, HB.out⟩
end Go.Proofs.YtbkjdbimkofceaaDoor
