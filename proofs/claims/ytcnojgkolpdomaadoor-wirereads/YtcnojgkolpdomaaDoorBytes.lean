/-
  Rows of bytes that a call owns or reads; one byte put behind a row of the call's own.
-/
import Derived.Test.YtcnojgkolpdomaaDoorWire0
import Derived.Test.YtcnojgkolpdomaaDoorFrame
import Derived.Test.YtcnojgkolpdomaaDoorAppSrc
import Derived.Deep.DeepCutAuto
import Derived.Deep.CutBlock
import Derived.Deep.Onto
namespace Go.Proofs.YtcnojgkolpdomaaDoor
open Go.RowKit Go.Lib
set_option maxRecDepth 100000

def bys (F : List Nat) : List Value := F.map fun (x : Nat) => Value.int .u8 (x : Int)
theorem bys_len (F : List Nat) : (bys F).length = F.length := by simp [bys]
theorem bys_snoc (F : List Nat) (k : Nat) : bys F ++ [Value.int .u8 (k : Int)] = bys (F ++ [k]) := by simp [bys]
theorem bys_add (F G : List Nat) : bys F ++ bys G = bys (F ++ G) := by simp [bys]
theorem bys_one (F : List Nat) : ∀ u ∈ bys F, u.oneCell' = true := by
  intro u hu
  simp only [bys, List.mem_map] at hu
  obtain ⟨i, _, rfl⟩ := hu
  rfl
theorem byte_info : ∃ i : TypeInfo, Tryd.prog.info? 5 = some i ∧ i.zero = some (.int .u8 0) ∧ i.size = 1 ∧ i.bytes = 1 := ⟨_, rfl, rfl, rfl, rfl⟩

/-- A row of bytes of the call's own, nil or not, from block B on. -/
def BRow (w : World) (B : Nat) (v : Value) (F : List Nat) : Prop := w.ownsRow B 5 1 v F.length (bys F)
theorem BRow.form {w : World} {B : Nat} {v : Value} {F : List Nat} (h : BRow w B v F) : (v = .slice none 0 0 ∧ F = []) ∨ ∃ r cp, v = .slice (some ⟨r, 0, none⟩) F.length cp ∧ B ≤ r ∧ r < w.heap.size ∧ F.length ≤ cp ∧ cp ≤ maxLen := by
  rcases h.2 with ⟨h0, hn⟩ | ⟨r, cp, cur, hv, hB, hc, hn, hm, _⟩
  · exact Or.inl ⟨h0, List.eq_nil_of_length_eq_zero hn⟩
  · exact Or.inr ⟨r, cp, hv, hB, (Array.getElem?_eq_some_iff.1 hc).1, hn, hm⟩
theorem BRow.own {w : World} {B : Nat} {v : Value} {F : List Nat} (h : BRow w B v F) (r : Nat) (hr : v.ownBlock = some r) : B ≤ r ∧ r < w.heap.size := by
  rcases h.form with ⟨rfl, _⟩ | ⟨r', cp, rfl, h1, h2, _⟩
  · exact absurd hr (by simp [Value.ownBlock])
  · simp [Value.ownBlock] at hr; subst hr; exact ⟨h1, h2⟩
theorem BRow.kept {w w' : World} {B : Nat} {v : Value} {F : List Nat} {row : Option Nat} (h : BRow w B v F) (hg : w.grownBy w' row) (hr : ∀ r, v.ownBlock = some r → some r ≠ row) : BRow w' B v F := by
  rcases h.form with ⟨rfl, rfl⟩ | ⟨r, cp, rfl, _, _, _⟩
  · exact ⟨rfl, Or.inl ⟨rfl, rfl⟩⟩
  · exact World.ownsRow.kept h hg (Or.inr (hr r rfl))
theorem BRow.grown {w w' : World} {B : Nat} {v : Value} {F : List Nat} (h : BRow w B v F) (hg : w.grownBy w' none) : BRow w' B v F := h.kept hg (fun _ _ => by simp)
theorem BRow.mono {w : World} {B B' : Nat} {v : Value} {F : List Nat} (h : BRow w B v F) (hB : B' ≤ B) : BRow w B' v F := World.ownsRow.mono h hB
theorem brow_nil (w : World) (B : Nat) : BRow w B (.slice none 0 0) [] := ⟨rfl, Or.inl ⟨rfl, rfl⟩⟩
theorem BRow.cell {w : World} {B r cp : Nat} {F : List Nat} (h : BRow w B (.slice (some ⟨r, 0, none⟩) F.length cp) F) (j : Nat) (hj : j < F.length) : w.cell? ⟨r, j, none⟩ = some (.int .u8 (F[j] : Nat)) := by
  rw [World.ownsRow.cellAt h j (by omega)]; simp [bys, hj]
/-- Where only a row of the call's own has turned, what was there ahead of the call has not. -/
theorem grow_own {W w w' : World} {B : Nat} {v : Value} {F : List Nat} (hg : W.grownBy w none) (h : BRow w B v F) (hB : W.heap.size ≤ B) (k : w.grownBy w' v.ownBlock) : W.grownBy w' none := by
  refine ⟨k.os.trans hg.os, k.tape.trans hg.tape, k.output.trans hg.output, Nat.le_trans hg.size k.size, fun i hi hn => ?_⟩
  rw [k.block i (Nat.lt_of_lt_of_le hi hg.size) (fun e => ?_)]
  · exact hg.block i hi hn
  · have := (h.own i e.symm).1
    omega

/-- A slice of bytes that can be read. -/
def ReadsB (w : World) (v : Value) (F : List Nat) : Prop :=
  ∃ a cap, v = .slice a F.length cap ∧ F.length ≤ cap ∧ cap ≤ maxLen ∧ isB F ∧ (0 < F.length → ∃ b o, a = some ⟨b, o, none⟩ ∧ b < w.heap.size ∧ ∀ j (h : j < F.length), w.cell? ⟨b, o + j, none⟩ = some (.int .u8 (F[j] : Nat)))
theorem ReadsB.kept {w w' : World} {v : Value} {F : List Nat} {row : Option Nat} (h : ReadsB w v F) (hg : w.grownBy w' row) (hr : ∀ r, v.ownBlock = some r → some r ≠ row) : ReadsB w' v F := by
  obtain ⟨a, cap, rfl, h1, h2, h3, h4⟩ := h
  refine ⟨a, cap, rfl, h1, h2, h3, fun h0 => ?_⟩
  obtain ⟨b, o, rfl, hb, hc⟩ := h4 h0
  exact ⟨b, o, rfl, Nat.lt_of_lt_of_le hb hg.size, fun j hj => (hg.cell_far ⟨b, o + j, none⟩ hb (hr b rfl)).trans (hc j hj)⟩
theorem ReadsB.grown {w w' : World} {v : Value} {F : List Nat} (h : ReadsB w v F) (hg : w.grownBy w' none) : ReadsB w' v F := h.kept hg (fun _ _ => by simp)
theorem BRow.reads {w : World} {B : Nat} {v : Value} {F : List Nat} (h : BRow w B v F) (hb : isB F) : ReadsB w v F := by
  rcases h.form with ⟨rfl, rfl⟩ | ⟨r, cp, rfl, h1, h2, h3, h4⟩
  · exact ⟨none, 0, rfl, by simp, by decide, hb, fun h0 => absurd h0 (by simp)⟩
  · exact ⟨_, cp, rfl, h3, h4, hb, fun _ => ⟨r, 0, rfl, h2, fun j hj => by simpa using h.cell j hj⟩⟩
theorem ReadsB.src {w : World} {v : Value} {F : List Nat} (h : ReadsB w v F) (hn : 0 < F.length) : SrcAt w 1 v F.length (bys F) := by
  obtain ⟨a, cap, rfl, h1, h2, h3, h4⟩ := h
  obtain ⟨b, o, rfl, hb, hc⟩ := h4 hn
  refine Or.inl ⟨_, cap, rfl, by simp [bys], fun j u hu => ?_, bys_one F⟩
  have hj : j < F.length := by rw [← bys_len F]; exact (List.getElem?_eq_some_iff.1 hu).1
  have e : (bys F)[j]? = some (.int .u8 (F[j] : Nat)) := by simp [bys, hj]
  rw [e] at hu
  have ea : (⟨b, o, none⟩ : Addr).add j = ⟨b, o + j, none⟩ := by unfold Addr.add; split <;> simp_all
  rw [ea, hc j hj, ← hu]

theorem make_bytes (a c : Nat) (hac : a ≤ c) (hc : c ≤ 1000000) (w : World) :
    (Instr.makeSlice 38 (.int .i64 (a : Int)) (.int .i64 (c : Int))).run Tryd.prog w =
      .ok (.slice (some ⟨w.heap.size, 0, none⟩) a c) (w.alloc (.cells (madeCells #[.int .u8 0] c) 5)) := by
  obtain ⟨i, hi, hz⟩ : ∃ i : TypeInfo, Tryd.prog.info? 5 = some i ∧ i.zero = some (.int .u8 0) ∧ i.bytes = 1 ∧ i.size = 1 := ⟨_, rfl, rfl, rfl, rfl⟩
  have h := run_make (P := Tryd.prog) w 38 5 i _ Tryd.underlying38 hi hz.1 .i64 .i64 (a : Int) (c : Int) (by omega) (by omega) (by rw [hz.2.1]; omega) (by omega)
  rw [hz.2.2, Nat.mul_one, Int.toNat_natCast, Int.toNat_natCast] at h
  exact h
theorem make_brow (w : World) (B c : Nat) (hB : B ≤ w.heap.size) (hc : c ≤ 1000000) : BRow (w.alloc (.cells (madeCells #[.int .u8 0] c) 5)) B (.slice (some ⟨w.heap.size, 0, none⟩) 0 c) [] :=
  World.ownsRow_made w _ c hB (by unfold maxLen; omega) (by simp [madeCells])
theorem lit_brow (w : World) (B : Nat) (hB : B ≤ w.heap.size) : BRow (w.alloc (.cells #[] 5)) B (.slice (some ⟨w.heap.size, 0, none⟩) 0 0) [] :=
  World.ownsRow_made w #[] 0 hB (by decide) rfl

end Go.Proofs.YtcnojgkolpdomaaDoor
