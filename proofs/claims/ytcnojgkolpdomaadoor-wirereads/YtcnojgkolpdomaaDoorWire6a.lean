/-
  Rows of entries that a call owns or reads.
-/
import Derived.Test.YtcnojgkolpdomaaDoorWire1
namespace Go.Proofs.YtcnojgkolpdomaaDoor
open Go.RowKit Go.Lib
set_option maxRecDepth 100000
set_option linter.unusedVariables false

theorem add_off (b o j : Nat) : (⟨b, o, none⟩ : Addr).add j = ⟨b, o + j, none⟩ := by unfold Addr.add; split <;> simp_all
def ens (L : List En) : List Value := L.flatMap En.cells
theorem cells9 (e : En) : e.cells.length = 9 := rfl
theorem ens_snoc (L : List En) (e : En) : ens (L ++ [e]) = ens L ++ e.cells := by simp [ens]
theorem ens_add (L M : List En) : ens (L ++ M) = ens L ++ ens M := by simp [ens]
theorem ens_len : ∀ L : List En, (ens L).length = L.length * 9
  | [] => rfl
  | e :: L => by
    have := ens_len L
    simp only [ens, List.flatMap_cons, List.length_append, cells9, List.length_cons] at this ⊢
    omega
theorem ens_at : ∀ (L : List En) (j i : Nat) (hj : j < L.length) (hi : i < 9), (ens L)[j * 9 + i]? = (L[j]).cells[i]?
  | e :: L, 0, i, hj, hi => by
    simp only [ens, List.flatMap_cons, List.getElem_cons_zero, Nat.zero_mul, Nat.zero_add]
    exact List.getElem?_append_left (by rw [cells9]; exact hi)
  | e :: L, j + 1, i, hj, hi => by
    have hj' : j < L.length := by simpa using hj
    have := ens_at L j i hj' hi
    simp only [ens, List.flatMap_cons, List.getElem_cons_succ] at this ⊢
    rw [List.getElem?_append_right (by rw [cells9]; omega), cells9, ← this]
    congr 1
    omega
theorem ens_one (L : List En) : ∀ u ∈ ens L, u.oneCell' = true := by
  intro u hu
  simp only [ens, List.mem_flatMap, En.cells] at hu
  obtain ⟨e, _, hu⟩ := hu
  simp at hu
  rcases hu with rfl | rfl | rfl | rfl | rfl | rfl | rfl | rfl | rfl <;> rfl
theorem entry_info : ∃ i : TypeInfo, Tryd.prog.info? 55 = some i ∧ i.zero = some zE.val ∧ i.size = 9 ∧ i.bytes = 72 := ⟨_, rfl, rfl, rfl, rfl⟩

/-- A row of entries of the call's own, nil or not, from block B on. -/
def ERow (w : World) (B : Nat) (v : Value) (L : List En) : Prop := w.ownsRow B 55 9 v L.length (ens L)
theorem ERow.form {w : World} {B : Nat} {v : Value} {L : List En} (h : ERow w B v L) : (v = .slice none 0 0 ∧ L = []) ∨ ∃ r cp, v = .slice (some ⟨r, 0, none⟩) L.length cp ∧ B ≤ r ∧ r < w.heap.size ∧ L.length ≤ cp ∧ cp ≤ maxLen := by
  rcases h.2 with ⟨h0, hn⟩ | ⟨r, cp, cur, hv, hB, hc, hn, hm, _⟩
  · exact Or.inl ⟨h0, List.eq_nil_of_length_eq_zero hn⟩
  · exact Or.inr ⟨r, cp, hv, hB, (Array.getElem?_eq_some_iff.1 hc).1, hn, hm⟩
theorem ERow.own {w : World} {B : Nat} {v : Value} {L : List En} (h : ERow w B v L) (r : Nat) (hr : v.ownBlock = some r) : B ≤ r ∧ r < w.heap.size := by
  rcases h.form with ⟨rfl, _⟩ | ⟨r', cp, rfl, h1, h2, _⟩
  · exact absurd hr (by simp [Value.ownBlock])
  · simp [Value.ownBlock] at hr; subst hr; exact ⟨h1, h2⟩
theorem ERow.kept {w w' : World} {B : Nat} {v : Value} {L : List En} {row : Option Nat} (h : ERow w B v L) (hg : w.grownBy w' row) (hr : ∀ r, v.ownBlock = some r → some r ≠ row) : ERow w' B v L := by
  rcases h.form with ⟨rfl, rfl⟩ | ⟨r, cp, rfl, _, _, _⟩
  · exact ⟨rfl, Or.inl ⟨rfl, rfl⟩⟩
  · exact World.ownsRow.kept h hg (Or.inr (hr r rfl))
theorem ERow.grown {w w' : World} {B : Nat} {v : Value} {L : List En} (h : ERow w B v L) (hg : w.grownBy w' none) : ERow w' B v L := h.kept hg (fun _ _ => by simp)
theorem ERow.mono {w : World} {B B' : Nat} {v : Value} {L : List En} (h : ERow w B v L) (hB : B' ≤ B) : ERow w B' v L := World.ownsRow.mono h hB
theorem erow_nil (w : World) (B : Nat) : ERow w B (.slice none 0 0) [] := ⟨rfl, Or.inl ⟨rfl, rfl⟩⟩
theorem ERow.cell {w : World} {B r cp : Nat} {L : List En} (h : ERow w B (.slice (some ⟨r, 0, none⟩) L.length cp) L) (j i : Nat) (hj : j < L.length) (hi : i < 9) : w.cell? ⟨r, j * 9 + i, none⟩ = (L[j]).cells[i]? := by
  rw [World.ownsRow.cellAt h (j * 9 + i) (by omega)]
  exact ens_at L j i hj hi
theorem grow_ownE {W w w' : World} {B : Nat} {v : Value} {L : List En} (hg : W.grownBy w none) (h : ERow w B v L) (hB : W.heap.size ≤ B) (k : w.grownBy w' v.ownBlock) : W.grownBy w' none := by
  refine ⟨k.os.trans hg.os, k.tape.trans hg.tape, k.output.trans hg.output, Nat.le_trans hg.size k.size, fun i hi hn => ?_⟩
  rw [k.block i (Nat.lt_of_lt_of_le hi hg.size) (fun e => ?_)]
  · exact hg.block i hi hn
  · have := (h.own i e.symm).1
    omega

/-- A slice of entries that can be read. -/
def ReadsE (w : World) (v : Value) (L : List En) : Prop :=
  ∃ a cap, v = .slice a L.length cap ∧ L.length ≤ cap ∧ cap ≤ maxLen ∧ (∀ e ∈ L, smC e.call) ∧ (0 < L.length → ∃ b o, a = some ⟨b, o, none⟩ ∧ b < w.heap.size ∧ ∀ j (h : j < L.length), ∀ i, i < 9 → w.cell? ⟨b, o + j * 9 + i, none⟩ = (L[j]).cells[i]?)
theorem ReadsE.kept {w w' : World} {v : Value} {L : List En} {row : Option Nat} (h : ReadsE w v L) (hg : w.grownBy w' row) (hr : ∀ r, v.ownBlock = some r → some r ≠ row) : ReadsE w' v L := by
  obtain ⟨a, cap, rfl, h1, h2, h3, h4⟩ := h
  refine ⟨a, cap, rfl, h1, h2, h3, fun h0 => ?_⟩
  obtain ⟨b, o, rfl, hb, hc⟩ := h4 h0
  exact ⟨b, o, rfl, Nat.lt_of_lt_of_le hb hg.size, fun j hj i hi => (hg.cell_far ⟨b, o + j * 9 + i, none⟩ hb (hr b rfl)).trans (hc j hj i hi)⟩
theorem ReadsE.grown {w w' : World} {v : Value} {L : List En} (h : ReadsE w v L) (hg : w.grownBy w' none) : ReadsE w' v L := h.kept hg (fun _ _ => by simp)
theorem ERow.reads {w : World} {B : Nat} {v : Value} {L : List En} (h : ERow w B v L) (hb : ∀ e ∈ L, smC e.call) : ReadsE w v L := by
  rcases h.form with ⟨rfl, rfl⟩ | ⟨r, cp, rfl, h1, h2, h3, h4⟩
  · exact ⟨none, 0, rfl, by simp, by decide, hb, fun h0 => absurd h0 (by simp)⟩
  · exact ⟨_, cp, rfl, h3, h4, hb, fun _ => ⟨r, 0, rfl, h2, fun j hj i hi => by rw [Nat.zero_add]; exact h.cell j i hj hi⟩⟩
theorem ReadsE.src {w : World} {v : Value} {L : List En} (h : ReadsE w v L) (hn : 0 < L.length) : SrcAt w 9 v L.length (ens L) := by
  obtain ⟨a, cap, rfl, h1, h2, h3, h4⟩ := h
  obtain ⟨b, o, rfl, hb, hc⟩ := h4 hn
  refine Or.inl ⟨_, cap, rfl, ens_len L, fun j u hu => ?_, ens_one L⟩
  have hj : j < L.length * 9 := by rw [← ens_len L]; exact (List.getElem?_eq_some_iff.1 hu).1
  have e : j = j / 9 * 9 + j % 9 := by omega
  have ea : (⟨b, o, none⟩ : Addr).add j = ⟨b, o + j / 9 * 9 + j % 9, none⟩ := by
    rw [add_off, Nat.add_assoc, ← e]
  rw [ea, hc (j / 9) (by omega) (j % 9) (by omega), ← ens_at L (j / 9) (j % 9) (by omega) (by omega), ← e]
  exact hu
theorem entry_put {w w5 : World} {B : Nat} {V v' : Value} {L : List En} {e : En} {o : Obj} (hown' : w5.ownsRow B 55 9 v' (L.length + 1) (ens L ++ e.cells))
    (hg : (w.alloc o).grownBy w5 V.ownBlock) (hat : v'.ownBlock = V.ownBlock ∨ v'.ownBlock = some (w.alloc o).heap.size) : ERow w5 B v' (L ++ [e]) ∧ w.grownBy w5 V.ownBlock ∧ (v'.ownBlock = V.ownBlock ∨ ∃ r, v'.ownBlock = some r ∧ w.heap.size ≤ r) := by
  refine ⟨?_, (World.grownBy_alloc w o V.ownBlock).trans hg, ?_⟩
  · rw [← ens_snoc] at hown'
    unfold ERow
    rw [List.length_append]
    exact hown'
  · rcases hat with h | h
    · exact Or.inl h
    · exact Or.inr ⟨_, h, by simp⟩
theorem cell_nine_at (w : World) (e : En) (t : TypeId) (b : Nat) (hb : b = w.heap.size) : ∀ j u, e.cells[j]? = some u → (w.alloc (.cells e.cells.toArray t)).cell? ((⟨b, 0, none⟩ : Addr).add j) = some u := by
  subst hb
  intro j u hj
  have ea : (⟨w.heap.size, 0, none⟩ : Addr).add j = ⟨w.heap.size, j, none⟩ := by
    rw [add_off, Nat.zero_add]
  rw [ea, World.cell?_alloc_new]
  simpa using hj
end Go.Proofs.YtcnojgkolpdomaaDoor
