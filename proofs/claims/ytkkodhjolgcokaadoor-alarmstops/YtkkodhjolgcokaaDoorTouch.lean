/-
  What a call in a region may have turned: the words of its set, and its own places; all else is as it was. (No condition.)
-/
import Derived.Test.YtkkodhjolgcokaaDoorFrame
import Derived.Test.YtkkodhjolgcokaaDoorBit3
namespace Go.Proofs.YtkkodhjolgcokaaDoor
open Go.RowKit Go.Lib

theorem Only.cell' {lo hi : Nat} {a b : World} (h : Only lo hi a b) (k j : Nat) (hp : k < a.heap.size) (hr : k < lo ∨ hi ≤ k) : b.cell? ⟨k, j, none⟩ = a.cell? ⟨k, j, none⟩ := h.cell ⟨k, j, none⟩ hp hr
theorem Only.frozen' {lo hi : Nat} {a b : World} (h : Only lo hi a b) (k j : Nat) (hp : k < a.heap.size) (hr : k < lo ∨ hi ≤ k) : b.frozen? ⟨k, j, none⟩ = a.frozen? ⟨k, j, none⟩ := h.frozen ⟨k, j, none⟩ hp hr

/-- From w to w' nothing has turned but block g and the cells of block pb from po on, below po + n. -/
structure Touch (g pb po n : Nat) (w w' : World) : Prop where
  os : w'.os = w.os
  tape : w'.tape = w.tape
  output : w'.output = w.output
  size : w.heap.size ≤ w'.heap.size
  block : ∀ k, k < w.heap.size → k ≠ g → k ≠ pb → w'.heap[k]? = w.heap[k]?
  cell : ∀ j, (j < po ∨ po + n ≤ j) → w'.cell? ⟨pb, j, none⟩ = w.cell? ⟨pb, j, none⟩
  frz : ∀ j, w'.frozen? ⟨pb, j, none⟩ = w.frozen? ⟨pb, j, none⟩
theorem Touch.of_grown {g pb po n : Nat} {w w' : World} (h : w.grownBy w' (some g)) (hp : pb < w.heap.size) (hne : pb ≠ g) : Touch g pb po n w w' :=
  ⟨h.os, h.tape, h.output, h.size, fun k hk h1 _ => h.block k hk (by intro e; cases e; exact h1 rfl), fun j _ => h.cell_far ⟨pb, j, none⟩ hp (by intro e; cases e; exact hne rfl), fun j => h.frozen_far ⟨pb, j, none⟩ hp (by intro e; cases e; exact hne rfl)⟩
theorem Touch.of_none {g pb po n : Nat} {w w' : World} (h : w.grownBy w' none) (hp : pb < w.heap.size) : Touch g pb po n w w' :=
  ⟨h.os, h.tape, h.output, h.size, fun k hk _ _ => h.block k hk (by simp), fun j _ => h.cell_far ⟨pb, j, none⟩ hp (by simp), fun j => h.frozen_far ⟨pb, j, none⟩ hp (by simp)⟩
theorem Touch.trans {g pb po n : Nat} {a b c : World} (h : Touch g pb po n a b) (k : Touch g pb po n b c) : Touch g pb po n a c :=
  ⟨k.os.trans h.os, k.tape.trans h.tape, k.output.trans h.output, Nat.le_trans h.size k.size, fun i hi h1 h2 => (k.block i (Nat.lt_of_lt_of_le hi h.size) h1 h2).trans (h.block i hi h1 h2), fun j hj => (k.cell j hj).trans (h.cell j hj), fun j => (k.frz j).trans (h.frz j)⟩
theorem size_set (w : World) (a : Addr) (v : Value) : (w.setCell a v).heap.size = w.heap.size := by simp [World.setCell]
theorem Touch.set {g pb po n : Nat} (w : World) (j : Nat) (v : Value) (h1 : po ≤ j) (h2 : j < po + n) : Touch g pb po n w (w.setCell ⟨pb, j, none⟩ v) :=
  ⟨rfl, rfl, rfl, by rw [size_set]; exact Nat.le_refl _, fun k _ _ hk => Below.heap_setCell w ⟨pb, j, none⟩ v k hk, fun i hi => World.cell?_setCell_other _ _ _ _ (by intro e; cases e; omega), fun i => World.frozen?_setCell ..⟩
theorem Touch.only {g pb po n lo hi : Nat} {w w' : World} (h : Touch g pb po n w w') (h1 : lo ≤ g ∧ g < hi) (h2 : lo ≤ pb ∧ pb < hi) : Only lo hi w w' :=
  ⟨h.os, h.tape, h.output, h.size, fun k hk hr => h.block k hk (by omega) (by omega)⟩
theorem Touch.far {g pb po n : Nat} {w w' : World} (h : Touch g pb po n w w') (k j : Nat) (hk : k < w.heap.size) (h1 : k ≠ g) (h2 : k ≠ pb) : w'.cell? ⟨k, j, none⟩ = w.cell? ⟨k, j, none⟩ :=
  World.cell?_of_block (a := ⟨k, j, none⟩) (h.block k hk h1 h2)
theorem Touch.farF {g pb po n : Nat} {w w' : World} (h : Touch g pb po n w w') (k j : Nat) (hk : k < w.heap.size) (h1 : k ≠ g) (h2 : k ≠ pb) : w'.frozen? ⟨k, j, none⟩ = w.frozen? ⟨k, j, none⟩ :=
  World.frozen?_of_block (a := ⟨k, j, none⟩) (h.block k hk h1 h2)
theorem SetAt.touch {w w' : World} {b g0 n0 g pb po n : Nat} {S : Nat → Bool} (h : SetAt w b g0 n0 S) (k : Touch g pb po n w w') (h1 : b ≠ g ∧ b ≠ pb) (h2 : g0 ≠ g ∧ g0 ≠ pb) : SetAt w' b g0 n0 S :=
  ⟨h.size, h.bound, (k.far b 0 h.hb h1.1 h1.2).trans h.c0, (k.far b 1 h.hb h1.1 h1.2).trans h.c1, fun j hj => (k.far g0 j h.hg h2.1 h2.2).trans (h.cw j hj),
    fun j hj => (k.farF g0 j h.hg h2.1 h2.2).trans (h.cf j hj), h.bg, Nat.lt_of_lt_of_le h.hb k.size, Nat.lt_of_lt_of_le h.hg k.size⟩
theorem SetAt.only {w w' : World} {b g n lo hi : Nat} {S : Nat → Bool} (h : SetAt w b g n S) (k : Only lo hi w w') (h1 : b < lo ∨ hi ≤ b) (h2 : g < lo ∨ hi ≤ g) : SetAt w' b g n S :=
  ⟨h.size, h.bound, (k.cell' b 0 h.hb h1).trans h.c0, (k.cell' b 1 h.hb h1).trans h.c1, fun j hj => (k.cell' g j h.hg h2).trans (h.cw j hj),
    fun j hj => (k.frozen' g j h.hg h2).trans (h.cf j hj), h.bg, Nat.lt_of_lt_of_le h.hb k.size, Nat.lt_of_lt_of_le h.hg k.size⟩

/-- A value at one place otherwise. -/
def upV {α : Type} (f : Nat → α) (k : Nat) (v : α) : Nat → α := fun i => if i = k then v else f i
theorem upV_same {α : Type} (f : Nat → α) (k : Nat) (v : α) : upV f k v k = v := by simp [upV]
theorem upV_other {α : Type} (f : Nat → α) (k : Nat) (v : α) (i : Nat) (h : i ≠ k) : upV f k v i = f i := by simp [upV, h]

/-! The set's calls as the regions have them. -/
theorem has_g (b g n : Nat) (k : Int) (S : Nat → Bool) (w : World) (h : SetAt w b g n S) (v : Bool) (hv : (0 ≤ k ∧ k < n ∧ S k.toNat = v) ∨ ((k < 0 ∨ (n : Int) ≤ k) ∧ v = false)) :
    Calls Tryd.prog 39 #[.pointer (some ⟨b, 0, none⟩), .int .i64 k] w fun e w' => e = .returned (.bool v) ∧ w.grownBy w' none := by
  rcases hv with ⟨h0, h1, h2⟩ | ⟨h1, rfl⟩
  · obtain ⟨k, rfl⟩ := Int.eq_ofNat_of_zero_le h0
    refine (has_in b g n k S w h (by omega)).mono fun e w' ⟨he, m, hm⟩ => ?_
    subst hm
    exact ⟨by rw [he]; simpa using h2, grow_draw w _ m⟩
  · refine (has_out b g n k S w h h1).mono fun e w' ⟨he, m, hm⟩ => ?_
    subst hm
    exact ⟨he, grow_draw w _ m⟩
theorem drop_none (b g n : Nat) (k : Int) (S : Nat → Bool) (w : World) (h : SetAt w b g n S) (hv : k < 0 ∨ (n : Int) ≤ k ∨ S k.toNat = false) :
    Calls Tryd.prog 57 #[.pointer (some ⟨b, 0, none⟩), .int .i64 k] w fun e w' => e = .returned (.bool false) ∧ w.grownBy w' none := by
  by_cases h2 : k < 0 ∨ (n : Int) ≤ k
  · refine (drop_out b g n k S w h h2).mono fun e w' ⟨he, m, hm⟩ => ?_
    subst hm
    exact ⟨he, grow_draw w _ m⟩
  · obtain ⟨k, rfl⟩ := Int.eq_ofNat_of_zero_le (show 0 ≤ k by omega)
    have h3 : S k = false := by
      rcases hv with h | h | h
      · omega
      · omega
      · simpa using h
    refine (drop_not b g n k S w h (by omega) h3).mono fun e w' ⟨he, m, hm⟩ => ?_
    subst hm
    exact ⟨he, grow_draw w _ m⟩

end Go.Proofs.YtkkodhjolgcokaaDoor
