/-
  What a call may have turned: only blocks of one range of numbers; all else is as it was. (Own frame relation; no condition.)
-/
import Derived.Test.YtkkodhjolgcokaaDoorRows
import Derived.WalkKit
import Derived.WalkSpells
import Derived.Lib.Hide
import Derived.Deep.OwnRows
import Derived.Deep.Draws
import Derived.Deep.AppendLies
import Derived.StillTailTactics
import Derived.Laws.BitsAllLaws
import Derived.Deep.QuietTactic
import Derived.BigQuiet
import Derived.Maps.Range
import Derived.Maps.RangeWalk
namespace Go.Proofs.YtkkodhjolgcokaaDoor
open Go.RowKit Go.Lib

/-- From w to w' nothing that was there has turned but blocks of the range from lo on, below hi. -/
structure Only (lo hi : Nat) (w w' : World) : Prop where
  os : w'.os = w.os
  tape : w'.tape = w.tape
  output : w'.output = w.output
  size : w.heap.size ≤ w'.heap.size
  block : ∀ k, k < w.heap.size → (k < lo ∨ hi ≤ k) → w'.heap[k]? = w.heap[k]?

theorem Only.refl (lo hi : Nat) (w : World) : Only lo hi w w := ⟨rfl, rfl, rfl, Nat.le_refl _, fun _ _ _ => rfl⟩
theorem Only.trans {lo hi : Nat} {a b c : World} (h : Only lo hi a b) (k : Only lo hi b c) : Only lo hi a c :=
  ⟨k.os.trans h.os, k.tape.trans h.tape, k.output.trans h.output, Nat.le_trans h.size k.size, fun i hi hr => (k.block i (Nat.lt_of_lt_of_le hi h.size) hr).trans (h.block i hi hr)⟩
theorem Only.wider {lo hi lo' hi' : Nat} {a b : World} (h : Only lo hi a b) (h1 : lo' ≤ lo) (h2 : hi ≤ hi') : Only lo' hi' a b :=
  ⟨h.os, h.tape, h.output, h.size, fun i hs hr => h.block i hs (by omega)⟩
theorem Only.of_none {lo hi : Nat} {a b : World} (h : a.grownBy b none) : Only lo hi a b := ⟨h.os, h.tape, h.output, h.size, fun i hs _ => h.block i hs (by simp)⟩
theorem Only.of_some {lo hi g : Nat} {a b : World} (h : a.grownBy b (some g)) (h1 : lo ≤ g) (h2 : g < hi) : Only lo hi a b :=
  ⟨h.os, h.tape, h.output, h.size, fun i hs hr => h.block i hs (by intro e; cases e; omega)⟩
theorem Only.drew (lo hi : Nat) (w : World) : Only lo hi w w.drew := ⟨rfl, rfl, rfl, Nat.le_refl _, fun _ _ _ => rfl⟩
theorem Only.drewN (lo hi : Nat) (w : World) (m : Nat) : Only lo hi w (w.drewN m) := ⟨rfl, rfl, rfl, Nat.le_refl _, fun _ _ _ => rfl⟩
theorem Only.alloc (lo hi : Nat) (w : World) (o : Obj) : Only lo hi w (w.alloc o) := Only.of_none (World.grownBy_alloc w o none)
theorem Only.set {lo hi : Nat} (w : World) (a : Addr) (v : Value) (h1 : lo ≤ a.block) (h2 : a.block < hi) : Only lo hi w (w.setCell a v) :=
  ⟨rfl, rfl, rfl, by simp [World.setCell], fun i _ hr => Below.heap_setCell w a v i (by rintro rfl; omega)⟩
theorem Only.cell {lo hi : Nat} {a b : World} (h : Only lo hi a b) (p : Addr) (hp : p.block < a.heap.size) (hr : p.block < lo ∨ hi ≤ p.block) : b.cell? p = a.cell? p :=
  World.cell?_of_block (h.block p.block hp hr)
theorem Only.frozen {lo hi : Nat} {a b : World} (h : Only lo hi a b) (p : Addr) (hp : p.block < a.heap.size) (hr : p.block < lo ∨ hi ≤ p.block) : b.frozen? p = a.frozen? p :=
  World.frozen?_of_block (h.block p.block hp hr)
/-- Of what was there at first nothing has turned, if the range lies behind it. -/
theorem Only.on {lo hi : Nat} {W a b : World} (h : W.grownBy a none) (k : Only lo hi a b) (hl : W.heap.size ≤ lo) : W.grownBy b none :=
  ⟨k.os.trans h.os, k.tape.trans h.tape, k.output.trans h.output, Nat.le_trans h.size k.size, fun i hi _ => (k.block i (Nat.lt_of_lt_of_le hi h.size) (by omega)).trans (h.block i hi (by simp))⟩
/-- A range that ends where the other begins, one behind the other. -/
theorem Only.into {lo hi : Nat} {a b c : World} (h : Only lo hi a b) (k : b.grownBy c none) : Only lo hi a c := h.trans (Only.of_none k)
theorem own_only {w w' : World} {base : Nat} {e : TypeId} {size r n cp : Nat} {xs : List Value} {lo hi : Nat} (h : w.ownsRow base e size (.slice (some ⟨r, 0, none⟩) n cp) n xs) (k : Only lo hi w w') (hr : r < lo ∨ hi ≤ r) :
    w'.ownsRow base e size (.slice (some ⟨r, 0, none⟩) n cp) n xs := by
  have hl := (h.lt r rfl).2
  refine ⟨h.1, ?_⟩
  rcases h.2 with hn | ⟨g, cap, cur, hv, hb, hgg, rest⟩
  · exact .inl hn
  · refine .inr ⟨g, cap, cur, hv, hb, ?_, rest⟩
    cases hv
    rw [k.block r hl hr]
    exact hgg

end Go.Proofs.YtkkodhjolgcokaaDoor
