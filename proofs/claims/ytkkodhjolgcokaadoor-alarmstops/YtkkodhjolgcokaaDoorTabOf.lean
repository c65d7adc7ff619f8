/-
  The table deBruijn64tab behind what turns elsewhere; the sizes of a slab's regions as a literal of one or two numbers.
-/
import Derived.Test.YtkkodhjolgcokaaDoorSlabNew
namespace Go.Proofs.YtkkodhjolgcokaaDoor
open Go.RowKit Go.Lib

theorem tab_only {w w' : World} {lo hi : Nat} (h : TabAt w) (k : Only lo hi w w') (h0 : 0 < lo) : TabAt w' := fun j hj => by
  have hc := h j hj
  exact (k.cell ⟨0, j, none⟩ (World.block_lt_of_cell? w ⟨0, j, none⟩ hc) (Or.inl h0)).trans hc
theorem tab_pos {w : World} (h : TabAt w) : 0 < w.heap.size := World.block_lt_of_cell? w ⟨0, 0, none⟩ (h 0 (by decide))
theorem caps_one (w : World) (x : Int) : CapsAt (w.alloc (.cells #[.int .i64 x] 3)) (some ⟨w.heap.size, 0, none⟩) 1 1 (fun _ => x) :=
  ⟨Nat.le_refl _, by decide, fun _ => ⟨w.heap.size, 0, rfl, by simp, fun j hj => by
    have : j = 0 := by omega
    subst this
    rw [World.cell?_alloc_new]; rfl⟩⟩
theorem caps_two (w : World) (x y : Int) : CapsAt (w.alloc (.cells #[.int .i64 x, .int .i64 y] 3)) (some ⟨w.heap.size, 0, none⟩) 2 2 (fun j => if j = 0 then x else y) :=
  ⟨Nat.le_refl _, by decide, fun _ => ⟨w.heap.size, 0, rfl, by simp, fun j hj => by
    rw [World.cell?_alloc_new]
    match j, hj with
    | 0, _ => rfl
    | 1, _ => rfl⟩⟩
theorem caps_three (w : World) (x y z : Int) : CapsAt (w.alloc (.cells #[.int .i64 x, .int .i64 y, .int .i64 z] 3)) (some ⟨w.heap.size, 0, none⟩) 3 3 (fun j => if j = 0 then x else if j = 1 then y else z) :=
  ⟨Nat.le_refl _, by decide, fun _ => ⟨w.heap.size, 0, rfl, by simp, fun j hj => by
    rw [World.cell?_alloc_new]
    match j, hj with
    | 0, _ => rfl
    | 1, _ => rfl
    | 2, _ => rfl⟩⟩

end Go.Proofs.YtkkodhjolgcokaaDoor
