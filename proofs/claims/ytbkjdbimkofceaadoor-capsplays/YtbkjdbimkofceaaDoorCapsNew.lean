/-
  Contracts of package caps, over this seat's translation: New.
-/
import Derived.Test.YtbkjdbimkofceaaDoorCapsRev
import Derived.Deep.RegionWith
namespace Go.Proofs.YtbkjdbimkofceaaDoor
open Go.RowKit Go.Lib
set_option maxRecDepth 100000

/-- A place that has had no handle. -/
def Pl.fresh : Pl := ⟨0, false, 0, 0, 0⟩
/-- How many generations a place has. -/
def gensOf (k : Int) : Nat := (max 1 (min k 16777215)).toNat

theorem frozen_new (w : World) (c : Array Value) (t : TypeId) (j : Nat) : (w.alloc (.cells c t)).frozen? ⟨w.heap.size, j, none⟩ = false := by simp

theorem cnew_fin {w : World} {rb ro pb po b g n G : Nat} (R : SR.RegMem w rb ro pb po b g n (fun _ => false) (fun _ => SR.Pr.none)) (hG : 1 ≤ G ∧ G ≤ 16777215) :
    w.grownBy ((w.drew.alloc (.cells (madeCells #[.int .i64 0] n) 3)).alloc (.cells #[.pointer (some ⟨rb, ro, none⟩), .slice (some ⟨w.heap.size, 0, none⟩) n n, .int .i64 (G : Nat)] 72)) none ∧
    CapMem ((w.drew.alloc (.cells (madeCells #[.int .i64 0] n) 3)).alloc (.cells #[.pointer (some ⟨rb, ro, none⟩), .slice (some ⟨w.heap.size, 0, none⟩) n n, .int .i64 (G : Nat)] 72)) (w.heap.size + 1) rb ro pb po b g w.heap.size n G (fun _ => Pl.fresh) := by
  have kd : w.grownBy w.drew none := ⟨rfl, rfl, rfl, Nat.le_refl _, fun _ _ _ => rfl⟩
  have hd : w.drew.heap.size = w.heap.size := rfl
  have k1 := World.grownBy_alloc w.drew (.cells (madeCells #[.int .i64 0] n) 3) none
  have s1 : (w.drew.alloc (.cells (madeCells #[.int .i64 0] n) 3)).heap.size = w.heap.size + 1 := by simp [hd]
  have x1 : ∀ j, j < n → (w.drew.alloc (.cells (madeCells #[.int .i64 0] n) 3)).cell? ⟨w.heap.size, j, none⟩ = some (.int .i64 ((0 : Nat) : Int)) := fun j hj => by
    have : (w.drew.alloc (.cells (madeCells #[.int .i64 0] n) 3)).cell? ⟨w.drew.heap.size, j, none⟩ = some (.int .i64 ((0 : Nat) : Int)) := by rw [World.cell?_alloc_new]; exact made_at _ n j hj
    exact this
  have f1 : ∀ j, (w.drew.alloc (.cells (madeCells #[.int .i64 0] n) 3)).frozen? ⟨w.heap.size, j, none⟩ = false := fun j => frozen_new w.drew _ _ j
  generalize w.drew.alloc (.cells (madeCells #[.int .i64 0] n) 3) = w1 at *
  have k2 := World.grownBy_alloc w1 (.cells #[.pointer (some ⟨rb, ro, none⟩), .slice (some ⟨w.heap.size, 0, none⟩) n n, .int .i64 (G : Nat)] 72) none
  have s2 : (w1.alloc (.cells #[.pointer (some ⟨rb, ro, none⟩), .slice (some ⟨w.heap.size, 0, none⟩) n n, .int .i64 (G : Nat)] 72)).heap.size = w.heap.size + 2 := by simp [s1]
  have y : ∀ j (h : j < 3), (w1.alloc (.cells #[.pointer (some ⟨rb, ro, none⟩), .slice (some ⟨w.heap.size, 0, none⟩) n n, .int .i64 (G : Nat)] 72)).cell? ⟨w.heap.size + 1, j, none⟩ = #[Value.pointer (some ⟨rb, ro, none⟩), .slice (some ⟨w.heap.size, 0, none⟩) n n, .int .i64 (G : Nat)][j]? := fun j _ => by
    rw [← s1]; exact World.cell?_alloc_new ..
  have yp : ∃ c t, (w1.alloc (.cells #[.pointer (some ⟨rb, ro, none⟩), .slice (some ⟨w.heap.size, 0, none⟩) n n, .int .i64 (G : Nat)] 72)).heap[w.heap.size + 1]? = some (.cells c t (0, 0)) := by
    rw [← s1]; exact ⟨_, _, (show (w1.heap.push _)[w1.heap.size]? = _ from Array.getElem?_push_size)⟩
  have y0 := y 0 (by decide)
  have y1 := y 1 (by decide)
  have y2 := y 2 (by decide)
  generalize w1.alloc (.cells #[.pointer (some ⟨rb, ro, none⟩), .slice (some ⟨w.heap.size, 0, none⟩) n n, .int .i64 (G : Nat)] 72) = w2 at *
  have kk := kd.trans (k1.trans k2)
  have d := R.d
  have l := R.l
  have hs := R.set.hb
  have hs2 := R.set.hg
  refine ⟨kk, y0, y1, y2, ?_, fun j hj => (k2.cell_far ⟨w.heap.size, j, none⟩ (by show w.heap.size < _; omega) (by simp)).trans (x1 j hj), fun j hj => (k2.frozen_far ⟨w.heap.size, j, none⟩ (by show w.heap.size < _; omega) (by simp)).trans (f1 j), fun j hj => ⟨Nat.zero_le _, fun h => (by cases h), by decide⟩, hG, by omega, by omega, yp⟩
  have e1 : (fun j => ((fun _ => Pl.fresh) j : Pl).full G) = fun _ : Nat => false := funext fun j => by simp [Pl.full, Pl.fresh]; omega
  have e2 : (fun j => ((fun _ => Pl.fresh) j : Pl).row) = fun _ : Nat => SR.Pr.none := funext fun j => by simp [Pl.row, Pl.fresh]
  rw [e1, e2]
  exact R.kept kk

set_option maxHeartbeats 4000000 in
theorem cnew_made {w : World} {rb ro pb po b g n : Nat} (k : Int) (R : SR.RegMem w rb ro pb po b g n (fun _ => false) (fun _ => SR.Pr.none)) :
    Calls Tryd.prog 18 #[.pointer (some ⟨rb, ro, none⟩), .int .i64 k] w fun e w' => ∃ tb hb, e = .returned (.pointer (some ⟨tb, 0, none⟩)) ∧ w.grownBy w' none ∧ w.heap.size ≤ tb ∧ w.heap.size ≤ hb ∧ CapMem w' tb rb ro pb po b g hb n (gensOf k) (fun _ => Pl.fresh) := by
  have hn := R.hn
  have hg : 1 ≤ gensOf k ∧ gensOf k ≤ 16777215 := by unfold gensOf; omega
  have hmk : ∀ W : World, (Instr.makeSlice 57 (.int .i64 (n : Nat)) (.int .i64 (n : Nat))).run Tryd.prog W = _ := fun W => make_ints n n (by omega) (by omega) W
  have CR : Hid (∀ m : Nat, Calls Tryd.prog 44 #[.pointer (some ⟨rb, ro, none⟩)] (w.drewN m) fun e w' => e = .returned (.int .i64 (n : Int)) ∧ w.drewN m = w') := Lib.hid fun m => SR.room_any (R.kept ⟨rfl, rfl, rfl, Nat.le_refl _, fun _ _ _ => rfl⟩)
  have CC : Hid (∀ v : World, Calls Tryd.prog 45 #[.int .i64 k, .int .i64 1, .int .i64 16777215] v fun e w' => e = .returned (.int .i64 (gensOf k : Nat)) ∧ v = w') := Lib.hid fun v => by
    have := clamp_any k 1 16777215 v
    rwa [show max 1 (min k 16777215) = ((gensOf k : Nat) : Int) by unfold gensOf; omega] at this
  generalize gensOf k = G at *
  have RR := Lib.hid R
  clear R
  go_enter Tryd.func18, Tryd.ntmps18
  go_wp2_with fail
  have C0 : Calls Tryd.prog 44 #[.pointer (some ⟨rb, ro, none⟩)] w.drew fun e w' => e = .returned (.int .i64 (n : Int)) ∧ w.drew = w' := CR.out 1
  have CH := Lib.hid C0
  clear C0
  go_region_with (first | (go_at_call 44; refine CH.out.mono ?_; rintro e w' ⟨rfl, rfl⟩) | (go_at_call 45; refine (CC.out _).mono ?_; rintro e w' ⟨rfl, rfl⟩))
  all_goals
    go_wp2
    go_ret
    have F := cnew_fin RR.out hg
    exact ⟨w.heap.size + 1, w.heap.size, rfl, F.1, by omega, by omega, F.2⟩
end Go.Proofs.YtbkjdbimkofceaaDoor
