/-
  Contracts of package wheel, over this seat's translation: New.
-/
import Derived.Test.YtkkodhjolgcokaaDoorWheel6
import Derived.Test.YtkkodhjolgcokaaDoorWheelMath
namespace Go.Proofs.YtkkodhjolgcokaaDoor
open Go.RowKit Go.Lib
set_option maxRecDepth 100000
set_option linter.unusedVariables false

theorem made_al (n k : Nat) (h : k < n) : (madeCells #[.int .u64 0, .int .u64 0] (n * 2))[k * 2]? = some (.int .u64 0) ∧ (madeCells #[.int .u64 0, .int .u64 0] (n * 2))[k * 2 + 1]? = some (.int .u64 0) := by
  have h1 : k * 2 < n * 2 := by omega
  have h2 : k * 2 + 1 < n * 2 := by omega
  have e1 : k * 2 % 2 = 0 := by omega
  have e2 : (k * 2 + 1) % 2 = 1 := by omega
  constructor
  · simp [madeCells, h1, e1]
  · simp [madeCells, h2, e2]
theorem make_al (n : Nat) (hn : n ≤ 4096) (w : World) :
    (Instr.makeSlice 73 (.int .i64 (n : Int)) (.int .i64 (n : Int))).run Tryd.prog w =
      .ok (.slice (some ⟨w.heap.size, 0, none⟩) n n) (w.alloc (.cells (madeCells #[.int .u64 0, .int .u64 0] (n * 2)) 79)) := by
  obtain ⟨i, hi, hz⟩ : ∃ i : TypeInfo, Tryd.prog.info? 79 = some i ∧ i.zero = some (.agg #[.int .u64 0, .int .u64 0]) ∧ i.bytes = 16 ∧ i.size = 2 := ⟨_, rfl, rfl, rfl, rfl⟩
  have h := run_make (P := Tryd.prog) w 73 79 i _ Tryd.underlying73 hi hz.1 .i64 .i64 (n : Int) (n : Int) (by omega) (by omega) (by rw [hz.2.1]; omega) (by omega)
  rw [hz.2.2, Int.toNat_natCast] at h
  exact h

/-- The cells of a wheel that is new. -/
abbrev whCells (now : Nat) (ab lb n : Nat) : Array Value := #[.int .u64 (now : Nat), .slice (some ⟨ab, 0, none⟩) n n, .pointer (some ⟨lb + 4, 0, none⟩), .int .i64 0, .int .i64 0, .int .i64 0, .int .i64 0, .int .i64 0, .int .i64 0, .int .i64 0, .int .i64 0, .int .i64 0, .int .i64 0, .int .i64 0, .int .i64 0]

theorem cell_at_new (w : World) (a : Array Value) (t : TypeId) {j : Nat} {v : Value} (h : a[j]? = some v) : (w.alloc (.cells a t)).cell? ⟨w.heap.size, j, none⟩ = some v := by
  rw [cell_of_row _ _ j a t (0, 0) (heap_alloc_new w _)]; exact h

theorem frozen_newC (w : World) (a : Array Value) (t : TypeId) (j : Nat) : (w.alloc (.cells a t)).frozen? ⟨w.heap.size, j, none⟩ = false := by simp

theorem WhMem.made {w : World} {lb n now : Nat} (hl : LinksAt w lb n 768 (fun _ => [])) (hlt : lb + 5 ≤ w.heap.size) (hn : now < 18446744073709551616) :
    WhMem ((w.alloc (.cells (madeCells #[.int .u64 0, .int .u64 0] (n * 2)) 79)).alloc (.cells (whCells now w.heap.size lb n) 77)) (w.heap.size + 1) w.heap.size lb n now (fun _ => (0, 0)) (fun _ => []) (fun _ => 0) := by
  have hs : (w.alloc (.cells (madeCells #[.int .u64 0, .int .u64 0] (n * 2)) 79)).heap.size = w.heap.size + 1 := by simp
  have k1 := World.grownBy_alloc w (.cells (madeCells #[.int .u64 0, .int .u64 0] (n * 2)) 79) none
  have k2 := World.grownBy_alloc (w.alloc (.cells (madeCells #[.int .u64 0, .int .u64 0] (n * 2)) 79)) (.cells (whCells now w.heap.size lb n) 77) none
  have top : ∀ j v, (whCells now w.heap.size lb n)[j]? = some v → ((w.alloc (.cells (madeCells #[.int .u64 0, .int .u64 0] (n * 2)) 79)).alloc (.cells (whCells now w.heap.size lb n) 77)).cell? ⟨w.heap.size + 1, j, none⟩ = some v := fun j v h => by
    have := cell_at_new (w.alloc (.cells (madeCells #[.int .u64 0, .int .u64 0] (n * 2)) 79)) _ 77 h
    rwa [hs] at this
  refine ⟨top 0 _ rfl, top 1 _ rfl, top 2 _ rfl, fun r hr => ?_, fun j => ?_, fun k hk => ?_, fun j => ?_, hl.kept ((Only.of_none (lo := 0) (hi := 0) (k1.trans k2))) (Or.inr (Nat.zero_le _)), ⟨hn, fun k hk => ⟨by omega, by omega⟩⟩, ⟨by omega, by omega, by omega⟩, ⟨?_, ?_⟩⟩
  · match r, hr with
    | 0, _ | 1, _ | 2, _ | 3, _ | 4, _ | 5, _ | 6, _ | 7, _ | 8, _ | 9, _ | 10, _ | 11, _ => exact top _ _ rfl
  · have := frozen_newC (w.alloc (.cells (madeCells #[.int .u64 0, .int .u64 0] (n * 2)) 79)) (whCells now w.heap.size lb n) 77 j
    rwa [hs] at this
  · obtain ⟨e1, e2⟩ := made_al n k hk
    exact ⟨k2.cell (cell_at_new w _ _ e1) (by simp), k2.cell (cell_at_new w _ _ e2) (by simp)⟩
  · exact ((Only.of_none (lo := 0) (hi := 0) k2).frozen ⟨w.heap.size, j, none⟩ (by simp) (Or.inr (Nat.zero_le _))).trans (frozen_newC w _ _ j)
  · simp
  · simp
    omega

set_option maxHeartbeats 2000000 in
theorem wnew_any (a : Int) (now : Nat) (hn : now < 18446744073709551616) (w : World) :
    Calls Tryd.prog 35 #[.int .i64 a, .int .u64 (now : Nat)] w fun e w' => ∃ wb ab, e = .returned (.pointer (some ⟨wb, 0, none⟩)) ∧ w.heap.size ≤ wb ∧ w.heap.size ≤ ab ∧ w.grownBy w' none ∧ WhMem w' wb ab w.heap.size (clampC a) now (fun _ => (0, 0)) (fun _ => []) (fun _ => 0) := by
  have C1 := Lib.hid (new_anyC a 768 w)
  have hcl : clampC a ≤ 4096 := by unfold clampC; omega
  have hc768 : clampC 768 = 768 := by decide
  have hmk : ∀ W : World, (Instr.makeSlice 73 (.int .i64 (clampC a : Int)) (.int .i64 (clampC a : Int))).run Tryd.prog W = _ := fun W => make_al (clampC a) hcl W
  obtain ⟨lb, hlb⟩ : ∃ lb, w.heap.size = lb := ⟨_, rfl⟩
  rw [hc768, hlb] at C1
  rw [hlb]
  generalize clampC a = n at *
  clear hc768 hcl
  go_enter Tryd.func35, Tryd.ntmps35
  go_wp2_with fail
  refine C1.out.mono ?_
  rintro e w1 ⟨rfl, k1, H1⟩
  have hl5 : Hid (lb + 5 ≤ w1.heap.size) := Lib.hid (LinksAt.sz H1)
  have C2 := Lib.hid (numbers_any H1)
  have HH := Lib.hid (WhMem.made H1 hl5.out hn)
  have KK := Lib.hid (k1.trans ((World.grownBy_alloc w1 (.cells (madeCells #[.int .u64 0, .int .u64 0] (n * 2)) 79) none).trans (World.grownBy_alloc _ (.cells (whCells now w1.heap.size lb n) 77) none)))
  have hsz : Hid (lb ≤ w1.heap.size) := Lib.hid (by have := hl5.out; omega)
  clear C1 k1 H1
  go_wp2_with fail
  refine C2.out.mono ?_
  rintro e w' ⟨rfl, rfl⟩
  clear C2
  go_wp2
  go_ret
  exact ⟨w1.heap.size + 1, w1.heap.size, rfl, by have := hsz.out; omega, hsz.out, KK.out, HH.out⟩
end Go.Proofs.YtkkodhjolgcokaaDoor
