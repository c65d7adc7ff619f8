/-
  Contracts of package box (things of type poll.Note), over this seat's translation: Post, Fetch (things of two cells).
-/
import Derived.Test.YtpnipmjjhiaieaaBox2N
namespace Go.Proofs.Ytpnipmjjhiaieaa.BN
open Go.RowKit Go.Lib Go.Conc
set_option maxRecDepth 100000
set_option linter.unusedVariables false
section
variable {w w' : World} {bb c cap : Nat} {L : List (Nat × Vt)} {M : Nat → Bool}

theorem size_alloc (w : World) (o : Obj) : (w.alloc o).heap.size = w.heap.size + 1 := by show (w.heap.push _).size = _; rw [Array.size_push]

set_option maxHeartbeats 1000000 in
theorem post_ok (s : Int) (n : Int) (H : Bx w bb c cap L) (hl : L.length < cap) : Calls Try.prog 35 #[.pointer (some ⟨bb, 0, none⟩), .agg #[.int .i64 s, .int .i64 n]] w fun e w' => e = .returned (.bool true) ∧ Bx w' bb c cap (L ++ [(w.heap.size + 1, (s, n))]) ∧ Only c (c + 1) w w' := by
  have ka := World.grownBy_alloc w (.cells #[.int .i64 s, .int .i64 n] 67) none
  have kb := World.grownBy_alloc (w.alloc (.cells #[.int .i64 s, .int .i64 n] 67)) (.cells #[.int .i64 s, .int .i64 n, .bool false] 96) none
  have H1 := (H.kept ka).kept kb
  obtain ⟨s0, r, h⟩ := H1.ch
  have CP := Lib.hid (put_l (.pointer (some ⟨w.heap.size + 1, 0, none⟩)) (cell_blk H1.b 0) h (by simpa using hl))
  have HH := Lib.hid H
  have H1' := Lib.hid H1
  have hn : Hid (((w.alloc (.cells #[.int .i64 s, .int .i64 n] 67)).alloc (.cells #[.int .i64 s, .int .i64 n, .bool false] 96)).heap[w.heap.size + 1]? = some (.cells #[.int .i64 s, .int .i64 n, .bool false] 96 (0, 0))) := Lib.hid (by
    rw [← size_alloc w (.cells #[.int .i64 s, .int .i64 n] 67)]
    exact heap_alloc_new _ _)
  have KAB := Lib.hid (ka.trans kb)
  clear H H1 h ka kb
  go_enter Try.func35, Try.ntmps35
  go_wp2_with fail
  generalize (w.alloc (.cells #[.int .i64 s, .int .i64 n] 67)).alloc (.cells #[.int .i64 s, .int .i64 n, .bool false] 96) = w0 at *
  refine CP.out.mono ?_
  rintro e w1 ⟨rfl, e1⟩
  have E1 := Lib.hid e1
  clear e1 CP
  go_wp2
  go_ret
  refine ⟨rfl, ?_, ?_⟩
  · rw [E1.out]
    have hd : w.heap.size + 1 ∉ L.map Prod.fst := fun hm => by
      obtain ⟨x, hx, e⟩ := List.mem_map.1 hm
      have := HH.out.lt.2.2 x hx
      omega
    have := H1'.out.setCh (L' := L ++ [(w.heap.size + 1, (s, n))]) (s0 + 1) r (fun x hx => by
      rcases List.mem_append.1 hx with hx | hx
      · exact H1'.out.th x hx
      · simp at hx; subst hx; exact hn.out) (by
      rw [List.map_append]
      exact List.nodup_append.2 ⟨HH.out.nd, by simp, fun a ha b hb e => by simp at hb; subst hb; subst e; exact hd ha⟩) (by simp; omega)
    simpa [ptr] using this
  · rw [E1.out]
    exact (Only.of_none KAB.out).trans (only_setChan ..)

set_option maxHeartbeats 1000000 in
theorem post_no (s : Int) (n : Int) (H : Bx w bb c cap L) (hl : cap ≤ L.length) : Calls Try.prog 35 #[.pointer (some ⟨bb, 0, none⟩), .agg #[.int .i64 s, .int .i64 n]] w fun e w' => e = .returned (.bool false) ∧ Bx w' bb c cap L ∧ w.grownBy w' none := by
  have ka := World.grownBy_alloc w (.cells #[.int .i64 s, .int .i64 n] 67) none
  have kb := World.grownBy_alloc (w.alloc (.cells #[.int .i64 s, .int .i64 n] 67)) (.cells #[.int .i64 s, .int .i64 n, .bool false] 96) none
  have H1 := (H.kept ka).kept kb
  obtain ⟨s0, r, h⟩ := H1.ch
  have CP := Lib.hid (put_full (.pointer (some ⟨w.heap.size + 1, 0, none⟩)) (cell_blk H1.b 0) h (by simpa using hl))
  have H1' := Lib.hid H1
  have KAB := Lib.hid (ka.trans kb)
  clear H H1 h ka kb hl
  go_enter Try.func35, Try.ntmps35
  go_wp2_with fail
  refine CP.out.mono ?_
  rintro e w1 ⟨rfl, rfl⟩
  go_wp2
  go_ret
  exact ⟨rfl, H1'.out, KAB.out⟩

theorem BxM.above (H : BxM w bb c cap L M) (q : Nat) (hq : bb < q ∧ c < q ∧ ∀ x ∈ L, x.1 < q) (o : Nat) (u : Value) : BxM (w.setCell ⟨q, o, none⟩ u) bb c cap L M :=
  H.off (Below.heap_setCell w ⟨q, o, none⟩ u bb (by show bb ≠ q; omega)) (Below.heap_setCell w ⟨q, o, none⟩ u c (by show c ≠ q; omega)) fun x hx => Below.heap_setCell w ⟨q, o, none⟩ u x.1 (by show x.1 ≠ q; have := hq.2.2 x hx; omega)
theorem Only.above {lo hi q : Nat} {a b : World} (k : Only lo hi a b) (hq : a.heap.size ≤ q) (o : Nat) (u : Value) : Only lo hi a (b.setCell ⟨q, o, none⟩ u) :=
  ⟨k.os, k.tape, k.output, by have := k.size; simp [World.setCell]; omega, fun i hi hr => (Below.heap_setCell b ⟨q, o, none⟩ u i (by show i ≠ q; omega)).trans (k.block i hi hr)⟩

set_option maxHeartbeats 1000000 in
theorem fetch_some {p : Nat} {sv : Int} {n : Int} (H : Bx w bb c cap ((p, (sv, n)) :: L)) : Calls Try.prog 38 #[.pointer (some ⟨bb, 0, none⟩)] w fun e w' => e = .returned (.tuple #[.agg #[.int .i64 sv, .int .i64 n], .bool true]) ∧ Bx w' bb c cap L ∧ Only c (c + 1) w w' := by
  have ka := World.grownBy_alloc w (.cells #[.int .i64 0, .int .i64 0] 67) none
  have hlt := H.lt
  have H1 := H.kept ka
  obtain ⟨s, r, h⟩ := H1.ch
  have CP := Lib.hid (take_l (p := ptr p) (l := L.map fun x => ptr x.1) (cell_blk H1.b 0) (by simpa using h))
  have H2 : Hid (Bx ((w.alloc (.cells #[.int .i64 0, .int .i64 0] 67)).setChan c cap (L.map fun x => ptr x.1).toArray false s (r + 1) false) bb c cap L) := Lib.hid (H1.setCh s (r + 1) (fun x hx => H1.th x (List.mem_cons_of_mem _ hx)) (by have := H1.nd; simp at this; exact this.2) (by have := H1.le; simp at this; omega))
  have O2 := only_setChan (w.alloc (.cells #[.int .i64 0, .int .i64 0] 67)) c cap (L.map fun x => ptr x.1).toArray false s (r + 1) false
  have hp := H1.th (p, (sv, n)) (List.mem_cons_self ..)
  have hpc := (H1.ne.2 (p, (sv, n)) (List.mem_cons_self ..)).1
  have hp2 : ((w.alloc (.cells #[.int .i64 0, .int .i64 0] 67)).setChan c cap (L.map fun x => ptr x.1).toArray false s (r + 1) false).heap[p]? = some (.cells (cellsOf (sv, n) false) 96 (0, 0)) := (O2.block p (blk_lt hp) (by simp at hpc; omega)).trans hp
  have hr : ((w.alloc (.cells #[.int .i64 0, .int .i64 0] 67)).setChan c cap (L.map fun x => ptr x.1).toArray false s (r + 1) false).heap[w.heap.size]? = some (.cells #[.int .i64 0, .int .i64 0] 67 (0, 0)) := (O2.block _ (by rw [size_alloc]; omega) (by omega)).trans (heap_alloc_new _ _)
  have O3 := Lib.hid ((Only.of_none (lo := c) (hi := c + 1) ka).trans O2)
  have HLT : Hid (bb < w.heap.size ∧ c < w.heap.size ∧ ∀ x ∈ L, x.1 < w.heap.size) := Lib.hid ⟨hlt.1, hlt.2.1, fun x hx => hlt.2.2 x (List.mem_cons_of_mem _ hx)⟩
  clear H H1 h hp hpc ka O2 hlt
  have p0 := cell_blk hp2 0
  have p1 := cell_blk hp2 1
  have r0 := cell_blk hr 0
  have r1 := cell_blk hr 1
  have f0 := frozen_blk hr 0
  have f1 := frozen_blk hr 1
  have hlr : p ≠ w.heap.size := by
    rintro rfl
    rw [hr] at hp2
    injection hp2 with h1
    injection h1 with _ h2
    exact absurd h2 (by decide)
  clear hp2 hr
  unfold ptr at *
  generalize hW : (w.alloc (.cells #[.int .i64 0, .int .i64 0] 67)).setChan c cap (L.map fun x => .pointer (some ⟨x.1, 0, none⟩)).toArray false s (r + 1) false = w2 at *
  simp only [cellsOf, List.getElem?_toArray, List.getElem?_cons_zero, List.getElem?_cons_succ] at p0 p1 r0 r1
  go_enter Try.func38, Try.ntmps38
  go_wp2_with fail
  refine CP.out.mono ?_
  rintro e w1 ⟨rfl, e1⟩
  try rw [hW] at e1
  clear hW CP
  subst e1
  go_wp2
  have x0 : ((w1.setCell ⟨w.heap.size, 0, none⟩ (.int .i64 sv)).setCell ⟨w.heap.size, 1, none⟩ (.int .i64 n)).cell? ⟨w.heap.size, 0, none⟩ = some (.int .i64 sv) := (World.cell?_setCell_other _ ⟨w.heap.size, 1, none⟩ ⟨w.heap.size, 0, none⟩ _ (by simp)).trans (World.cell?_setCell_same _ _ _ r0)
  have x1 : ((w1.setCell ⟨w.heap.size, 0, none⟩ (.int .i64 sv)).setCell ⟨w.heap.size, 1, none⟩ (.int .i64 n)).cell? ⟨w.heap.size, 1, none⟩ = some (.int .i64 n) := World.cell?_setCell_same _ _ _ ((World.cell?_setCell_other _ ⟨w.heap.size, 0, none⟩ ⟨w.heap.size, 1, none⟩ _ (by simp)).trans r1)
  exact bodyPost_ret (v := .tuple #[.agg #[.int .i64 sv, .int .i64 n], .bool true]) (by simp [results, Try.results38, go_sem, x0, x1]) rfl ⟨rfl, (H2.out.above w.heap.size HLT.out 0 _).above w.heap.size HLT.out 1 _, (Only.above (Only.above O3.out (Nat.le_refl _) 0 _) (Nat.le_refl _) 1 _)⟩

set_option maxHeartbeats 1000000 in
theorem fetch_none (H : Bx w bb c cap []) : Calls Try.prog 38 #[.pointer (some ⟨bb, 0, none⟩)] w fun e w' => e = .returned (.tuple #[.agg #[.int .i64 0, .int .i64 0], .bool false]) ∧ Bx w' bb c cap [] ∧ w.grownBy w' none := by
  have ka := World.grownBy_alloc w (.cells #[.int .i64 0, .int .i64 0] 67) none
  have H1 := H.kept ka
  obtain ⟨s, r, h⟩ := H1.ch
  have CP := Lib.hid (take_none (buf := #[]) (cell_blk H1.b 0) (by simpa using h))
  have HH := Lib.hid H1
  have KA := Lib.hid ka
  clear H H1 h ka
  go_enter Try.func38, Try.ntmps38
  go_wp2_with fail
  refine CP.out.mono ?_
  rintro e w1 ⟨rfl, rfl⟩
  go_wp2
  exact bodyPost_ret (v := .tuple #[.agg #[.int .i64 0, .int .i64 0], .bool false]) (by simp [results, Try.results38, go_sem]) rfl ⟨rfl, HH.out.kept (World.grownBy_alloc ..), KA.out.trans (World.grownBy_alloc ..)⟩
end
end Go.Proofs.Ytpnipmjjhiaieaa.BN
