/-
  Contracts of package box (things of type nightjarlaw10.thing), over this seat's translation: Either.
-/
import Derived.Test.YtijgdlanjhcabaaBox2bT
namespace Go.Proofs.Ytijgdlanjhcabaa.BT
open Go.RowKit Go.Lib Go.Conc
set_option maxRecDepth 100000
set_option linter.unusedVariables false
section
variable {w w' : World} {ba ca na bb cb nb : Nat} {L : List (Nat × Vt)}

theorem idx0 (p q : Value) (w : World) : (Instr.index 89 (.agg #[p, q]) (.int .i64 0)).run Try.prog w = .ok p w := by kernel_rfl
theorem idx1 (p q : Value) (w : World) : (Instr.index 89 (.agg #[p, q]) (.int .i64 1)).run Try.prog w = .ok q w := by kernel_rfl
def Z49 : Array Value := #[.string ⟨#[]⟩, .int .u64 0]

/-- A box for a result, its cells and what they are behind being written. -/
theorem res_cells {w : World} {q : Nat} {s0 : ByteArray} {n0 : Int} (h : w.heap[q]? = some (.cells #[.string s0, .int .u64 n0] 49 (0, 0))) (s : ByteArray) (n : Int) :
    w.cell? ⟨q, 0, none⟩ = some (.string s0) ∧ w.cell? ⟨q, 1, none⟩ = some (.int .u64 n0) ∧ w.frozen? ⟨q, 0, none⟩ = false ∧ w.frozen? ⟨q, 1, none⟩ = false ∧
    ((w.setCell ⟨q, 0, none⟩ (.string s)).setCell ⟨q, 1, none⟩ (.int .u64 n)).cell? ⟨q, 0, none⟩ = some (.string s) ∧ ((w.setCell ⟨q, 0, none⟩ (.string s)).setCell ⟨q, 1, none⟩ (.int .u64 n)).cell? ⟨q, 1, none⟩ = some (.int .u64 n) := by
  have r0 : w.cell? ⟨q, 0, none⟩ = some (.string s0) := cell_blk h 0
  have r1 : w.cell? ⟨q, 1, none⟩ = some (.int .u64 n0) := cell_blk h 1
  exact ⟨r0, r1, frozen_blk h 0, frozen_blk h 1, (World.cell?_setCell_other _ ⟨q, 1, none⟩ ⟨q, 0, none⟩ _ (by simp)).trans (World.cell?_setCell_same _ _ _ r0), World.cell?_setCell_same _ _ _ ((World.cell?_setCell_other _ ⟨q, 0, none⟩ ⟨q, 1, none⟩ _ (by simp)).trans r1)⟩
theorem grown_above {a b : World} (k : a.grownBy b none) {q : Nat} (hq : a.heap.size ≤ q) (o : Nat) (u : Value) : a.grownBy (b.setCell ⟨q, o, none⟩ u) none :=
  ⟨k.os, k.tape, k.output, by have := k.size; simp [World.setCell]; omega, fun i hi hr => (Below.heap_setCell b ⟨q, o, none⟩ u i (by show i ≠ q; omega)).trans (k.block i hi hr)⟩

set_option maxHeartbeats 4000000 in
theorem either_first {p : Nat} {sv : ByteArray} {n : Int} (pb : Option Addr) (H : Bx w ba ca na ((p, (sv, n)) :: L)) : Calls Try.prog 19 #[.pointer (some ⟨ba, 0, none⟩), .pointer pb] w fun e w' => e = .returned (.tuple #[.agg #[.string sv, .int .u64 n], .int .i64 0]) ∧ Bx w' ba ca na L ∧ Only ca (ca + 1) w w' := by
  have hi0 := idx0 (.pointer (some ⟨ba, 0, none⟩)) (.pointer pb)
  have ka := World.grownBy_alloc w (.cells #[.string ⟨#[]⟩, .int .u64 0] 49) none
  have hlt := H.lt
  have CF := Lib.hid (fetch_some (H.kept ka))
  have HR : Hid ((w.alloc (.cells #[.string ⟨#[]⟩, .int .u64 0] 49)).heap[w.heap.size]? = some (.cells #[.string ⟨#[]⟩, .int .u64 0] 49 (0, 0))) := Lib.hid (heap_alloc_new _ _)
  have HLT : Hid (ba < w.heap.size ∧ ca < w.heap.size ∧ ∀ x ∈ L, x.1 < w.heap.size) := Lib.hid ⟨hlt.1, hlt.2.1, fun x hx => hlt.2.2 x (List.mem_cons_of_mem _ hx)⟩
  have KA := Lib.hid ka
  clear H ka hlt
  go_enter Try.func19, Try.ntmps19
  go_wp2_with fail
  generalize w.alloc (.cells #[.string ⟨#[]⟩, .int .u64 0] 49) = w0 at *
  go_loopw [13] (fun it wr => it = .int .i64 0 ∧ Hid (wr = w0)) (fun it _ => 0)
  case atStart => exact ⟨rfl, Lib.hid rfl⟩
  case round =>
    obtain ⟨rfl, hw⟩ := hrel
    have hw := hw.out
    subst hw
    go_wp2_with fail
    refine CF.out.mono ?_
    rintro e w1 ⟨rfl, h1, k1⟩
    have kb := World.grownBy_alloc w1 (.cells #[.string sv, .int .u64 n] 49) none
    have hb1 : w1.heap[w.heap.size]? = some (.cells #[.string ⟨#[]⟩, .int .u64 0] 49 (0, 0)) := (k1.block _ (blk_lt HR.out) (by have := HLT.out; omega)).trans HR.out
    have hb2 := (kb.block _ (blk_lt hb1) (by simp)).trans hb1
    obtain ⟨r0, r1, f0, f1, x0, x1⟩ := res_cells hb2 sv n
    have X0 := Lib.hid x0
    have X1 := Lib.hid x1
    have H2 := Lib.hid (h1.kept kb)
    have O2 := Lib.hid (((Only.of_none (lo := ca) (hi := ca + 1) KA.out).trans k1).trans (Only.of_none kb))
    clear h1 k1 CF hb1 hb2 kb x0 x1
    go_wp2
    have x0 := X0.out
    have x1 := X1.out
    exact bodyPost_ret (v := .tuple #[.agg #[.string sv, .int .u64 n], .int .i64 0]) (by simp [results, Try.results19, go_sem, x0, x1]) rfl ⟨rfl, (H2.out.above w.heap.size HLT.out 0 _).above w.heap.size HLT.out 1 _, (Only.above (Only.above O2.out (Nat.le_refl _) 0 _) (Nat.le_refl _) 1 _)⟩

set_option maxHeartbeats 4000000 in
theorem either_second {p : Nat} {sv : ByteArray} {n : Int} (HA : Bx w ba ca na []) (HB : Bx w bb cb nb ((p, (sv, n)) :: L)) : Calls Try.prog 19 #[.pointer (some ⟨ba, 0, none⟩), .pointer (some ⟨bb, 0, none⟩)] w fun e w' => e = .returned (.tuple #[.agg #[.string sv, .int .u64 n], .int .i64 1]) ∧ Bx w' bb cb nb L ∧ Only cb (cb + 1) w w' := by
  have hi0 := idx0 (.pointer (some ⟨ba, 0, none⟩)) (.pointer (some ⟨bb, 0, none⟩))
  have hi1 := idx1 (.pointer (some ⟨ba, 0, none⟩)) (.pointer (some ⟨bb, 0, none⟩))
  have ka := World.grownBy_alloc w (.cells #[.string ⟨#[]⟩, .int .u64 0] 49) none
  have hlt := HB.lt
  have CF := Lib.hid (fetch_none (HA.kept ka))
  have HBB := Lib.hid (HB.kept ka)
  have HR : Hid ((w.alloc (.cells #[.string ⟨#[]⟩, .int .u64 0] 49)).heap[w.heap.size]? = some (.cells #[.string ⟨#[]⟩, .int .u64 0] 49 (0, 0))) := Lib.hid (heap_alloc_new _ _)
  have HLT : Hid (bb < w.heap.size ∧ cb < w.heap.size ∧ ∀ x ∈ L, x.1 < w.heap.size) := Lib.hid ⟨hlt.1, hlt.2.1, fun x hx => hlt.2.2 x (List.mem_cons_of_mem _ hx)⟩
  have KA := Lib.hid ka
  clear HA HB ka hlt
  go_enter Try.func19, Try.ntmps19
  go_wp2_with fail
  generalize w.alloc (.cells #[.string ⟨#[]⟩, .int .u64 0] 49) = w0 at *
  go_loopw [13] (fun it wr => (it = .int .i64 0 ∧ Hid (wr = w0)) ∨ (it = .int .i64 1 ∧ Hid (Bx wr bb cb nb ((p, (sv, n)) :: L)) ∧ Hid (w0.grownBy wr none))) (fun it _ => 1 - (Go.RowKit.intOf it).toNat)
  case atStart => exact Or.inl ⟨rfl, Lib.hid rfl⟩
  case round =>
    rcases hrel with ⟨rfl, hw⟩ | ⟨rfl, hB, hG⟩
    · have hw := hw.out
      subst hw
      go_wp2_with fail
      refine CF.out.mono ?_
      rintro e w1 ⟨rfl, h, k⟩
      have R := Lib.hid (k.trans (World.grownBy_alloc w1 (.cells #[.string ⟨#[]⟩, .int .u64 0] 49) none))
      clear h k CF
      go_wp2
      go_roundw
      case rel => exact Or.inr ⟨rfl, Lib.hid (HBB.out.kept R.out), R⟩
      case measure => simp [Go.RowKit.intOf]
    · have CS := Lib.hid (fetch_some hB.out)
      clear CF hB HBB
      go_wp2_with fail
      refine CS.out.mono ?_
      rintro e w1 ⟨rfl, h1, k1⟩
      have kb := World.grownBy_alloc w1 (.cells #[.string sv, .int .u64 n] 49) none
      have hb0 : wr.heap[w.heap.size]? = some (.cells #[.string ⟨#[]⟩, .int .u64 0] 49 (0, 0)) := (hG.out.block _ (blk_lt HR.out) (by simp)).trans HR.out
      have hb1 : w1.heap[w.heap.size]? = some (.cells #[.string ⟨#[]⟩, .int .u64 0] 49 (0, 0)) := (k1.block _ (blk_lt hb0) (by have := HLT.out; omega)).trans hb0
      have hb2 := (kb.block _ (blk_lt hb1) (by simp)).trans hb1
      obtain ⟨r0, r1, f0, f1, x0, x1⟩ := res_cells hb2 sv n
      have X0 := Lib.hid x0
      have X1 := Lib.hid x1
      have H2 := Lib.hid (h1.kept kb)
      have O2 := Lib.hid (((Only.of_none (lo := cb) (hi := cb + 1) (KA.out.trans hG.out)).trans k1).trans (Only.of_none kb))
      clear h1 k1 CS hb0 hb1 hb2 kb x0 x1
      go_wp2
      have x0 := X0.out
      have x1 := X1.out
      exact bodyPost_ret (v := .tuple #[.agg #[.string sv, .int .u64 n], .int .i64 1]) (by simp [results, Try.results19, go_sem, x0, x1]) rfl ⟨rfl, (H2.out.above w.heap.size HLT.out 0 _).above w.heap.size HLT.out 1 _, (Only.above (Only.above O2.out (Nat.le_refl _) 0 _) (Nat.le_refl _) 1 _)⟩

set_option maxHeartbeats 4000000 in
theorem either_none (HA : Bx w ba ca na []) (HB : Bx w bb cb nb []) : Calls Try.prog 19 #[.pointer (some ⟨ba, 0, none⟩), .pointer (some ⟨bb, 0, none⟩)] w fun e w' => e = .returned (.tuple #[.agg #[.string ⟨#[]⟩, .int .u64 0], .int .i64 (-1)]) ∧ w.grownBy w' none := by
  have hi0 := idx0 (.pointer (some ⟨ba, 0, none⟩)) (.pointer (some ⟨bb, 0, none⟩))
  have hi1 := idx1 (.pointer (some ⟨ba, 0, none⟩)) (.pointer (some ⟨bb, 0, none⟩))
  have ka := World.grownBy_alloc w (.cells #[.string ⟨#[]⟩, .int .u64 0] 49) none
  have HAA := Lib.hid (HA.kept ka)
  have HBB := Lib.hid (HB.kept ka)
  have HR : Hid ((w.alloc (.cells #[.string ⟨#[]⟩, .int .u64 0] 49)).heap[w.heap.size]? = some (.cells #[.string ⟨#[]⟩, .int .u64 0] 49 (0, 0))) := Lib.hid (heap_alloc_new _ _)
  have KA := Lib.hid ka
  clear HA HB ka
  go_enter Try.func19, Try.ntmps19
  go_wp2_with fail
  generalize w.alloc (.cells #[.string ⟨#[]⟩, .int .u64 0] 49) = w0 at *
  go_loopw [13] (fun it wr => ((it = .int .i64 0 ∨ it = .int .i64 1 ∨ it = .int .i64 2) ∧ Hid (w0.grownBy wr none))) (fun it _ => 2 - (Go.RowKit.intOf it).toNat)
  case atStart => exact ⟨Or.inl rfl, Lib.hid (World.grownBy.refl w0 _)⟩
  case round =>
    obtain ⟨rfl | rfl | rfl, hG⟩ := hrel
    · have CF := Lib.hid (fetch_none (HAA.out.kept hG.out))
      go_wp2_with fail
      refine CF.out.mono ?_
      rintro e w1 ⟨rfl, h, k⟩
      have R := Lib.hid ((hG.out.trans k).trans (World.grownBy_alloc w1 (.cells #[.string ⟨#[]⟩, .int .u64 0] 49) none))
      clear h k CF
      go_wp2
      go_roundw
      case rel => exact ⟨Or.inr (Or.inl rfl), R⟩
      case measure => simp [Go.RowKit.intOf]
    · have CF := Lib.hid (fetch_none (HBB.out.kept hG.out))
      go_wp2_with fail
      refine CF.out.mono ?_
      rintro e w1 ⟨rfl, h, k⟩
      have R := Lib.hid ((hG.out.trans k).trans (World.grownBy_alloc w1 (.cells #[.string ⟨#[]⟩, .int .u64 0] 49) none))
      clear h k CF
      go_wp2
      go_roundw
      case rel => exact ⟨Or.inr (Or.inr rfl), R⟩
      case measure => simp [Go.RowKit.intOf]
    · have kb := World.grownBy_alloc wr (.cells #[.string ⟨#[]⟩, .int .u64 0] 49) none
      have hb0 : wr.heap[w.heap.size]? = some (.cells #[.string ⟨#[]⟩, .int .u64 0] 49 (0, 0)) := (hG.out.block _ (blk_lt HR.out) (by simp)).trans HR.out
      have hb2 := (kb.block _ (blk_lt hb0) (by simp)).trans hb0
      obtain ⟨r0, r1, f0, f1, x0, x1⟩ := res_cells hb2 ⟨#[]⟩ 0
      have X0 := Lib.hid x0
      have X1 := Lib.hid x1
      have G2 := Lib.hid ((KA.out.trans hG.out).trans kb)
      clear hb0 hb2 kb x0 x1
      go_wp2
      have x0 := X0.out
      have x1 := X1.out
      exact bodyPost_ret (v := .tuple #[.agg #[.string ⟨#[]⟩, .int .u64 0], .int .i64 (-1)]) (by simp [results, Try.results19, go_sem, x0, x1]) rfl ⟨rfl, grown_above (grown_above G2.out (Nat.le_refl _) 0 _) (Nat.le_refl _) 1 _⟩
end
end Go.Proofs.Ytijgdlanjhcabaa.BT
