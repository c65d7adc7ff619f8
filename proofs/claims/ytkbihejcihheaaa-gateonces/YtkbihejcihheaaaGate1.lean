/-
  Contracts of package gate, over this seat's translation: how a gate lies in memory; its calls.
-/
import Derived.Test.YtkbihejcihheaaaGateBits
import Derived.BigQuiet
namespace Go.Proofs.Ytkbihejcihheaaa
open Go.RowKit Go.Lib
set_option maxRecDepth 100000
set_option linter.unusedVariables false

/-- What is to be seen of a gate. -/
structure Gt where
  op : Bool
  rd : Int
  lt : Int
  h : Int
  wt : Int
  md : Int
  td : Int
deriving DecidableEq

/-- A gate in block b. -/
structure GAt (w : World) (b : Nat) (g : Gt) : Prop where
  c0 : w.cell? ⟨b, 0, none⟩ = some (.bool g.op)
  c1 : w.cell? ⟨b, 1, none⟩ = some (.int .i64 g.rd)
  c2 : w.cell? ⟨b, 2, none⟩ = some (.int .i64 g.lt)
  c3 : w.cell? ⟨b, 3, none⟩ = some (.int .u64 g.h)
  c4 : w.cell? ⟨b, 4, none⟩ = some (.int .i64 g.wt)
  c5 : w.cell? ⟨b, 5, none⟩ = some (.int .i64 g.md)
  c6 : w.cell? ⟨b, 6, none⟩ = some (.int .i64 g.td)
  fz : ∀ j, w.frozen? ⟨b, j, none⟩ = false
  l : b < w.heap.size
section
variable {w w' : World} {b : Nat} {g : Gt}
theorem GAt.only {lo hi : Nat} (H : GAt w b g) (k : Only lo hi w w') (h1 : b < lo ∨ hi ≤ b) : GAt w' b g :=
  ⟨(k.cell ⟨b, 0, none⟩ H.l h1).trans H.c0, (k.cell ⟨b, 1, none⟩ H.l h1).trans H.c1, (k.cell ⟨b, 2, none⟩ H.l h1).trans H.c2, (k.cell ⟨b, 3, none⟩ H.l h1).trans H.c3, (k.cell ⟨b, 4, none⟩ H.l h1).trans H.c4, (k.cell ⟨b, 5, none⟩ H.l h1).trans H.c5, (k.cell ⟨b, 6, none⟩ H.l h1).trans H.c6, fun j => (k.frozen ⟨b, j, none⟩ H.l h1).trans (H.fz j), Nat.lt_of_lt_of_le H.l k.size⟩
theorem GAt.kept (H : GAt w b g) (k : w.grownBy w' none) : GAt w' b g := H.only (Only.of_none (lo := 0) (hi := 0) k) (Or.inr (Nat.zero_le _))
theorem GAt.drew (H : GAt w b g) : GAt w.drew b g := H.only (Only.drew 0 0 w) (Or.inr (Nat.zero_le _))
theorem set_farG (w : World) (a o b p : Nat) (v : Value) (h : a ≠ b ∨ o ≠ p) : (w.setCell ⟨a, o, none⟩ v).cell? ⟨b, p, none⟩ = w.cell? ⟨b, p, none⟩ :=
  World.cell?_setCell_other w ⟨a, o, none⟩ ⟨b, p, none⟩ v (by simp; omega)
theorem size_setG (w : World) (a : Addr) (v : Value) : (w.setCell a v).heap.size = w.heap.size := by simp [World.setCell]
theorem GAt.setOp (H : GAt w b g) (x : Bool) : GAt (w.setCell ⟨b, 0, none⟩ (.bool x)) b { g with op := x } :=
  ⟨World.cell?_setCell_same _ _ _ H.c0, (set_farG w b 0 b 1 _ (by omega)).trans H.c1, (set_farG w b 0 b 2 _ (by omega)).trans H.c2, (set_farG w b 0 b 3 _ (by omega)).trans H.c3, (set_farG w b 0 b 4 _ (by omega)).trans H.c4, (set_farG w b 0 b 5 _ (by omega)).trans H.c5, (set_farG w b 0 b 6 _ (by omega)).trans H.c6, fun j => (World.frozen?_setCell ..).trans (H.fz j), by rw [size_setG]; exact H.l⟩
theorem GAt.setRd (H : GAt w b g) (x : Int) : GAt (w.setCell ⟨b, 1, none⟩ (.int .i64 x)) b { g with rd := x } :=
  ⟨(set_farG w b 1 b 0 _ (by omega)).trans H.c0, World.cell?_setCell_same _ _ _ H.c1, (set_farG w b 1 b 2 _ (by omega)).trans H.c2, (set_farG w b 1 b 3 _ (by omega)).trans H.c3, (set_farG w b 1 b 4 _ (by omega)).trans H.c4, (set_farG w b 1 b 5 _ (by omega)).trans H.c5, (set_farG w b 1 b 6 _ (by omega)).trans H.c6, fun j => (World.frozen?_setCell ..).trans (H.fz j), by rw [size_setG]; exact H.l⟩
theorem GAt.setLt (H : GAt w b g) (x : Int) : GAt (w.setCell ⟨b, 2, none⟩ (.int .i64 x)) b { g with lt := x } :=
  ⟨(set_farG w b 2 b 0 _ (by omega)).trans H.c0, (set_farG w b 2 b 1 _ (by omega)).trans H.c1, World.cell?_setCell_same _ _ _ H.c2, (set_farG w b 2 b 3 _ (by omega)).trans H.c3, (set_farG w b 2 b 4 _ (by omega)).trans H.c4, (set_farG w b 2 b 5 _ (by omega)).trans H.c5, (set_farG w b 2 b 6 _ (by omega)).trans H.c6, fun j => (World.frozen?_setCell ..).trans (H.fz j), by rw [size_setG]; exact H.l⟩
theorem GAt.setH (H : GAt w b g) (x : Int) : GAt (w.setCell ⟨b, 3, none⟩ (.int .u64 x)) b { g with h := x } :=
  ⟨(set_farG w b 3 b 0 _ (by omega)).trans H.c0, (set_farG w b 3 b 1 _ (by omega)).trans H.c1, (set_farG w b 3 b 2 _ (by omega)).trans H.c2, World.cell?_setCell_same _ _ _ H.c3, (set_farG w b 3 b 4 _ (by omega)).trans H.c4, (set_farG w b 3 b 5 _ (by omega)).trans H.c5, (set_farG w b 3 b 6 _ (by omega)).trans H.c6, fun j => (World.frozen?_setCell ..).trans (H.fz j), by rw [size_setG]; exact H.l⟩
theorem GAt.setWt (H : GAt w b g) (x : Int) : GAt (w.setCell ⟨b, 4, none⟩ (.int .i64 x)) b { g with wt := x } :=
  ⟨(set_farG w b 4 b 0 _ (by omega)).trans H.c0, (set_farG w b 4 b 1 _ (by omega)).trans H.c1, (set_farG w b 4 b 2 _ (by omega)).trans H.c2, (set_farG w b 4 b 3 _ (by omega)).trans H.c3, World.cell?_setCell_same _ _ _ H.c4, (set_farG w b 4 b 5 _ (by omega)).trans H.c5, (set_farG w b 4 b 6 _ (by omega)).trans H.c6, fun j => (World.frozen?_setCell ..).trans (H.fz j), by rw [size_setG]; exact H.l⟩
theorem GAt.setMd (H : GAt w b g) (x : Int) : GAt (w.setCell ⟨b, 5, none⟩ (.int .i64 x)) b { g with md := x } :=
  ⟨(set_farG w b 5 b 0 _ (by omega)).trans H.c0, (set_farG w b 5 b 1 _ (by omega)).trans H.c1, (set_farG w b 5 b 2 _ (by omega)).trans H.c2, (set_farG w b 5 b 3 _ (by omega)).trans H.c3, (set_farG w b 5 b 4 _ (by omega)).trans H.c4, World.cell?_setCell_same _ _ _ H.c5, (set_farG w b 5 b 6 _ (by omega)).trans H.c6, fun j => (World.frozen?_setCell ..).trans (H.fz j), by rw [size_setG]; exact H.l⟩
theorem GAt.setTd (H : GAt w b g) (x : Int) : GAt (w.setCell ⟨b, 6, none⟩ (.int .i64 x)) b { g with td := x } :=
  ⟨(set_farG w b 6 b 0 _ (by omega)).trans H.c0, (set_farG w b 6 b 1 _ (by omega)).trans H.c1, (set_farG w b 6 b 2 _ (by omega)).trans H.c2, (set_farG w b 6 b 3 _ (by omega)).trans H.c3, (set_farG w b 6 b 4 _ (by omega)).trans H.c4, (set_farG w b 6 b 5 _ (by omega)).trans H.c5, World.cell?_setCell_same _ _ _ H.c6, fun j => (World.frozen?_setCell ..).trans (H.fz j), by rw [size_setG]; exact H.l⟩
theorem bne_decide (x : Int) : (x != 0) = decide (x ≠ 0) := by by_cases h : x = 0 <;> simp [h]
theorem Only.one (w : World) (b o : Nat) (v : Value) : Only b (b + 1) w (w.setCell ⟨b, o, none⟩ v) := Only.set w ⟨b, o, none⟩ v (Nat.le_refl _) (Nat.lt_succ_self _)

theorem gopen_no (H : GAt w b g) (ho : g.op = true) : Calls Try.prog 9 #[.pointer (some ⟨b, 0, none⟩)] w fun e w' => e = .returned (.bool false) ∧ w = w' := by
  have c0 := H.c0
  rw [ho] at c0
  clear H
  go_enter Try.func9, Try.ntmps9
  go_wp2
  go_ret
  exact ⟨rfl, rfl⟩

theorem gopen_ok (H : GAt w b g) (ho : g.op = false) : Calls Try.prog 9 #[.pointer (some ⟨b, 0, none⟩)] w fun e w' => e = .returned (.bool true) ∧ GAt w' b ⟨true, 0, 0, 0, 0, 0, 0⟩ ∧ Only b (b + 1) w w' := by
  obtain ⟨c0, c1, c2, c3, c4, c5, c6, fz, l⟩ := id H
  have HH := Lib.hid H
  rw [ho] at c0
  have f0 := fz 0; have f1 := fz 1; have f2 := fz 2; have f3 := fz 3; have f4 := fz 4; have f5 := fz 5; have f6 := fz 6
  clear H fz
  go_enter Try.func9, Try.ntmps9
  go_wp2
  go_ret
  exact ⟨rfl, ((((((HH.out.setOp true).setRd 0).setLt 0).setH 0).setWt 0).setMd 0).setTd 0, ((((((Only.one ..).trans (Only.one ..)).trans (Only.one ..)).trans (Only.one ..)).trans (Only.one ..)).trans (Only.one ..)).trans (Only.one ..)⟩

set_option maxHeartbeats 1000000 in
theorem gclose_any (H : GAt w b g) : Calls Try.prog 19 #[.pointer (some ⟨b, 0, none⟩)] w fun e w' => e = .returned (.bool g.op) ∧ GAt w' b ⟨false, 0, 0, 0, 0, 0, 0⟩ ∧ Only b (b + 1) w w' := by
  obtain ⟨c0, c1, c2, c3, c4, c5, c6, fz, l⟩ := id H
  have HH := Lib.hid H
  have f0 := fz 0; have f1 := fz 1; have f2 := fz 2; have f3 := fz 3; have f4 := fz 4; have f5 := fz 5; have f6 := fz 6
  clear H fz
  go_enter Try.func19, Try.ntmps19
  go_wp2
  go_ret
  exact ⟨rfl, ((((((HH.out.setOp false).setRd 0).setLt 0).setH 0).setWt 0).setMd 0).setTd 0, ((((((Only.one ..).trans (Only.one ..)).trans (Only.one ..)).trans (Only.one ..)).trans (Only.one ..)).trans (Only.one ..)).trans (Only.one ..)⟩

set_option maxHeartbeats 1000000 in
theorem gkeep_on (H : GAt w b g) (m : Int) (ho : g.op = true) : Calls Try.prog 15 #[.pointer (some ⟨b, 0, none⟩), .int .i64 m] w fun e w' => e = .returned (.tuple #[]) ∧ GAt w' b { g with lt := bits .or .i64 g.lt (bits .and .i64 m 7) } ∧ Only b (b + 1) w w' := by
  obtain ⟨c0, c1, c2, c3, c4, c5, c6, fz, l⟩ := id H
  have HH := Lib.hid H
  rw [ho] at c0
  have f0 := fz 0; have f1 := fz 1; have f2 := fz 2; have f3 := fz 3; have f4 := fz 4; have f5 := fz 5; have f6 := fz 6
  clear H fz
  go_enter Try.func15, Try.ntmps15
  go_wp2
  go_end0
  exact ⟨rfl, HH.out.setLt _, Only.one ..⟩

set_option maxHeartbeats 1000000 in
theorem gkeep_off (H : GAt w b g) (m : Int) (ho : g.op = false) : Calls Try.prog 15 #[.pointer (some ⟨b, 0, none⟩), .int .i64 m] w fun e w' => e = .returned (.tuple #[]) ∧ w = w' := by
  obtain ⟨c0, c1, c2, c3, c4, c5, c6, fz, l⟩ := id H
  have HH := Lib.hid H
  rw [ho] at c0
  have f0 := fz 0; have f1 := fz 1; have f2 := fz 2; have f3 := fz 3; have f4 := fz 4; have f5 := fz 5; have f6 := fz 6
  clear H fz
  go_enter Try.func15, Try.ntmps15
  go_wp2
  go_end0
  exact ⟨rfl, rfl⟩

set_option maxHeartbeats 1000000 in
theorem gmeet_on (H : GAt w b g) (m : Int) (ho : g.op = true) : Calls Try.prog 11 #[.pointer (some ⟨b, 0, none⟩), .int .i64 m] w fun e w' => e = .returned (.tuple #[]) ∧ GAt w' b { g with rd := bits .or .i64 g.rd (bits .and .i64 m 7), td := bits .or .i64 g.td (bits .and .i64 m g.wt) } ∧ Only b (b + 1) w w' := by
  obtain ⟨c0, c1, c2, c3, c4, c5, c6, fz, l⟩ := id H
  have HH := Lib.hid H
  rw [ho] at c0
  have f0 := fz 0; have f1 := fz 1; have f2 := fz 2; have f3 := fz 3; have f4 := fz 4; have f5 := fz 5; have f6 := fz 6
  clear H fz
  go_enter Try.func11, Try.ntmps11
  go_wp2_with fail
  have H1 := HH.out.setRd (bits .or .i64 g.rd (bits .and .i64 m 7))
  have O1 := Lib.hid (Only.one w b 1 (.int .i64 (bits .or .i64 g.rd (bits .and .i64 m 7))))
  have H2 := H1.drew
  have O2 := Lib.hid (O1.out.trans (Only.drew b (b + 1) _))
  clear c0 c1 c2 c3 c4 c5 c6 f0 f1 f2 f3 f4 f5 f6 H1 O1 HH l
  generalize hx : bits .or .i64 g.rd (bits .and .i64 m 7) = x at H2 O2 ⊢
  have HX := Lib.hid hx
  clear hx
  generalize w.setCell ⟨b, 1, none⟩ (.int .i64 x) = w1 at *
  refine wp_region_still_tail 16 (by kernel_rfl) (by kernel_rfl) ?_
  simp only [List.take_succ_cons, List.take_zero, List.drop_succ_cons, List.drop_zero]
  change wpStill _ _ w1.drew (fun a' => wpList _ _ _ _ a' w1.drew) _ _
  generalize w1.drew = w2 at *
  obtain ⟨c0, c1, c2, c3, c4, c5, c6, fz, l⟩ := id H2
  have HH2 := Lib.hid H2
  have f6 := fz 6
  clear H2 fz
  simp only at c0 c1 c2 c3 c4 c5 c6
  repeat still_step
  refine wpStill_nil ?_
  go_wp2
  go_end0
  exact ⟨rfl, by rw [HX.out]; exact HH2.out.setTd _, O2.out.trans (Only.one ..)⟩

set_option maxHeartbeats 1000000 in
theorem gmeet_off (H : GAt w b g) (m : Int) (ho : g.op = false) : Calls Try.prog 11 #[.pointer (some ⟨b, 0, none⟩), .int .i64 m] w fun e w' => e = .returned (.tuple #[]) ∧ w = w' := by
  obtain ⟨c0, c1, c2, c3, c4, c5, c6, fz, l⟩ := id H
  have HH := Lib.hid H
  rw [ho] at c0
  have f0 := fz 0; have f1 := fz 1; have f2 := fz 2; have f3 := fz 3; have f4 := fz 4; have f5 := fz 5; have f6 := fz 6
  clear H fz
  go_enter Try.func11, Try.ntmps11
  go_wp2
  go_end0
  exact ⟨rfl, rfl⟩

set_option maxHeartbeats 1000000 in
theorem gack_any (H : GAt w b g) (m : Int) : Calls Try.prog 13 #[.pointer (some ⟨b, 0, none⟩), .int .i64 m] w fun e w' => e = .returned (.int .i64 (bits .and .i64 g.rd m)) ∧ GAt w' b { g with rd := bits .andNot .i64 g.rd m } ∧ Only b (b + 1) w w' := by
  obtain ⟨c0, c1, c2, c3, c4, c5, c6, fz, l⟩ := id H
  have HH := Lib.hid H
  have f0 := fz 0; have f1 := fz 1; have f2 := fz 2; have f3 := fz 3; have f4 := fz 4; have f5 := fz 5; have f6 := fz 6
  clear H fz
  go_enter Try.func13, Try.ntmps13
  go_wp2
  go_ret
  exact ⟨rfl, HH.out.setRd _, Only.one ..⟩

set_option maxHeartbeats 1000000 in
theorem gwants_any (H : GAt w b g) : Calls Try.prog 17 #[.pointer (some ⟨b, 0, none⟩)] w fun e w' => e = .returned (.bool (decide (g.td ≠ 0))) ∧ w = w' := by
  obtain ⟨c0, c1, c2, c3, c4, c5, c6, fz, l⟩ := id H
  have HH := Lib.hid H
  have f0 := fz 0; have f1 := fz 1; have f2 := fz 2; have f3 := fz 3; have f4 := fz 4; have f5 := fz 5; have f6 := fz 6
  clear H fz
  go_enter Try.func17, Try.ntmps17
  go_wp2
  go_ret
  exact ⟨by rw [← bne_decide]; rfl, rfl⟩

set_option maxHeartbeats 1000000 in
theorem glook_any (H : GAt w b g) : Calls Try.prog 14 #[.pointer (some ⟨b, 0, none⟩)] w fun e w' => e = .returned (.agg #[.bool g.op, .int .i64 g.rd, .int .i64 g.lt, .int .u64 g.h, .int .i64 g.wt, .int .i64 g.md, .int .i64 g.td]) ∧ w.grownBy w' none := by
  obtain ⟨c0, c1, c2, c3, c4, c5, c6, fz, l⟩ := id H
  have HH := Lib.hid H
  have f0 := fz 0; have f1 := fz 1; have f2 := fz 2; have f3 := fz 3; have f4 := fz 4; have f5 := fz 5; have f6 := fz 6
  clear H fz
  go_enter Try.func14, Try.ntmps14
  go_wp2
  exact bodyPost_ret (v := .agg #[.bool g.op, .int .i64 g.rd, .int .i64 g.lt, .int .u64 g.h, .int .i64 g.wt, .int .i64 g.md, .int .i64 g.td]) (by simp [results, Try.results14, go_sem]) rfl ⟨rfl, World.grownBy_alloc ..⟩

set_option maxHeartbeats 1000000 in
theorem gwatch_any (H : GAt w b g) (h x m : Int) : Calls Try.prog 20 #[.pointer (some ⟨b, 0, none⟩), .int .u64 h, .int .i64 x, .int .i64 m] w fun e w' => e = .returned (.tuple #[]) ∧ GAt w' b { g with h := h, wt := x, md := m, td := bits .and .i64 g.rd x } ∧ Only b (b + 1) w w' := by
  obtain ⟨c0, c1, c2, c3, c4, c5, c6, fz, l⟩ := id H
  have HH := Lib.hid H
  have f0 := fz 0; have f1 := fz 1; have f2 := fz 2; have f3 := fz 3; have f4 := fz 4; have f5 := fz 5; have f6 := fz 6
  clear H fz
  go_enter Try.func20, Try.ntmps20
  go_wp2
  go_end0
  exact ⟨rfl, (((HH.out.setH _).setWt _).setMd _).setTd _, (((Only.one ..).trans (Only.one ..)).trans (Only.one ..)).trans (Only.one ..)⟩

end
end Go.Proofs.Ytkbihejcihheaaa
