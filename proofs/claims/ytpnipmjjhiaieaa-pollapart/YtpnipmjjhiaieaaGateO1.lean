/-
  Contracts of package gate, over this seat's translation: how a gate lies in memory; its calls.
-/
import Derived.Test.YtpnipmjjhiaieaaGateBits
import Derived.BigQuiet
namespace Go.Proofs.Ytpnipmjjhiaieaa
open Go.RowKit Go.Lib
set_option maxRecDepth 100000
set_option linter.unusedVariables false

/-- What is to be seen of a gate. -/
structure Gt where
  op : Bool
  rd : Int
  lt : Int
  h : Int
  wt : Int
  md : Int
  td : Int
deriving DecidableEq

/-- A gate in block b. -/
structure GAt (w : World) (b oo : Nat) (g : Gt) : Prop where
  c0 : w.cell? ⟨b, oo, none⟩ = some (.bool g.op)
  c1 : w.cell? ⟨b, oo + 1, none⟩ = some (.int .i64 g.rd)
  c2 : w.cell? ⟨b, oo + 2, none⟩ = some (.int .i64 g.lt)
  c3 : w.cell? ⟨b, oo + 3, none⟩ = some (.int .u64 g.h)
  c4 : w.cell? ⟨b, oo + 4, none⟩ = some (.int .i64 g.wt)
  c5 : w.cell? ⟨b, oo + 5, none⟩ = some (.int .i64 g.md)
  c6 : w.cell? ⟨b, oo + 6, none⟩ = some (.int .i64 g.td)
  fz : ∀ j, w.frozen? ⟨b, j, none⟩ = false
  l : b < w.heap.size
section
variable {w w' : World} {b oo : Nat} {g : Gt}
theorem GAt.only {lo hi : Nat} (H : GAt w b oo g) (k : Only lo hi w w') (h1 : b < lo ∨ hi ≤ b) : GAt w' b oo g :=
  ⟨(k.cell ⟨b, oo, none⟩ H.l h1).trans H.c0, (k.cell ⟨b, oo + 1, none⟩ H.l h1).trans H.c1, (k.cell ⟨b, oo + 2, none⟩ H.l h1).trans H.c2, (k.cell ⟨b, oo + 3, none⟩ H.l h1).trans H.c3, (k.cell ⟨b, oo + 4, none⟩ H.l h1).trans H.c4, (k.cell ⟨b, oo + 5, none⟩ H.l h1).trans H.c5, (k.cell ⟨b, oo + 6, none⟩ H.l h1).trans H.c6, fun j => (k.frozen ⟨b, j, none⟩ H.l h1).trans (H.fz j), Nat.lt_of_lt_of_le H.l k.size⟩
theorem GAt.kept (H : GAt w b oo g) (k : w.grownBy w' none) : GAt w' b oo g := H.only (Only.of_none (lo := 0) (hi := 0) k) (Or.inr (Nat.zero_le _))
theorem GAt.drew (H : GAt w b oo g) : GAt w.drew b oo g := H.only (Only.drew 0 0 w) (Or.inr (Nat.zero_le _))
theorem set_farG (w : World) (a o b p : Nat) (v : Value) (h : a ≠ b ∨ o ≠ p) : (w.setCell ⟨a, o, none⟩ v).cell? ⟨b, p, none⟩ = w.cell? ⟨b, p, none⟩ :=
  World.cell?_setCell_other w ⟨a, o, none⟩ ⟨b, p, none⟩ v (by simp; omega)
theorem size_setG (w : World) (a : Addr) (v : Value) : (w.setCell a v).heap.size = w.heap.size := by simp [World.setCell]
theorem GAt.setOp (H : GAt w b oo g) (x : Bool) : GAt (w.setCell ⟨b, oo, none⟩ (.bool x)) b oo { g with op := x } :=
  ⟨World.cell?_setCell_same _ _ _ H.c0, (set_farG w b oo b (oo + 1) _ (by omega)).trans H.c1, (set_farG w b oo b (oo + 2) _ (by omega)).trans H.c2, (set_farG w b oo b (oo + 3) _ (by omega)).trans H.c3, (set_farG w b oo b (oo + 4) _ (by omega)).trans H.c4, (set_farG w b oo b (oo + 5) _ (by omega)).trans H.c5, (set_farG w b oo b (oo + 6) _ (by omega)).trans H.c6, fun j => (World.frozen?_setCell ..).trans (H.fz j), by rw [size_setG]; exact H.l⟩
theorem GAt.setRd (H : GAt w b oo g) (x : Int) : GAt (w.setCell ⟨b, oo + 1, none⟩ (.int .i64 x)) b oo { g with rd := x } :=
  ⟨(set_farG w b (oo + 1) b oo _ (by omega)).trans H.c0, World.cell?_setCell_same _ _ _ H.c1, (set_farG w b (oo + 1) b (oo + 2) _ (by omega)).trans H.c2, (set_farG w b (oo + 1) b (oo + 3) _ (by omega)).trans H.c3, (set_farG w b (oo + 1) b (oo + 4) _ (by omega)).trans H.c4, (set_farG w b (oo + 1) b (oo + 5) _ (by omega)).trans H.c5, (set_farG w b (oo + 1) b (oo + 6) _ (by omega)).trans H.c6, fun j => (World.frozen?_setCell ..).trans (H.fz j), by rw [size_setG]; exact H.l⟩
theorem GAt.setLt (H : GAt w b oo g) (x : Int) : GAt (w.setCell ⟨b, oo + 2, none⟩ (.int .i64 x)) b oo { g with lt := x } :=
  ⟨(set_farG w b (oo + 2) b oo _ (by omega)).trans H.c0, (set_farG w b (oo + 2) b (oo + 1) _ (by omega)).trans H.c1, World.cell?_setCell_same _ _ _ H.c2, (set_farG w b (oo + 2) b (oo + 3) _ (by omega)).trans H.c3, (set_farG w b (oo + 2) b (oo + 4) _ (by omega)).trans H.c4, (set_farG w b (oo + 2) b (oo + 5) _ (by omega)).trans H.c5, (set_farG w b (oo + 2) b (oo + 6) _ (by omega)).trans H.c6, fun j => (World.frozen?_setCell ..).trans (H.fz j), by rw [size_setG]; exact H.l⟩
theorem GAt.setH (H : GAt w b oo g) (x : Int) : GAt (w.setCell ⟨b, oo + 3, none⟩ (.int .u64 x)) b oo { g with h := x } :=
  ⟨(set_farG w b (oo + 3) b oo _ (by omega)).trans H.c0, (set_farG w b (oo + 3) b (oo + 1) _ (by omega)).trans H.c1, (set_farG w b (oo + 3) b (oo + 2) _ (by omega)).trans H.c2, World.cell?_setCell_same _ _ _ H.c3, (set_farG w b (oo + 3) b (oo + 4) _ (by omega)).trans H.c4, (set_farG w b (oo + 3) b (oo + 5) _ (by omega)).trans H.c5, (set_farG w b (oo + 3) b (oo + 6) _ (by omega)).trans H.c6, fun j => (World.frozen?_setCell ..).trans (H.fz j), by rw [size_setG]; exact H.l⟩
theorem GAt.setWt (H : GAt w b oo g) (x : Int) : GAt (w.setCell ⟨b, oo + 4, none⟩ (.int .i64 x)) b oo { g with wt := x } :=
  ⟨(set_farG w b (oo + 4) b oo _ (by omega)).trans H.c0, (set_farG w b (oo + 4) b (oo + 1) _ (by omega)).trans H.c1, (set_farG w b (oo + 4) b (oo + 2) _ (by omega)).trans H.c2, (set_farG w b (oo + 4) b (oo + 3) _ (by omega)).trans H.c3, World.cell?_setCell_same _ _ _ H.c4, (set_farG w b (oo + 4) b (oo + 5) _ (by omega)).trans H.c5, (set_farG w b (oo + 4) b (oo + 6) _ (by omega)).trans H.c6, fun j => (World.frozen?_setCell ..).trans (H.fz j), by rw [size_setG]; exact H.l⟩
theorem GAt.setMd (H : GAt w b oo g) (x : Int) : GAt (w.setCell ⟨b, oo + 5, none⟩ (.int .i64 x)) b oo { g with md := x } :=
  ⟨(set_farG w b (oo + 5) b oo _ (by omega)).trans H.c0, (set_farG w b (oo + 5) b (oo + 1) _ (by omega)).trans H.c1, (set_farG w b (oo + 5) b (oo + 2) _ (by omega)).trans H.c2, (set_farG w b (oo + 5) b (oo + 3) _ (by omega)).trans H.c3, (set_farG w b (oo + 5) b (oo + 4) _ (by omega)).trans H.c4, World.cell?_setCell_same _ _ _ H.c5, (set_farG w b (oo + 5) b (oo + 6) _ (by omega)).trans H.c6, fun j => (World.frozen?_setCell ..).trans (H.fz j), by rw [size_setG]; exact H.l⟩
theorem GAt.setTd (H : GAt w b oo g) (x : Int) : GAt (w.setCell ⟨b, oo + 6, none⟩ (.int .i64 x)) b oo { g with td := x } :=
  ⟨(set_farG w b (oo + 6) b oo _ (by omega)).trans H.c0, (set_farG w b (oo + 6) b (oo + 1) _ (by omega)).trans H.c1, (set_farG w b (oo + 6) b (oo + 2) _ (by omega)).trans H.c2, (set_farG w b (oo + 6) b (oo + 3) _ (by omega)).trans H.c3, (set_farG w b (oo + 6) b (oo + 4) _ (by omega)).trans H.c4, (set_farG w b (oo + 6) b (oo + 5) _ (by omega)).trans H.c5, World.cell?_setCell_same _ _ _ H.c6, fun j => (World.frozen?_setCell ..).trans (H.fz j), by rw [size_setG]; exact H.l⟩
theorem bne_decide (x : Int) : (x != 0) = decide (x ≠ 0) := by by_cases h : x = 0 <;> simp [h]

/-- What turned between two worlds: no more than the seven cells from o on of block b. -/
structure OnlyG (b o : Nat) (w w' : World) : Prop where
  k : Only b (b + 1) w w'
  far : ∀ j, j < o ∨ o + 7 ≤ j → w'.cell? ⟨b, j, none⟩ = w.cell? ⟨b, j, none⟩
  ty : ∀ a T, w.heap[b]? = some (.cells a T (0, 0)) → ∃ a', w'.heap[b]? = some (.cells a' T (0, 0))
theorem OnlyG.one (w : World) (b o p : Nat) (v : Value) (h : o ≤ p ∧ p < o + 7) : OnlyG b o w (w.setCell ⟨b, p, none⟩ v) :=
  ⟨Only.set w ⟨b, p, none⟩ v (Nat.le_refl _) (Nat.lt_succ_self _), fun j hj => set_farG w b p b j v (by omega), fun a T e => ⟨a.setIfInBounds p v, by simp only [World.setCell]; rw [Array.getElem?_modify, e]; simp⟩⟩
theorem OnlyG.refl (b o : Nat) (w : World) : OnlyG b o w w := ⟨Only.refl .., fun _ _ => rfl, fun a T e => ⟨a, e⟩⟩
theorem OnlyG.drew (b o : Nat) (w : World) : OnlyG b o w w.drew := ⟨Only.drew .., fun _ _ => rfl, fun a T e => ⟨a, e⟩⟩
theorem OnlyG.trans {x y z : World} {b o : Nat} (h : OnlyG b o x y) (k : OnlyG b o y z) : OnlyG b o x z :=
  ⟨h.k.trans k.k, fun j hj => (k.far j hj).trans (h.far j hj), fun a T e => by obtain ⟨a', e'⟩ := h.ty a T e; exact k.ty a' T e'⟩
theorem OnlyG.grew {x y : World} {b o : Nat} (h : x.grownBy y none) (hb : b < x.heap.size) : OnlyG b o x y :=
  ⟨Only.of_none h, fun j _ => h.cell_far ⟨b, j, none⟩ hb (by simp), fun a T e => ⟨a, (h.block _ hb (by simp)).trans e⟩⟩
/-- Another gate of the row. -/
theorem GAt.far {o' : Nat} (H : GAt w b oo g) (k : OnlyG b o' w w') (h : oo + 7 ≤ o' ∨ o' + 7 ≤ oo) (hf : ∀ j, w'.frozen? ⟨b, j, none⟩ = false) : GAt w' b oo g :=
  ⟨(k.far _ (by omega)).trans H.c0, (k.far _ (by omega)).trans H.c1, (k.far _ (by omega)).trans H.c2, (k.far _ (by omega)).trans H.c3, (k.far _ (by omega)).trans H.c4, (k.far _ (by omega)).trans H.c5, (k.far _ (by omega)).trans H.c6, hf, Nat.lt_of_lt_of_le H.l k.k.size⟩

theorem gopen_no (H : GAt w b oo g) (ho : g.op = true) : Calls Try.prog 28 #[.pointer (some ⟨b, oo, none⟩)] w fun e w' => e = .returned (.bool false) ∧ w = w' := by
  have c0 := H.c0
  rw [ho] at c0
  clear H
  go_enter Try.func28, Try.ntmps28
  go_wp2
  go_ret
  exact ⟨rfl, rfl⟩

theorem gopen_ok (H : GAt w b oo g) (ho : g.op = false) : Calls Try.prog 28 #[.pointer (some ⟨b, oo, none⟩)] w fun e w' => e = .returned (.bool true) ∧ GAt w' b oo ⟨true, 0, 0, 0, 0, 0, 0⟩ ∧ OnlyG b oo w w' := by
  obtain ⟨c0, c1, c2, c3, c4, c5, c6, fz, l⟩ := id H
  have HH := Lib.hid H
  rw [ho] at c0
  have f0 := fz oo; have f1 := fz (oo + 1); have f2 := fz (oo + 2); have f3 := fz (oo + 3); have f4 := fz (oo + 4); have f5 := fz (oo + 5); have f6 := fz (oo + 6)
  clear H fz
  go_enter Try.func28, Try.ntmps28
  go_wp2
  go_ret
  exact ⟨rfl, ((((((HH.out.setOp true).setRd 0).setLt 0).setH 0).setWt 0).setMd 0).setTd 0, ((((((OnlyG.one _ _ _ _ _ (by omega)).trans (OnlyG.one _ _ _ _ _ (by omega))).trans (OnlyG.one _ _ _ _ _ (by omega))).trans (OnlyG.one _ _ _ _ _ (by omega))).trans (OnlyG.one _ _ _ _ _ (by omega))).trans (OnlyG.one _ _ _ _ _ (by omega))).trans (OnlyG.one _ _ _ _ _ (by omega))⟩

set_option maxHeartbeats 1000000 in
theorem gclose_any (H : GAt w b oo g) : Calls Try.prog 29 #[.pointer (some ⟨b, oo, none⟩)] w fun e w' => e = .returned (.bool g.op) ∧ GAt w' b oo ⟨false, 0, 0, 0, 0, 0, 0⟩ ∧ OnlyG b oo w w' := by
  obtain ⟨c0, c1, c2, c3, c4, c5, c6, fz, l⟩ := id H
  have HH := Lib.hid H
  have f0 := fz oo; have f1 := fz (oo + 1); have f2 := fz (oo + 2); have f3 := fz (oo + 3); have f4 := fz (oo + 4); have f5 := fz (oo + 5); have f6 := fz (oo + 6)
  clear H fz
  go_enter Try.func29, Try.ntmps29
  go_wp2
  go_ret
  exact ⟨rfl, ((((((HH.out.setOp false).setRd 0).setLt 0).setH 0).setWt 0).setMd 0).setTd 0, ((((((OnlyG.one _ _ _ _ _ (by omega)).trans (OnlyG.one _ _ _ _ _ (by omega))).trans (OnlyG.one _ _ _ _ _ (by omega))).trans (OnlyG.one _ _ _ _ _ (by omega))).trans (OnlyG.one _ _ _ _ _ (by omega))).trans (OnlyG.one _ _ _ _ _ (by omega))).trans (OnlyG.one _ _ _ _ _ (by omega))⟩

set_option maxHeartbeats 1000000 in
theorem gkeep_on (H : GAt w b oo g) (m : Int) (ho : g.op = true) : Calls Try.prog 36 #[.pointer (some ⟨b, oo, none⟩), .int .i64 m] w fun e w' => e = .returned (.tuple #[]) ∧ GAt w' b oo { g with lt := bits .or .i64 g.lt (bits .and .i64 m 7) } ∧ OnlyG b oo w w' := by
  obtain ⟨c0, c1, c2, c3, c4, c5, c6, fz, l⟩ := id H
  have HH := Lib.hid H
  rw [ho] at c0
  have f0 := fz oo; have f1 := fz (oo + 1); have f2 := fz (oo + 2); have f3 := fz (oo + 3); have f4 := fz (oo + 4); have f5 := fz (oo + 5); have f6 := fz (oo + 6)
  clear H fz
  go_enter Try.func36, Try.ntmps36
  go_wp2
  go_end0
  exact ⟨rfl, HH.out.setLt _, OnlyG.one _ _ _ _ _ (by omega)⟩

set_option maxHeartbeats 1000000 in
theorem gkeep_off (H : GAt w b oo g) (m : Int) (ho : g.op = false) : Calls Try.prog 36 #[.pointer (some ⟨b, oo, none⟩), .int .i64 m] w fun e w' => e = .returned (.tuple #[]) ∧ w = w' := by
  obtain ⟨c0, c1, c2, c3, c4, c5, c6, fz, l⟩ := id H
  have HH := Lib.hid H
  rw [ho] at c0
  have f0 := fz oo; have f1 := fz (oo + 1); have f2 := fz (oo + 2); have f3 := fz (oo + 3); have f4 := fz (oo + 4); have f5 := fz (oo + 5); have f6 := fz (oo + 6)
  clear H fz
  go_enter Try.func36, Try.ntmps36
  go_wp2
  go_end0
  exact ⟨rfl, rfl⟩

set_option maxHeartbeats 1000000 in
theorem gmeet_on (H : GAt w b oo g) (m : Int) (ho : g.op = true) : Calls Try.prog 39 #[.pointer (some ⟨b, oo, none⟩), .int .i64 m] w fun e w' => e = .returned (.tuple #[]) ∧ GAt w' b oo { g with rd := bits .or .i64 g.rd (bits .and .i64 m 7), td := bits .or .i64 g.td (bits .and .i64 m g.wt) } ∧ OnlyG b oo w w' := by
  obtain ⟨c0, c1, c2, c3, c4, c5, c6, fz, l⟩ := id H
  have HH := Lib.hid H
  rw [ho] at c0
  have f0 := fz oo; have f1 := fz (oo + 1); have f2 := fz (oo + 2); have f3 := fz (oo + 3); have f4 := fz (oo + 4); have f5 := fz (oo + 5); have f6 := fz (oo + 6)
  clear H fz
  go_enter Try.func39, Try.ntmps39
  go_wp2_with fail
  have H1 := HH.out.setRd (bits .or .i64 g.rd (bits .and .i64 m 7))
  have O1 := Lib.hid (OnlyG.one w b oo (oo + 1) (.int .i64 (bits .or .i64 g.rd (bits .and .i64 m 7))) (by omega))
  have H2 := H1.drew
  have O2 := Lib.hid (O1.out.trans (OnlyG.drew b oo _))
  clear c0 c1 c2 c3 c4 c5 c6 f0 f1 f2 f3 f4 f5 f6 H1 O1 HH l
  generalize hx : bits .or .i64 g.rd (bits .and .i64 m 7) = x at H2 O2 ⊢
  have HX := Lib.hid hx
  clear hx
  generalize w.setCell ⟨b, oo + 1, none⟩ (.int .i64 x) = w1 at *
  refine wp_region_still_tail 16 (by kernel_rfl) (by kernel_rfl) ?_
  simp only [List.take_succ_cons, List.take_zero, List.drop_succ_cons, List.drop_zero]
  change wpStill _ _ w1.drew (fun a' => wpList _ _ _ _ a' w1.drew) _ _
  generalize w1.drew = w2 at *
  obtain ⟨c0, c1, c2, c3, c4, c5, c6, fz, l⟩ := id H2
  have HH2 := Lib.hid H2
  have f6 := fz (oo + 6)
  clear H2 fz
  simp only at c0 c1 c2 c3 c4 c5 c6
  repeat still_step
  refine wpStill_nil ?_
  go_wp2
  go_end0
  exact ⟨rfl, by rw [HX.out]; exact HH2.out.setTd _, O2.out.trans (OnlyG.one _ _ _ _ _ (by omega))⟩

set_option maxHeartbeats 1000000 in
theorem gmeet_off (H : GAt w b oo g) (m : Int) (ho : g.op = false) : Calls Try.prog 39 #[.pointer (some ⟨b, oo, none⟩), .int .i64 m] w fun e w' => e = .returned (.tuple #[]) ∧ w = w' := by
  obtain ⟨c0, c1, c2, c3, c4, c5, c6, fz, l⟩ := id H
  have HH := Lib.hid H
  rw [ho] at c0
  have f0 := fz oo; have f1 := fz (oo + 1); have f2 := fz (oo + 2); have f3 := fz (oo + 3); have f4 := fz (oo + 4); have f5 := fz (oo + 5); have f6 := fz (oo + 6)
  clear H fz
  go_enter Try.func39, Try.ntmps39
  go_wp2
  go_end0
  exact ⟨rfl, rfl⟩

set_option maxHeartbeats 1000000 in
theorem gack_any (H : GAt w b oo g) (m : Int) : Calls Try.prog 49 #[.pointer (some ⟨b, oo, none⟩), .int .i64 m] w fun e w' => e = .returned (.int .i64 (bits .and .i64 g.rd m)) ∧ GAt w' b oo { g with rd := bits .andNot .i64 g.rd m } ∧ OnlyG b oo w w' := by
  obtain ⟨c0, c1, c2, c3, c4, c5, c6, fz, l⟩ := id H
  have HH := Lib.hid H
  have f0 := fz oo; have f1 := fz (oo + 1); have f2 := fz (oo + 2); have f3 := fz (oo + 3); have f4 := fz (oo + 4); have f5 := fz (oo + 5); have f6 := fz (oo + 6)
  clear H fz
  go_enter Try.func49, Try.ntmps49
  go_wp2
  go_ret
  exact ⟨rfl, HH.out.setRd _, OnlyG.one _ _ _ _ _ (by omega)⟩

set_option maxHeartbeats 1000000 in
theorem gwants_any (H : GAt w b oo g) : Calls Try.prog 60 #[.pointer (some ⟨b, oo, none⟩)] w fun e w' => e = .returned (.bool (decide (g.td ≠ 0))) ∧ w = w' := by
  obtain ⟨c0, c1, c2, c3, c4, c5, c6, fz, l⟩ := id H
  have HH := Lib.hid H
  have f0 := fz oo; have f1 := fz (oo + 1); have f2 := fz (oo + 2); have f3 := fz (oo + 3); have f4 := fz (oo + 4); have f5 := fz (oo + 5); have f6 := fz (oo + 6)
  clear H fz
  go_enter Try.func60, Try.ntmps60
  go_wp2
  go_ret
  exact ⟨by rw [← bne_decide]; rfl, rfl⟩

set_option maxHeartbeats 1000000 in
theorem glook_any (H : GAt w b oo g) : Calls Try.prog 42 #[.pointer (some ⟨b, oo, none⟩)] w fun e w' => e = .returned (.agg #[.bool g.op, .int .i64 g.rd, .int .i64 g.lt, .int .u64 g.h, .int .i64 g.wt, .int .i64 g.md, .int .i64 g.td]) ∧ w.grownBy w' none := by
  obtain ⟨c0, c1, c2, c3, c4, c5, c6, fz, l⟩ := id H
  have HH := Lib.hid H
  have f0 := fz oo; have f1 := fz (oo + 1); have f2 := fz (oo + 2); have f3 := fz (oo + 3); have f4 := fz (oo + 4); have f5 := fz (oo + 5); have f6 := fz (oo + 6)
  clear H fz
  go_enter Try.func42, Try.ntmps42
  go_wp2
  exact bodyPost_ret (v := .agg #[.bool g.op, .int .i64 g.rd, .int .i64 g.lt, .int .u64 g.h, .int .i64 g.wt, .int .i64 g.md, .int .i64 g.td]) (by simp [results, Try.results42, go_sem]) rfl ⟨rfl, World.grownBy_alloc ..⟩

set_option maxHeartbeats 1000000 in
theorem gwatch_any (H : GAt w b oo g) (h x m : Int) : Calls Try.prog 62 #[.pointer (some ⟨b, oo, none⟩), .int .u64 h, .int .i64 x, .int .i64 m] w fun e w' => e = .returned (.tuple #[]) ∧ GAt w' b oo { g with h := h, wt := x, md := m, td := bits .and .i64 g.rd x } ∧ OnlyG b oo w w' := by
  obtain ⟨c0, c1, c2, c3, c4, c5, c6, fz, l⟩ := id H
  have HH := Lib.hid H
  have f0 := fz oo; have f1 := fz (oo + 1); have f2 := fz (oo + 2); have f3 := fz (oo + 3); have f4 := fz (oo + 4); have f5 := fz (oo + 5); have f6 := fz (oo + 6)
  clear H fz
  go_enter Try.func62, Try.ntmps62
  go_wp2
  go_end0
  exact ⟨rfl, (((HH.out.setH _).setWt _).setMd _).setTd _, (((OnlyG.one _ _ _ _ _ (by omega)).trans (OnlyG.one _ _ _ _ _ (by omega))).trans (OnlyG.one _ _ _ _ _ (by omega))).trans (OnlyG.one _ _ _ _ _ (by omega))⟩

end
end Go.Proofs.Ytpnipmjjhiaieaa
