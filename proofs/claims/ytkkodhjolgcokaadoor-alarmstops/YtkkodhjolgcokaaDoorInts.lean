/-
  Rows of ints that a call owns or reads, over this seat's translation: made, read, compared (nightjarref03.Same).
-/
import Derived.Test.YtkkodhjolgcokaaDoorFrame
import Derived.Deep.DeepCutAuto
import Derived.Deep.CutBlock
import Derived.Deep.Onto
namespace Go.Proofs.YtkkodhjolgcokaaDoor
open Go.RowKit Go.Lib
set_option maxRecDepth 100000

/-- Numbers as the cells of a row of ints. -/
def ints (F : List Nat) : List Value := F.map fun (x : Nat) => Value.int .i64 (x : Int)
theorem ints_len (F : List Nat) : (ints F).length = F.length := by simp [ints]
theorem ints_snoc (F : List Nat) (k : Nat) : ints F ++ [Value.int .i64 (k : Int)] = ints (F ++ [k]) := by simp [ints]
theorem ints_add (F G : List Nat) : ints F ++ ints G = ints (F ++ G) := by simp [ints]
theorem ints_one (F : List Nat) : ∀ u ∈ ints F, u.oneCell' = true := by
  intro u hu
  simp only [ints, List.mem_map] at hu
  obtain ⟨i, _, rfl⟩ := hu
  rfl

/-- A row of ints of the call's own, from block B on. -/
def RowOf (w : World) (B r cp : Nat) (F : List Nat) : Prop := w.ownsRow B 3 1 (.slice (some ⟨r, 0, none⟩) F.length cp) F.length (ints F)
theorem RowOf.lt {w : World} {B r cp : Nat} {F : List Nat} (h : RowOf w B r cp F) : B ≤ r ∧ r < w.heap.size := World.ownsRow.lt h r rfl
theorem RowOf.cell {w : World} {B r cp : Nat} {F : List Nat} (h : RowOf w B r cp F) (j : Nat) (hj : j < F.length) : w.cell? ⟨r, j, none⟩ = some (.int .i64 (F[j] : Nat)) := by
  rw [World.ownsRow.cellAt h j (by omega)]; simp [ints, hj]
theorem RowOf.kept {w w' : World} {B r cp : Nat} {F : List Nat} {row : Option Nat} (h : RowOf w B r cp F) (hg : w.grownBy w' row) (hr : some r ≠ row) : RowOf w' B r cp F := World.ownsRow.kept h hg (Or.inr hr)
theorem RowOf.only {w w' : World} {B r cp lo hi : Nat} {F : List Nat} (h : RowOf w B r cp F) (k : Only lo hi w w') (hr : r < lo ∨ hi ≤ r) : RowOf w' B r cp F := own_only h k hr
theorem RowOf.mono {w : World} {B B' r cp : Nat} {F : List Nat} (h : RowOf w B r cp F) (hB : B' ≤ B) : RowOf w B' r cp F := World.ownsRow.mono h hB
theorem row_of_owns {w : World} {B : Nat} {v : Value} {F : List Nat} {k : Nat} {xs : List Value} (h : w.ownsRow B 3 1 v k xs) (hk : k = F.length) (hx : xs = ints F) (hv : v ≠ .slice none 0 0) : ∃ r cp, v = .slice (some ⟨r, 0, none⟩) F.length cp ∧ RowOf w B r cp F := by
  subst hk
  subst hx
  rcases h.2 with ⟨h0, _⟩ | ⟨r, cp, cur, hv', _⟩
  · exact absurd h0 hv
  · subst hv'
    exact ⟨r, cp, rfl, h⟩

/-- A slice whose numbers can be read. -/
def Reads (w : World) (v : Value) (F : List Nat) : Prop := ∃ a cap, v = .slice a F.length cap ∧ ∀ j (h : j < F.length), ∃ b o, a = some ⟨b, o, none⟩ ∧ b < w.heap.size ∧ w.cell? ⟨b, o + j, none⟩ = some (.int .i64 (F[j] : Nat))
theorem RowOf.reads {w : World} {B r cp : Nat} {F : List Nat} (h : RowOf w B r cp F) : Reads w (.slice (some ⟨r, 0, none⟩) F.length cp) F :=
  ⟨_, _, rfl, fun j hj => ⟨r, 0, rfl, h.lt.2, by simpa using h.cell j hj⟩⟩
theorem Reads.kept {w w' : World} {v : Value} {F : List Nat} (h : Reads w v F) (hg : w.grownBy w' none) : Reads w' v F := by
  obtain ⟨a, cap, rfl, hc⟩ := h
  refine ⟨a, cap, rfl, fun j hj => ?_⟩
  obtain ⟨b, o, e, hb, h⟩ := hc j hj
  exact ⟨b, o, e, Nat.lt_of_lt_of_le hb hg.size, (hg.cell_far ⟨b, o + j, none⟩ hb (by simp)).trans h⟩
theorem reads_nil (w : World) : Reads w (.slice none 0 0) [] := ⟨none, 0, rfl, fun j h => absurd h (by simp)⟩

theorem int_info : ∃ i : TypeInfo, Tryd.prog.info? 3 = some i ∧ i.zero = some (.int .i64 0) ∧ i.size = 1 ∧ i.bytes = 8 := ⟨_, rfl, rfl, rfl, rfl⟩
theorem make_ints (a c : Nat) (hac : a ≤ c) (hc : c ≤ 1000000) (w : World) :
    (Instr.makeSlice 30 (.int .i64 (a : Int)) (.int .i64 (c : Int))).run Tryd.prog w =
      .ok (.slice (some ⟨w.heap.size, 0, none⟩) a c) (w.alloc (.cells (madeCells #[.int .i64 0] c) 3)) := by
  obtain ⟨i, hi, hz⟩ : ∃ i : TypeInfo, Tryd.prog.info? 3 = some i ∧ i.zero = some (.int .i64 0) ∧ i.bytes = 8 ∧ i.size = 1 := ⟨_, rfl, rfl, rfl, rfl⟩
  have h := run_make (P := Tryd.prog) w 30 3 i _ Tryd.underlying30 hi hz.1 .i64 .i64 (a : Int) (c : Int) (by omega) (by omega) (by rw [hz.2.1]; omega) (by omega)
  rw [hz.2.2, Nat.mul_one, Int.toNat_natCast, Int.toNat_natCast] at h
  exact h
theorem made_atC (z : Value) (n j : Nat) (h : j < n) : (madeCells #[z] n)[j]? = some z := by
  simp [madeCells, h, Nat.mod_one]
theorem make_room (w : World) (B c : Nat) (hB : B ≤ w.heap.size) (hc : c ≤ 1000000) : RowOf (w.alloc (.cells (madeCells #[.int .i64 0] c) 3)) B w.heap.size c [] :=
  World.ownsRow_made w _ c hB (by unfold maxLen; omega) (by simp [madeCells])
theorem lit_room (w : World) (B : Nat) (hB : B ≤ w.heap.size) : RowOf (w.alloc (.cells #[] 3)) B w.heap.size 0 [] :=
  World.ownsRow_made w #[] 0 hB (by decide) rfl

set_option maxHeartbeats 1000000 in
theorem same_yes {w : World} {va vb : Value} {F : List Nat} (ha : Reads w va F) (hb : Reads w vb F) (hF : F.length ≤ 1000000) :
    Calls Tryd.prog 21 #[va, vb] w fun e w' => e = .returned (.bool true) ∧ w.grownBy w' none := by
  obtain ⟨a, cap, rfl, HA⟩ := ha
  obtain ⟨b, cap2, rfl, HB⟩ := hb
  have HA' := Lib.hid HA
  have HB' := Lib.hid HB
  clear HA HB
  have hx0 : w.grownBy w none := ⟨rfl, rfl, rfl, Nat.le_refl _, fun _ _ _ => rfl⟩
  go_enter Tryd.func21, Tryd.ntmps21
  go_wp2
  go_loopw [5] (fun it wr => ∃ j : Nat, j ≤ F.length ∧ it = .int .i64 j ∧ w.grownBy wr none) (fun it _ => F.length - (intOf it).toNat)
  case atStart => exact ⟨0, Nat.zero_le _, rfl, hx0⟩
  case round =>
    obtain ⟨j, hj, rfl, hG⟩ := hrel
    clear hx0
    by_cases hlt : j < F.length
    · obtain ⟨b1, o1, e1, hb1, c1⟩ := HA'.out j hlt
      obtain ⟨b2, o2, e2, hb2, c2⟩ := HB'.out j hlt
      subst e1
      subst e2
      have d1 := (hG.cell_far ⟨b1, o1 + j, none⟩ hb1 (by simp)).trans c1
      have d2 := (hG.cell_far ⟨b2, o2 + j, none⟩ hb2 (by simp)).trans c2
      clear c1 c2
      generalize F[j] = x at d1 d2

      have q1 : (j : Int) < (F.length : Int) := by omega
      go_wp2_with fail
      go_quiet (fail)
      go_wp2
      go_roundw
      case rel => exact ⟨j + 1, by omega, by go_num, hG.trans (⟨rfl, rfl, rfl, Nat.le_refl _, fun _ _ _ => rfl⟩)⟩
      case measure => simp [intOf]; omega
    · go_wp2
      go_ret
      exact ⟨rfl, hG⟩

end Go.Proofs.YtkkodhjolgcokaaDoor
