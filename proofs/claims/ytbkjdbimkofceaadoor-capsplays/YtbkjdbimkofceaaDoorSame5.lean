/-
  A contract of nightjarref05's Same, over this seat's translation: two rows of the same handles are the same.
-/
import Derived.Test.YtbkjdbimkofceaaDoorCapsLive
namespace Go.Proofs.YtbkjdbimkofceaaDoor
open Go.RowKit Go.Lib
set_option maxRecDepth 100000

/-- A slice of handles that can be read. -/
def UReads (w : World) (v : Value) (F : List Nat) : Prop := ∃ b cp, v = .slice (some ⟨b, 0, none⟩) F.length cp ∧ b < w.heap.size ∧ ∀ j (h : j < F.length), w.cell? ⟨b, j, none⟩ = some (.int .u64 (F[j] : Nat))
theorem UReads.kept {w w' : World} {v : Value} {F : List Nat} (h : UReads w v F) (k : w.grownBy w' none) : UReads w' v F := by
  obtain ⟨b, cp, rfl, hb, hc⟩ := h
  exact ⟨b, cp, rfl, Nat.lt_of_lt_of_le hb k.size, fun j hj => (k.cell_far ⟨b, j, none⟩ hb (by simp)).trans (hc j hj)⟩
theorem ureads_of {w : World} {B b cp : Nat} {F : List Nat} (h : w.ownsRow B 23 1 (.slice (some ⟨b, 0, none⟩) F.length cp) F.length (wcells F)) : UReads w (.slice (some ⟨b, 0, none⟩) F.length cp) F :=
  ⟨b, cp, rfl, (World.ownsRow.lt h b rfl).2, fun j hj => by rw [World.ownsRow.cellAt h j (by omega)]; simp [wcells, hj]⟩

set_option maxHeartbeats 1000000 in
theorem same5_yes {w : World} {va vb : Value} {F : List Nat} (ha : UReads w va F) (hb : UReads w vb F) (hF : F.length ≤ 1000000) :
    Calls Tryd.prog 21 #[va, vb] w fun e w' => e = .returned (.bool true) ∧ w.grownBy w' none := by
  obtain ⟨b1, cp1, rfl, hb1, HA⟩ := ha
  obtain ⟨b2, cp2, rfl, hb2, HB⟩ := hb
  have HA' := Lib.hid HA
  have HB' := Lib.hid HB
  clear HA HB
  go_enter Tryd.func21, Tryd.ntmps21
  go_wp2
  go_loopw [5] (fun it wr => ∃ j : Nat, j ≤ F.length ∧ it = .int .i64 j ∧ w.grownBy wr none) (fun it _ => F.length - (intOf it).toNat)
  case atStart => exact ⟨0, Nat.zero_le _, rfl, SR.grow_refl _⟩
  case round =>
    obtain ⟨j, hj, rfl, hG⟩ := hrel
    by_cases hlt : j < F.length
    · have d1 := (hG.cell_far ⟨b1, j, none⟩ hb1 (by simp)).trans (HA'.out j hlt)
      have d2 := (hG.cell_far ⟨b2, j, none⟩ hb2 (by simp)).trans (HB'.out j hlt)
      generalize F[j] = x at d1 d2
      have q1 : (j : Int) < (F.length : Int) := by omega
      go_wp2_with fail
      go_quiet (fail)
      go_wp2
      go_roundw
      case rel => exact ⟨j + 1, by omega, by go_num, hG.trans (⟨rfl, rfl, rfl, Nat.le_refl _, fun _ _ _ => rfl⟩)⟩
      case measure => simp [intOf]; omega
    · go_wp2
      go_ret
      exact ⟨rfl, hG⟩
end Go.Proofs.YtbkjdbimkofceaaDoor
