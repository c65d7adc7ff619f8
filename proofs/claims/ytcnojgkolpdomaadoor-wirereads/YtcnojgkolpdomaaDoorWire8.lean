/-
  nightjarref15.Same of rows that are the same, over this seat's translation.
-/
import Derived.Test.YtcnojgkolpdomaaDoorWire6a
import Derived.Deep.RegionHeld3
namespace Go.Proofs.YtcnojgkolpdomaaDoor
open Go.RowKit Go.Lib
set_option maxRecDepth 100000
set_option linter.unusedVariables false

set_option maxHeartbeats 4000000 in
theorem rsameE {w : World} {va vb : Value} {L : List En} (ha : ReadsE w va L) (hb : ReadsE w vb L) :
    Calls Tryd.prog 29 #[va, vb] w fun r w' => r = .returned (.bool true) ∧ w.grownBy w' none := by
  obtain ⟨a, cap, rfl, h1, h2, h3, h4⟩ := ha
  obtain ⟨a2, cap2, rfl, h5, h6, h7, h8⟩ := hb
  have H4 := Lib.hid h4
  have H8 := Lib.hid h8
  have hlm : L.length ≤ 9223372036854775807 := by unfold maxLen at h2; omega
  clear h1 h2 h3 h4 h5 h6 h7 h8
  go_enter Tryd.func29, Tryd.ntmps29
  go_wp2
  go_loopw [5] (fun iv wr => ∃ j : Nat, j ≤ L.length ∧ iv = .int .i64 (j : Int) ∧ w.grownBy wr none) (fun iv _ => L.length - (RowKit.intOf iv).toNat)
  case atStart => exact ⟨0, Nat.zero_le _, rfl, World.grownBy.refl w none⟩
  case round =>
    obtain ⟨j, hj, rfl, hG⟩ := hrel
    by_cases hlt : j < L.length
    · obtain ⟨b, o, rfl, hbw, hc⟩ := H4.out (by omega)
      obtain ⟨b2, o2, rfl, hbw2, hc2⟩ := H8.out (by omega)
      have hx := hc j hlt
      have hy := hc2 j hlt
      generalize L[j] = e at *
      obtain ⟨k, who, n, ⟨op, a, b3, c⟩, d, m⟩ := e
      have x0 : wr.cell? ⟨b, o + j * 9, none⟩ = some (.int .i64 k) := (hG.cell_far ⟨b, o + j * 9, none⟩ hbw (by simp)).trans (hx 0 (by decide))
      have y0 : wr.cell? ⟨b2, o2 + j * 9, none⟩ = some (.int .i64 k) := (hG.cell_far ⟨b2, o2 + j * 9, none⟩ hbw2 (by simp)).trans (hy 0 (by decide))
      have x1 : wr.cell? ⟨b, o + j * 9 + 1, none⟩ = some (.int .i64 who) := (hG.cell_far ⟨b, o + j * 9 + 1, none⟩ hbw (by simp)).trans (hx 1 (by decide))
      have y1 : wr.cell? ⟨b2, o2 + j * 9 + 1, none⟩ = some (.int .i64 who) := (hG.cell_far ⟨b2, o2 + j * 9 + 1, none⟩ hbw2 (by simp)).trans (hy 1 (by decide))
      have x2 : wr.cell? ⟨b, o + j * 9 + 2, none⟩ = some (.int .i64 n) := (hG.cell_far ⟨b, o + j * 9 + 2, none⟩ hbw (by simp)).trans (hx 2 (by decide))
      have y2 : wr.cell? ⟨b2, o2 + j * 9 + 2, none⟩ = some (.int .i64 n) := (hG.cell_far ⟨b2, o2 + j * 9 + 2, none⟩ hbw2 (by simp)).trans (hy 2 (by decide))
      have x3 : wr.cell? ⟨b, o + j * 9 + 3, none⟩ = some (.int .i64 op) := (hG.cell_far ⟨b, o + j * 9 + 3, none⟩ hbw (by simp)).trans (hx 3 (by decide))
      have y3 : wr.cell? ⟨b2, o2 + j * 9 + 3, none⟩ = some (.int .i64 op) := (hG.cell_far ⟨b2, o2 + j * 9 + 3, none⟩ hbw2 (by simp)).trans (hy 3 (by decide))
      have x4 : wr.cell? ⟨b, o + j * 9 + 4, none⟩ = some (.int .u64 (a : Nat)) := (hG.cell_far ⟨b, o + j * 9 + 4, none⟩ hbw (by simp)).trans (hx 4 (by decide))
      have y4 : wr.cell? ⟨b2, o2 + j * 9 + 4, none⟩ = some (.int .u64 (a : Nat)) := (hG.cell_far ⟨b2, o2 + j * 9 + 4, none⟩ hbw2 (by simp)).trans (hy 4 (by decide))
      have x5 : wr.cell? ⟨b, o + j * 9 + 5, none⟩ = some (.int .u64 (b3 : Nat)) := (hG.cell_far ⟨b, o + j * 9 + 5, none⟩ hbw (by simp)).trans (hx 5 (by decide))
      have y5 : wr.cell? ⟨b2, o2 + j * 9 + 5, none⟩ = some (.int .u64 (b3 : Nat)) := (hG.cell_far ⟨b2, o2 + j * 9 + 5, none⟩ hbw2 (by simp)).trans (hy 5 (by decide))
      have x6 : wr.cell? ⟨b, o + j * 9 + 6, none⟩ = some (.int .u64 (c : Nat)) := (hG.cell_far ⟨b, o + j * 9 + 6, none⟩ hbw (by simp)).trans (hx 6 (by decide))
      have y6 : wr.cell? ⟨b2, o2 + j * 9 + 6, none⟩ = some (.int .u64 (c : Nat)) := (hG.cell_far ⟨b2, o2 + j * 9 + 6, none⟩ hbw2 (by simp)).trans (hy 6 (by decide))
      have x7 : wr.cell? ⟨b, o + j * 9 + 7, none⟩ = some (.int .i64 d) := (hG.cell_far ⟨b, o + j * 9 + 7, none⟩ hbw (by simp)).trans (hx 7 (by decide))
      have y7 : wr.cell? ⟨b2, o2 + j * 9 + 7, none⟩ = some (.int .i64 d) := (hG.cell_far ⟨b2, o2 + j * 9 + 7, none⟩ hbw2 (by simp)).trans (hy 7 (by decide))
      have x8 : wr.cell? ⟨b, o + j * 9 + 8, none⟩ = some (.int .i64 m) := (hG.cell_far ⟨b, o + j * 9 + 8, none⟩ hbw (by simp)).trans (hx 8 (by decide))
      have y8 : wr.cell? ⟨b2, o2 + j * 9 + 8, none⟩ = some (.int .i64 m) := (hG.cell_far ⟨b2, o2 + j * 9 + 8, none⟩ hbw2 (by simp)).trans (hy 8 (by decide))
      have hwj : wrap64 ((j : Int) + 1) = (j : Int) + 1 := by unfold wrap64; omega
      have q1 : ((j : Nat) : Int) < ((L.length : Nat) : Int) := by omega
      have q0 : ¬ ((j : Nat) : Int) < 0 := by omega
      have HG := Lib.hid hG
      clear hc hc2 hx hy hG
      go_wp2_with fail
      go_quiet (fail)
      have kq : wr.grownBy (wr.drewN nq) none := ⟨rfl, rfl, rfl, Nat.le_refl _, fun _ _ _ => rfl⟩
      have HG2 := Lib.hid (HG.out.trans kq)
      clear kq
      go_wp2
      go_roundw
      case rel => exact ⟨j + 1, by omega, by go_num, HG2.out⟩
      case measure => simp [RowKit.intOf]; omega
    · obtain rfl : j = L.length := by omega
      go_wp2
      go_ret
      exact ⟨rfl, hG⟩
end Go.Proofs.YtcnojgkolpdomaaDoor
