/-
  Contracts of package box (things of type int), over this seat's translation: Either.
-/
import Derived.Test.YtijgdlanjhcabaaBox2I
namespace Go.Proofs.Ytijgdlanjhcabaa.BI
open Go.RowKit Go.Lib Go.Conc
set_option maxRecDepth 100000
set_option linter.unusedVariables false
section
variable {w w' : World} {ba ca na bb cb nb : Nat} {L : List (Nat × Vt)}

theorem idx0 (p q : Value) (w : World) : (Instr.index 103 (.agg #[p, q]) (.int .i64 0)).run Try.prog w = .ok p w := by kernel_rfl
theorem idx1 (p q : Value) (w : World) : (Instr.index 103 (.agg #[p, q]) (.int .i64 1)).run Try.prog w = .ok q w := by kernel_rfl

set_option maxHeartbeats 2000000 in
theorem either_first {p : Nat} {v : Vt} (pb : Option Addr) (H : Bx w ba ca na ((p, v) :: L)) : Calls Try.prog 26 #[.pointer (some ⟨ba, 0, none⟩), .pointer pb] w fun e w' => e = .returned (.tuple #[valOf v, .int .i64 0]) ∧ Bx w' ba ca na L ∧ Only ca (ca + 1) w w' := by
  have hi0 := idx0 (.pointer (some ⟨ba, 0, none⟩)) (.pointer pb)
  have CF := Lib.hid (fetch_some H)
  clear H
  unfold valOf at *
  go_enter Try.func26, Try.ntmps26
  go_wp2_with fail
  go_loopw [13] (fun it wr => it = .int .i64 0 ∧ Hid (wr = w)) (fun it _ => 0)
  case atStart => exact ⟨rfl, Lib.hid rfl⟩
  case round =>
    obtain ⟨rfl, hw⟩ := hrel
    have hw := hw.out
    subst hw
    go_wp2_with fail
    refine CF.out.mono ?_
    rintro e w1 ⟨rfl, h⟩
    have R := Lib.hid h
    clear h CF
    go_wp2
    go_ret2
    exact ⟨rfl, R.out⟩

set_option maxHeartbeats 2000000 in
theorem either_second {p : Nat} {v : Vt} (HA : Bx w ba ca na []) (HB : Bx w bb cb nb ((p, v) :: L)) : Calls Try.prog 26 #[.pointer (some ⟨ba, 0, none⟩), .pointer (some ⟨bb, 0, none⟩)] w fun e w' => e = .returned (.tuple #[valOf v, .int .i64 1]) ∧ Bx w' bb cb nb L ∧ Only cb (cb + 1) w w' := by
  have hi0 := idx0 (.pointer (some ⟨ba, 0, none⟩)) (.pointer (some ⟨bb, 0, none⟩))
  have hi1 := idx1 (.pointer (some ⟨ba, 0, none⟩)) (.pointer (some ⟨bb, 0, none⟩))
  have CF := Lib.hid (fetch_none HA)
  have HBB := Lib.hid HB
  clear HA HB
  unfold valOf zeroV at *
  go_enter Try.func26, Try.ntmps26
  go_wp2_with fail
  go_loopw [13] (fun it wr => (it = .int .i64 0 ∧ Hid (wr = w)) ∨ (it = .int .i64 1 ∧ Hid (Bx wr bb cb nb ((p, v) :: L)) ∧ Hid (w.grownBy wr none))) (fun it _ => 1 - (Go.RowKit.intOf it).toNat)
  case atStart => exact Or.inl ⟨rfl, Lib.hid rfl⟩
  case round =>
    rcases hrel with ⟨rfl, hw⟩ | ⟨rfl, hB, hG⟩
    · have hw := hw.out
      subst hw
      go_wp2_with fail
      refine CF.out.mono ?_
      rintro e w1 ⟨rfl, h, k⟩
      have R := Lib.hid k
      clear h k CF
      go_wp2
      go_roundw
      case rel => exact Or.inr ⟨rfl, Lib.hid (HBB.out.kept R.out), R⟩
      case measure => simp [Go.RowKit.intOf]
    · have CS := Lib.hid (fetch_some hB.out)
      unfold valOf at CS
      clear CF hB HBB
      go_wp2_with fail
      refine CS.out.mono ?_
      rintro e w1 ⟨rfl, h1, h2⟩
      have R := Lib.hid (And.intro h1 h2)
      clear h1 h2 CS
      go_wp2
      go_ret2
      exact ⟨rfl, R.out.1, (Only.of_none hG.out).trans R.out.2⟩

set_option maxHeartbeats 2000000 in
theorem either_none (HA : Bx w ba ca na []) (HB : Bx w bb cb nb []) : Calls Try.prog 26 #[.pointer (some ⟨ba, 0, none⟩), .pointer (some ⟨bb, 0, none⟩)] w fun e w' => e = .returned (.tuple #[valOf zeroV, .int .i64 (-1)]) ∧ w.grownBy w' none := by
  have hi0 := idx0 (.pointer (some ⟨ba, 0, none⟩)) (.pointer (some ⟨bb, 0, none⟩))
  have hi1 := idx1 (.pointer (some ⟨ba, 0, none⟩)) (.pointer (some ⟨bb, 0, none⟩))
  have HAA := Lib.hid HA
  have HBB := Lib.hid HB
  clear HA HB
  unfold valOf zeroV at *
  go_enter Try.func26, Try.ntmps26
  go_wp2_with fail
  go_loopw [13] (fun it wr => ((it = .int .i64 0 ∨ it = .int .i64 1 ∨ it = .int .i64 2) ∧ Hid (w.grownBy wr none))) (fun it _ => 2 - (Go.RowKit.intOf it).toNat)
  case atStart => exact ⟨Or.inl rfl, Lib.hid (World.grownBy.refl w _)⟩
  case round =>
    obtain ⟨rfl | rfl | rfl, hG⟩ := hrel
    · have CF := Lib.hid (fetch_none (HAA.out.kept hG.out))
      unfold valOf zeroV at CF
      go_wp2_with fail
      refine CF.out.mono ?_
      rintro e w1 ⟨rfl, h, k⟩
      have R := Lib.hid (hG.out.trans k)
      clear h k CF
      go_wp2
      go_roundw
      case rel => exact ⟨Or.inr (Or.inl rfl), R⟩
      case measure => simp [Go.RowKit.intOf]
    · have CF := Lib.hid (fetch_none (HBB.out.kept hG.out))
      unfold valOf zeroV at CF
      go_wp2_with fail
      refine CF.out.mono ?_
      rintro e w1 ⟨rfl, h, k⟩
      have R := Lib.hid (hG.out.trans k)
      clear h k CF
      go_wp2
      go_roundw
      case rel => exact ⟨Or.inr (Or.inr rfl), R⟩
      case measure => simp [Go.RowKit.intOf]
    · go_wp2
      go_ret2
      exact ⟨rfl, hG.out.trans (World.grownBy_alloc ..)⟩
end
end Go.Proofs.Ytijgdlanjhcabaa.BI
