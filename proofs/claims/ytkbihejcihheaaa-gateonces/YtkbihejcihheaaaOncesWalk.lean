/-
  GateOnces: watched once, a gate tells once, and then nobody watches it.
-/
import Derived.Test.YtkbihejcihheaaaGateLaw
import Derived.Deep.RegionHeld3
namespace Go.Proofs.Ytkbihejcihheaaa
open Go.RowKit Go.Lib
set_option maxRecDepth 100000
set_option linter.unusedVariables false

set_option maxRecDepth 100000 in
set_option maxHeartbeats 8000000 in
theorem onces_walk (x : Int) (sa0 : Option Addr) (len0 cap0 sb0 off0 : Nat) (zs0 : Nat → Int) (w : World)
    (_hm0 : len0 ≤ maxLen) (hs0 : 0 < len0 → sa0 = some ⟨sb0, off0, none⟩ ∧ sb0 < w.heap.size) (hz0 : ∀ j, j < len0 → w.cell? ⟨sb0, off0 + j, none⟩ = some (.int .i64 (zs0 j))) :
    Calls Try.prog 5 #[.int .i64 x, .slice sa0 len0 cap0] w fun e w' => e = .returned (.bool true) ∧ w.grownBy w' none := by
  have C0 := Lib.hid (alive11 w)
  have R0 : Hid (∀ (v : World) (j : Nat), w.grownBy v none → j < len0 → sa0 = some ⟨sb0, off0, none⟩ ∧ v.cell? ⟨sb0, off0 + j, none⟩ = some (.int .i64 (zs0 j))) := Lib.hid fun v j k hj => by
    obtain ⟨h1, h2⟩ := hs0 (by omega)
    exact ⟨h1, (k.cell_far ⟨sb0, off0 + j, none⟩ h2 (by simp)).trans (hz0 j hj)⟩
  clear hs0 hz0
  by_cases hl0 : 30 < len0
  · have q : (30 : Int) < (len0 : Int) := by omega
    go_enter Try.func5, Try.ntmps5
    go_wp2_with fail
    refine C0.out.mono ?_
    rintro e w1 ⟨rfl, k1⟩
    go_wp2
    go_ret
    exact ⟨rfl, k1⟩
  have q0 : ¬ (30 : Int) < (len0 : Int) := by omega
  obtain ⟨y, hy⟩ : ∃ y : Int, y = 1 + x % 4 := ⟨_, rfl⟩
  have hy1 : 1 ≤ y ∧ y ≤ 7 := by omega
  have q2 : IntKind.i64.wrap (1 + bits .and .i64 x 3) = y := by rw [and3, IntKind.wrap_i64]; omega
  have HY := Lib.hid hy1
  clear hy hy1
  go_enter Try.func5, Try.ntmps5
  go_wp2_with fail
  refine C0.out.mono ?_
  rintro e u1 ⟨rfl, k1⟩
  have G1 := Lib.hid k1
  clear k1 C0
  have H0 := Lib.hid (gt_new u1 28)
  have K0 := Lib.hid (Only.refl u1.heap.size (u1.heap.size + 1) (u1.alloc (Obj.cells #[.bool false, .int .i64 0, .int .i64 0, .int .u64 0, .int .i64 0, .int .i64 0, .int .i64 0] 28)))
  go_wp2_with fail
  refine (gopen_v H0.out).mono ?_
  rintro e w1 ⟨rfl, h, k⟩
  have H1 := Lib.hid h
  have K1 := Lib.hid (K0.out.trans k)
  clear h k H0 K0
  go_wp2_with fail
  refine (gwatch_v H1.out 4 y 2 0 HY.out (by decide) (zero_and y)).mono ?_
  rintro e w2 ⟨rfl, h, k⟩
  have H2 := Lib.hid h
  have K2 := Lib.hid (K1.out.trans k)
  clear h k H1 K1
  have KW := Lib.hid (G1.out.trans K2.out.new)
  have HB : Hid (w.heap.size ≤ u1.heap.size) := Lib.hid G1.out.size
  clear K2 G1 q2
  generalize u1.heap.size = b at *
  go_wp2_with fail
  go_loopw [6, 24] (fun s it wr => ∃ (j : Nat) (r : Int) (d : Bool), j ≤ len0 ∧ it = .int .i64 j ∧ s = .int .i64 (if d then 1 else 0) ∧ Hid (GAt wr b (if d then ⟨true, r, 0, 0, 0, 0, 0⟩ else ⟨true, r, 0, 4, y, 2, 0⟩)) ∧ Hid (w.grownBy wr none)) (fun s it _ => len0 - (Go.RowKit.intOf it).toNat)
  case atStart => exact ⟨0, 0, false, Nat.zero_le _, rfl, rfl, H2, KW⟩
  case round =>
    obtain ⟨j, r, d, hj, rfl, rfl, HG, GW⟩ := hrel
    clear H2 KW
    by_cases hlt : j < len0
    · obtain ⟨rfl, hc⟩ := R0.out wr j GW.out hlt
      have qj : (j : Int) < (len0 : Int) := by omega
      obtain ⟨c, hcc⟩ : ∃ c, zs0 j = c := ⟨_, rfl⟩
      rw [hcc] at hc
      clear hcc
      obtain ⟨r', hr'⟩ : ∃ r', bits .or .i64 r (bits .and .i64 c 7) = r' := ⟨_, rfl⟩
      obtain ⟨m, hm⟩ : ∃ m, bits .and .i64 c y = m := ⟨_, rfl⟩
      cases d
      · simp only [Bool.false_eq_true, if_false] at HG ⊢
        have CM := Lib.hid (gmeet_v HG.out c r' m hr' (by rw [or0_and, hm]))
        clear HG
        go_wp2_with fail
        refine CM.out.mono ?_
        rintro e w3 ⟨rfl, h3, k3⟩
        have H3 := Lib.hid h3
        have G3 := Lib.hid (Only.on GW.out k3 HB.out)
        clear h3 k3 CM GW hc hr'
        by_cases h0 : m = 0
        · have CT := Lib.hid (gtell_any H3.out ⟨(by decide : (0 : Int) ≤ 2), (by decide : (2 : Int) ≤ 2)⟩ ⟨true, r', 0, 4, y, 2, 0⟩ 0 0 (by simp [tells, h0]))
          subst h0
          clear H3
          go_wp2_with fail
          refine CT.out.mono ?_
          rintro e w4 ⟨rfl, h4, k4⟩
          have H4 := Lib.hid h4
          have G4 := Lib.hid (Only.on G3.out k4 HB.out)
          clear h4 k4 CT G3
          go_wp2
          go_roundw
          case rel => exact ⟨j + 1, r', false, by omega, by go_num, rfl, H4, G4⟩
          case measure => simp [Go.RowKit.intOf]; omega
        · have CT := Lib.hid (gtell_any H3.out ⟨(by decide : (0 : Int) ≤ 2), (by decide : (2 : Int) ≤ 2)⟩ ⟨true, r', 0, 0, 0, 0, 0⟩ 4 m (by simp [tells, h0]))
          have e3 : (m != 0) = decide True := by simp [h0]
          have e4 : decide (m = 0) = !decide True := by simp [h0]
          clear H3
          go_wp2_with fail
          refine CT.out.mono ?_
          rintro e w4 ⟨rfl, h4, k4⟩
          have H4 := Lib.hid h4
          have G4 := Lib.hid (Only.on G3.out k4 HB.out)
          clear h4 k4 CT G3
          go_wp2
          go_roundw
          case rel => exact ⟨j + 1, r', true, by omega, by go_num, by go_num, H4, G4⟩
          case measure => simp [Go.RowKit.intOf]; omega
      · simp only [if_true] at HG ⊢
        have CM := Lib.hid (gmeet_v HG.out c r' 0 hr' (by rw [or0_and, and_zero]))
        clear HG
        go_wp2_with fail
        refine CM.out.mono ?_
        rintro e w3 ⟨rfl, h3, k3⟩
        have H3 := Lib.hid h3
        have G3 := Lib.hid (Only.on GW.out k3 HB.out)
        clear h3 k3 CM GW hc hr'
        have CT := Lib.hid (gtell_any H3.out ⟨(by decide : (0 : Int) ≤ 0), (by decide : (0 : Int) ≤ 2)⟩ ⟨true, r', 0, 0, 0, 0, 0⟩ 0 0 (by simp [tells, and_zero]))
        clear H3
        go_wp2_with fail
        refine CT.out.mono ?_
        rintro e w4 ⟨rfl, h4, k4⟩
        have H4 := Lib.hid h4
        have G4 := Lib.hid (Only.on G3.out k4 HB.out)
        clear h4 k4 CT G3
        go_wp2
        go_roundw
        case rel => exact ⟨j + 1, r', true, by omega, by go_num, rfl, H4, G4⟩
        case measure => simp [Go.RowKit.intOf]; omega
    · obtain rfl : j = len0 := by omega
      cases d
      · simp only [Bool.false_eq_true, if_false] at HG ⊢
        have CL := Lib.hid (gunwatch_v HG.out true (by have := HY.out; simp; omega))
        clear HG
        go_wp2_with fail
        refine CL.out.mono ?_
        rintro e w3 ⟨rfl, h3, k3⟩
        have G3 := Lib.hid (Only.on GW.out k3 HB.out)
        clear h3 k3 CL GW
        go_wp2
        go_ret
        exact ⟨rfl, G3.out⟩
      · simp only [if_true] at HG ⊢
        have CL := Lib.hid (gunwatch_v HG.out false (by decide))
        clear HG
        go_wp2_with fail
        refine CL.out.mono ?_
        rintro e w3 ⟨rfl, h3, k3⟩
        have G3 := Lib.hid (Only.on GW.out k3 HB.out)
        clear h3 k3 CL GW
        go_wp2
        go_ret
        exact ⟨rfl, G3.out⟩
end Go.Proofs.Ytkbihejcihheaaa
