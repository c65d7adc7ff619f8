/-
  GateEdges: watched by its edges, a gate tells once what came since it was told last, what was kept too.
-/
import Derived.Test.YtkbihejcihheaaaGateLaw
import Derived.Deep.RegionHeld3
namespace Go.Proofs.Ytkbihejcihheaaa
open Go.RowKit Go.Lib
set_option maxRecDepth 100000
set_option linter.unusedVariables false

set_option maxRecDepth 100000 in
set_option maxHeartbeats 8000000 in
theorem edges_walk (x z : Int) (sa0 : Option Addr) (len0 cap0 sb0 off0 : Nat) (zs0 : Nat → Int) (sa1 : Option Addr) (len1 cap1 sb1 off1 : Nat) (zs1 : Nat → Bool) (w : World)
    (_hm0 : len0 ≤ maxLen) (hs0 : 0 < len0 → sa0 = some ⟨sb0, off0, none⟩ ∧ sb0 < w.heap.size) (hz0 : ∀ j, j < len0 → w.cell? ⟨sb0, off0 + j, none⟩ = some (.int .i64 (zs0 j)))
    (_hm1 : len1 ≤ maxLen) (hs1 : 0 < len1 → sa1 = some ⟨sb1, off1, none⟩ ∧ sb1 < w.heap.size) (hz1 : ∀ j, j < len1 → w.cell? ⟨sb1, off1 + j, none⟩ = some (.bool (zs1 j))) :
    Calls Try.prog 4 #[.int .i64 x, .int .i64 z, .slice sa0 len0 cap0, .slice sa1 len1 cap1] w fun e w' => e = .returned (.bool true) ∧ w.grownBy w' none := by
  have C0 := Lib.hid (alive11 w)
  have R0 : Hid (∀ (v : World) (j : Nat), w.grownBy v none → j < len0 → sa0 = some ⟨sb0, off0, none⟩ ∧ v.cell? ⟨sb0, off0 + j, none⟩ = some (.int .i64 (zs0 j))) := Lib.hid fun v j k hj => by
    obtain ⟨h1, h2⟩ := hs0 (by omega)
    exact ⟨h1, (k.cell_far ⟨sb0, off0 + j, none⟩ h2 (by simp)).trans (hz0 j hj)⟩
  have R1 : Hid (∀ (v : World) (j : Nat), w.grownBy v none → j < len1 → sa1 = some ⟨sb1, off1, none⟩ ∧ v.cell? ⟨sb1, off1 + j, none⟩ = some (.bool (zs1 j))) := Lib.hid fun v j k hj => by
    obtain ⟨h1, h2⟩ := hs1 (by omega)
    exact ⟨h1, (k.cell_far ⟨sb1, off1 + j, none⟩ h2 (by simp)).trans (hz1 j hj)⟩
  clear hs0 hz0 hs1 hz1
  by_cases hl0 : 30 < len0
  · have q : (30 : Int) < (len0 : Int) := by omega
    go_enter Try.func4, Try.ntmps4
    go_wp2_with fail
    refine C0.out.mono ?_
    rintro e w1 ⟨rfl, k1⟩
    go_wp2
    go_ret
    exact ⟨rfl, k1⟩
  have q0 : ¬ (30 : Int) < (len0 : Int) := by omega
  by_cases hl1 : len1 < len0
  · have q : (len1 : Int) < (len0 : Int) := by omega
    go_enter Try.func4, Try.ntmps4
    go_wp2_with fail
    refine C0.out.mono ?_
    rintro e w1 ⟨rfl, k1⟩
    go_wp2
    go_ret
    exact ⟨rfl, k1⟩
  have q1 : ¬ (len1 : Int) < (len0 : Int) := by omega
  obtain ⟨y, hy⟩ : ∃ y : Int, y = 1 + x % 4 := ⟨_, rfl⟩
  have hy1 : 1 ≤ y ∧ y ≤ 7 := by omega
  have q2 : IntKind.i64.wrap (1 + bits .and .i64 x 3) = y := by rw [and3, IntKind.wrap_i64]; omega
  have HY := Lib.hid hy1
  clear hy hy1
  obtain ⟨t0, ht0⟩ : ∃ t0, bits .and .i64 z y = t0 := ⟨_, rfl⟩
  have HT0 := Lib.hid ht0
  go_enter Try.func4, Try.ntmps4
  go_wp2_with fail
  refine C0.out.mono ?_
  rintro e u1 ⟨rfl, k1⟩
  have G1 := Lib.hid k1
  clear k1 C0
  have H0 := Lib.hid (gt_new u1 28)
  have K0 := Lib.hid (Only.refl u1.heap.size (u1.heap.size + 1) (u1.alloc (Obj.cells #[.bool false, .int .i64 0, .int .i64 0, .int .u64 0, .int .i64 0, .int .i64 0, .int .i64 0] 28)))
  go_wp2_with fail
  refine (gopen_v H0.out).mono ?_
  rintro e w1 ⟨rfl, h, k⟩
  have H1 := Lib.hid h
  have K1 := Lib.hid (K0.out.trans k)
  clear h k H0 K0
  go_wp2_with fail
  refine (gmeet_v H1.out z (bits .and .i64 z 7) 0 (or0_and z 7) (by rw [or0_and, and_zero])).mono ?_
  rintro e w2 ⟨rfl, h, k⟩
  have H2 := Lib.hid h
  have K2 := Lib.hid (K1.out.trans k)
  clear h k H1 K1
  go_wp2_with fail
  refine (gwatch_v H2.out 4 y 1 t0 HY.out (by decide) (by rw [and7 HY.out]; exact HT0.out)).mono ?_
  rintro e w3 ⟨rfl, h, k⟩
  have H3 := Lib.hid h
  have K3 := Lib.hid (K2.out.trans k)
  clear h k H2 K2
  have KW := Lib.hid (G1.out.trans K3.out.new)
  have HB : Hid (w.heap.size ≤ u1.heap.size) := Lib.hid G1.out.size
  clear K3 G1 q2
  generalize u1.heap.size = b at *
  go_wp2_with fail
  clear ht0 HT0
  go_loopw [10, 42] (fun s it wr => ∃ (j : Nat) (r t : Int), j ≤ len0 ∧ it = .int .i64 j ∧ s = .int .i64 t ∧ Hid (GAt wr b ⟨true, r, 0, 4, y, 1, t⟩) ∧ Hid (w.grownBy wr none)) (fun s it _ => len0 - (Go.RowKit.intOf it).toNat)
  case atStart => exact ⟨0, _, _, Nat.zero_le _, rfl, rfl, H3, KW⟩
  case round =>
    obtain ⟨j, r, t, hj, rfl, rfl, HG, GW⟩ := hrel
    clear H3 KW
    by_cases hlt : j < len0
    · obtain ⟨rfl, hc⟩ := R0.out wr j GW.out hlt
      obtain ⟨rfl, hc1⟩ := R1.out wr j GW.out (by omega)
      have qj : (j : Int) < (len0 : Int) := by omega
      have qj1 : (j : Int) < (len1 : Int) := by omega
      obtain ⟨c, hcc⟩ : ∃ c, zs0 j = c := ⟨_, rfl⟩
      rw [hcc] at hc
      clear hcc
      obtain ⟨r', hr'⟩ : ∃ r', bits .or .i64 r (bits .and .i64 c 7) = r' := ⟨_, rfl⟩
      obtain ⟨t', ht'⟩ : ∃ t', bits .or .i64 t (bits .and .i64 c y) = t' := ⟨_, rfl⟩
      have HT' := Lib.hid ht'
      have FIN : Hid (∀ w3 : World, GAt w3 b ⟨true, r', 0, 4, y, 1, t'⟩ → w.grownBy w3 none → Calls Try.prog 12 #[.pointer (some ⟨b, 0, none⟩)] w3 fun e w' => (∃ h : Int, e = .returned (.tuple #[.int .u64 h, .int .i64 t'])) ∧ GAt w' b ⟨true, r', 0, 4, y, 1, 0⟩ ∧ w.grownBy w' none) := Lib.hid fun w3 h3 g3 => by
        by_cases h0 : t' = 0
        · refine (gtell_any h3 ⟨(by decide : (0 : Int) ≤ 1), (by decide : (1 : Int) ≤ 2)⟩ ⟨true, r', 0, 4, y, 1, 0⟩ 0 0 (by simp [tells, h0])).mono fun e w' hh => ?_
          exact ⟨⟨0, by rw [hh.1, h0]⟩, hh.2.1, Only.on g3 hh.2.2 HB.out⟩
        · refine (gtell_any h3 ⟨(by decide : (0 : Int) ≤ 1), (by decide : (1 : Int) ≤ 2)⟩ ⟨true, r', 0, 4, y, 1, 0⟩ 4 t' (by simp [tells, h0])).mono fun e w' hh => ?_
          exact ⟨⟨4, hh.1⟩, hh.2.1, Only.on g3 hh.2.2 HB.out⟩
      cases hk : zs1 j
      all_goals rw [hk] at hc1; clear hk
      · have CM := Lib.hid (gmeet_v HG.out c r' t' hr' ht')
        clear HG hr'
        go_wp2_with fail
        refine CM.out.mono ?_
        rintro e w3 ⟨rfl, h3, k3⟩
        have H3 := Lib.hid h3
        have G3 := Lib.hid (Only.on GW.out k3 HB.out)
        clear h3 k3 CM GW hc hc1
        have CT := Lib.hid (FIN.out w3 H3.out G3.out)
        clear FIN
        by_cases hp : j % 2 = 0
        · have q3 : bits .and .i64 (j : Int) 1 = 0 := by rw [and1]; omega
          clear CT hp
          go_wp2
          go_roundw
          case rel => exact ⟨j + 1, r', t', by omega, by go_num, by go_num, H3, G3⟩
          case measure => simp [Go.RowKit.intOf]; omega
        · have q3 : bits .and .i64 (j : Int) 1 = 1 := by rw [and1]; omega
          clear H3 G3 hp
          go_wp2_with fail
          refine CT.out.mono ?_
          rintro e w4 ⟨⟨h, rfl⟩, h4, g4⟩
          have C2 := Lib.hid (gtell_any h4 ⟨(by decide : (0 : Int) ≤ 1), (by decide : (1 : Int) ≤ 2)⟩ ⟨true, r', 0, 4, y, 1, 0⟩ 0 0 (by simp [tells]))
          have G4 := Lib.hid g4
          clear h4 g4 CT
          go_wp2_with fail
          refine C2.out.mono ?_
          rintro e w5 ⟨rfl, h5, k5⟩
          have H5 := Lib.hid h5
          have G5 := Lib.hid (Only.on G4.out k5 HB.out)
          clear h5 k5 C2 G4
          go_wp2
          go_roundw
          case rel => exact ⟨j + 1, r', 0, by omega, by go_num, rfl, H5, G5⟩
          case measure => simp [Go.RowKit.intOf]; omega
      · have CK := Lib.hid (gkeep_v HG.out c (bits .and .i64 c 7) (or0_and c 7))
        clear HG
        go_wp2_with fail
        refine CK.out.mono ?_
        rintro e w2 ⟨rfl, h2, k2⟩
        have CF := Lib.hid (gflush_v h2 r' t' (by rw [and77]; exact hr') (by rw [and7 HY.out]; exact HT'.out))
        have G2 := Lib.hid (Only.on GW.out k2 HB.out)
        clear h2 k2 CK GW hc hc1 hr'
        go_wp2_with fail
        refine CF.out.mono ?_
        rintro e w3 ⟨rfl, h3, k3⟩
        have H3 := Lib.hid h3
        have G3 := Lib.hid (Only.on G2.out k3 HB.out)
        clear h3 k3 CF G2
        have CT := Lib.hid (FIN.out w3 H3.out G3.out)
        clear FIN
        by_cases hp : j % 2 = 0
        · have q3 : bits .and .i64 (j : Int) 1 = 0 := by rw [and1]; omega
          clear CT hp
          go_wp2
          go_roundw
          case rel => exact ⟨j + 1, r', t', by omega, by go_num, by go_num, H3, G3⟩
          case measure => simp [Go.RowKit.intOf]; omega
        · have q3 : bits .and .i64 (j : Int) 1 = 1 := by rw [and1]; omega
          clear H3 G3 hp
          go_wp2_with fail
          refine CT.out.mono ?_
          rintro e w4 ⟨⟨h, rfl⟩, h4, g4⟩
          have C2 := Lib.hid (gtell_any h4 ⟨(by decide : (0 : Int) ≤ 1), (by decide : (1 : Int) ≤ 2)⟩ ⟨true, r', 0, 4, y, 1, 0⟩ 0 0 (by simp [tells]))
          have G4 := Lib.hid g4
          clear h4 g4 CT
          go_wp2_with fail
          refine C2.out.mono ?_
          rintro e w5 ⟨rfl, h5, k5⟩
          have H5 := Lib.hid h5
          have G5 := Lib.hid (Only.on G4.out k5 HB.out)
          clear h5 k5 C2 G4
          go_wp2
          go_roundw
          case rel => exact ⟨j + 1, r', 0, by omega, by go_num, rfl, H5, G5⟩
          case measure => simp [Go.RowKit.intOf]; omega
    · obtain rfl : j = len0 := by omega
      have CL := Lib.hid (gwants_v HG.out (t != 0) (by rw [bne_decide]))
      clear HG
      go_wp2_with fail
      refine CL.out.mono ?_
      rintro e w3 ⟨rfl, h3, k3⟩
      have G3 := Lib.hid (Only.on GW.out k3 HB.out)
      clear h3 k3 CL GW
      go_wp2
      go_ret
      exact ⟨by simp, G3.out⟩
end Go.Proofs.Ytkbihejcihheaaa
