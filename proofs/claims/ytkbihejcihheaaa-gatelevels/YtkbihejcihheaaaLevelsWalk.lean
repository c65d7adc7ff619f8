/-
  GateLevels: watched by its level, a gate tells again and again what is ready, as long as it is, and nothing else.
-/
import Derived.Test.YtkbihejcihheaaaGateLaw
import Derived.Deep.RegionHeld3
namespace Go.Proofs.Ytkbihejcihheaaa
open Go.RowKit Go.Lib
set_option maxRecDepth 100000
set_option linter.unusedVariables false

set_option maxRecDepth 100000 in
set_option maxHeartbeats 8000000 in
theorem levels_walk (x : Int) (sa0 : Option Addr) (len0 cap0 sb0 off0 : Nat) (zs0 : Nat → Int) (sa1 : Option Addr) (len1 cap1 sb1 off1 : Nat) (zs1 : Nat → Int) (w : World)
    (_hm0 : len0 ≤ maxLen) (hs0 : 0 < len0 → sa0 = some ⟨sb0, off0, none⟩ ∧ sb0 < w.heap.size) (hz0 : ∀ j, j < len0 → w.cell? ⟨sb0, off0 + j, none⟩ = some (.int .i64 (zs0 j)))
    (_hm1 : len1 ≤ maxLen) (hs1 : 0 < len1 → sa1 = some ⟨sb1, off1, none⟩ ∧ sb1 < w.heap.size) (hz1 : ∀ j, j < len1 → w.cell? ⟨sb1, off1 + j, none⟩ = some (.int .i64 (zs1 j))) :
    Calls Try.prog 3 #[.int .i64 x, .slice sa0 len0 cap0, .slice sa1 len1 cap1] w fun e w' => e = .returned (.bool true) ∧ w.grownBy w' none := by
  have C0 := Lib.hid (alive11 w)
  have R0 : Hid (∀ (v : World) (j : Nat), w.grownBy v none → j < len0 → sa0 = some ⟨sb0, off0, none⟩ ∧ v.cell? ⟨sb0, off0 + j, none⟩ = some (.int .i64 (zs0 j))) := Lib.hid fun v j k hj => by
    obtain ⟨h1, h2⟩ := hs0 (by omega)
    exact ⟨h1, (k.cell_far ⟨sb0, off0 + j, none⟩ h2 (by simp)).trans (hz0 j hj)⟩
  have R1 : Hid (∀ (v : World) (j : Nat), w.grownBy v none → j < len1 → sa1 = some ⟨sb1, off1, none⟩ ∧ v.cell? ⟨sb1, off1 + j, none⟩ = some (.int .i64 (zs1 j))) := Lib.hid fun v j k hj => by
    obtain ⟨h1, h2⟩ := hs1 (by omega)
    exact ⟨h1, (k.cell_far ⟨sb1, off1 + j, none⟩ h2 (by simp)).trans (hz1 j hj)⟩
  have HS1 : Hid (0 < len1 → sb1 < w.heap.size) := Lib.hid fun h => (hs1 h).2
  clear hs0 hz0 hs1 hz1
  by_cases hl0 : 30 < len0
  · have q : (30 : Int) < (len0 : Int) := by omega
    go_enter Try.func3, Try.ntmps3
    go_wp2_with fail
    refine C0.out.mono ?_
    rintro e w1 ⟨rfl, k1⟩
    go_wp2
    go_ret
    exact ⟨rfl, k1⟩
  have q0 : ¬ (30 : Int) < (len0 : Int) := by omega
  by_cases hl1 : len1 < len0
  · have q : (len1 : Int) < (len0 : Int) := by omega
    go_enter Try.func3, Try.ntmps3
    go_wp2_with fail
    refine C0.out.mono ?_
    rintro e w1 ⟨rfl, k1⟩
    go_wp2
    go_ret
    exact ⟨rfl, k1⟩
  have q1 : ¬ (len1 : Int) < (len0 : Int) := by omega
  obtain ⟨y, hy⟩ : ∃ y : Int, y = 1 + x % 4 := ⟨_, rfl⟩
  have hy1 : 1 ≤ y ∧ y ≤ 7 := by omega
  have q2 : IntKind.i64.wrap (1 + bits .and .i64 x 3) = y := by rw [and3, IntKind.wrap_i64]; omega
  have HY := Lib.hid hy1
  clear hy hy1
  go_enter Try.func3, Try.ntmps3
  go_wp2_with fail
  refine C0.out.mono ?_
  rintro e u1 ⟨rfl, k1⟩
  have G1 := Lib.hid k1
  clear k1 C0
  have H0 := Lib.hid (gt_new u1 28)
  have K0 := Lib.hid (Only.refl u1.heap.size (u1.heap.size + 1) (u1.alloc (Obj.cells #[.bool false, .int .i64 0, .int .i64 0, .int .u64 0, .int .i64 0, .int .i64 0, .int .i64 0] 28)))
  go_wp2_with fail
  refine (gopen_v H0.out).mono ?_
  rintro e w1 ⟨rfl, h, k⟩
  have H1 := Lib.hid h
  have K1 := Lib.hid (K0.out.trans k)
  clear h k H0 K0
  go_wp2_with fail
  refine (gwatch_v H1.out 4 y 0 (bits .and .i64 0 y) HY.out (by decide) rfl).mono ?_
  rintro e w2 ⟨rfl, h, k⟩
  have H2 := Lib.hid h
  have K2 := Lib.hid (K1.out.trans k)
  clear h k H1 K1
  have KW := Lib.hid (G1.out.trans K2.out.new)
  have HB : Hid (w.heap.size ≤ u1.heap.size) := Lib.hid G1.out.size
  clear K2 G1 q2
  generalize u1.heap.size = b at *
  go_wp2_with fail
  go_loopw [8, 33] (fun s it wr => ∃ (j : Nat) (r t : Int), j ≤ len0 ∧ it = .int .i64 j ∧ s = .int .i64 r ∧ Hid (GAt wr b ⟨true, r, 0, 4, y, 0, t⟩) ∧ Hid (w.grownBy wr none)) (fun s it _ => len0 - (Go.RowKit.intOf it).toNat)
  case atStart => exact ⟨0, 0, _, Nat.zero_le _, rfl, rfl, H2, KW⟩
  case round =>
    obtain ⟨j, r, t, hj, rfl, rfl, HG, GW⟩ := hrel
    clear H2 KW
    by_cases hlt : j < len0
    · obtain ⟨rfl, hc⟩ := R0.out wr j GW.out hlt
      have qj : (j : Int) < (len0 : Int) := by omega
      obtain ⟨c, hcc⟩ : ∃ c, zs0 j = c := ⟨_, rfl⟩
      rw [hcc] at hc
      clear hcc
      obtain ⟨r', hr'⟩ : ∃ r', bits .or .i64 r (bits .and .i64 c 7) = r' := ⟨_, rfl⟩
      obtain ⟨t', ht'⟩ : ∃ t', bits .or .i64 t (bits .and .i64 c y) = t' := ⟨_, rfl⟩
      obtain ⟨m, hm⟩ : ∃ m, bits .and .i64 r' y = m := ⟨_, rfl⟩
      have CM := Lib.hid (gmeet_v HG.out c r' t' hr' ht')
      clear ht' HG
      go_wp2_with fail
      refine CM.out.mono ?_
      rintro e w3 ⟨rfl, h3, k3⟩
      have H3 := Lib.hid h3
      have G3 := Lib.hid (Only.on GW.out k3 HB.out)
      clear h3 k3 CM GW hc
      have HT : Hid (∃ h : Int, tells ⟨true, r', 0, 4, y, 0, t'⟩ = (⟨true, r', 0, 4, y, 0, m⟩, h, m) ∧ ((m = 0 ∧ h = 0) ∨ (m ≠ 0 ∧ h = 4))) := by
        refine Lib.hid ?_
        unfold tells
        simp only [if_true, hm]
        by_cases h0 : m = 0
        · subst h0
          exact ⟨0, by simp, Or.inl ⟨rfl, rfl⟩⟩
        · exact ⟨4, by simp [h0], Or.inr ⟨h0, rfl⟩⟩
      obtain ⟨h, e1, e2⟩ := HT.out
      have CT := Lib.hid (gtell_any H3.out ⟨(by decide : (0 : Int) ≤ 0), (by decide : (0 : Int) ≤ 2)⟩ _ _ _ e1)
      clear e1 HT H3
      go_wp2_with fail
      refine CT.out.mono ?_
      rintro e w4 ⟨rfl, h4, k4⟩
      have H4 := Lib.hid h4
      have G4 := Lib.hid (Only.on G3.out k4 HB.out)
      clear h4 k4 CT G3
      obtain ⟨rfl, hc1⟩ := R1.out w4 j G4.out (by omega)
      obtain ⟨g, hgg⟩ : ∃ g, zs1 j = g := ⟨_, rfl⟩
      rw [hgg] at hc1
      clear hgg
      have qj1 : (j : Int) < (len1 : Int) := by omega
      obtain ⟨a, ha⟩ : ∃ a, bits .and .i64 r' g = a := ⟨_, rfl⟩
      obtain ⟨r2, hr2⟩ : ∃ a, bits .andNot .i64 r' g = a := ⟨_, rfl⟩
      have CA := Lib.hid (gack_v H4.out.drew g a r2 ha hr2)
      have hsb : Hid ((sb1 < b ∨ b + 1 ≤ sb1) ∧ sb1 < w4.heap.size) := by
        have := HB.out
        have := G4.out.size
        have := HS1.out (by omega)
        exact Lib.hid (by omega)
      clear H4
      have t3d : w4.drew.cell? ⟨sb1, off1 + j, none⟩ = some (.int .i64 g) := hc1
      have e2 : ((m = 0 ∧ h = 0) ∨ (m ≠ 0 ∧ h = 4)) ∧ (m != 0) = decide (h = 4) ∧ decide (m = 0) = !decide (h = 4) := ⟨e2, by rcases e2 with ⟨rfl, rfl⟩ | ⟨h0, rfl⟩ <;> simp [*], by rcases e2 with ⟨rfl, rfl⟩ | ⟨h0, rfl⟩ <;> simp [*]⟩
      rcases e2 with ⟨⟨rfl, rfl⟩ | ⟨h0, rfl⟩, e3, e4⟩
      all_goals
        go_wp2_with fail
        go_region_held3 (fun w' => w'.cell? ⟨sb1, off1 + j, none⟩ = some (.int .i64 g)) (first | exact t3d | exact t4)
          (first | (go_at_call 13; refine CA.out.mono ?_; rintro e w5 ⟨rfl, h5, k5⟩; have t4 := (k5.cell ⟨sb1, off1 + j, none⟩ hsb.out.2 hsb.out.1).trans t3d))
        all_goals
          have H5 := Lib.hid h5
          have G5 := Lib.hid (Only.on (G4.out.trans (⟨rfl, rfl, rfl, Nat.le_refl _, fun _ _ _ => rfl⟩ : w4.grownBy w4.drew none)) k5 HB.out)
          clear h5 k5 CA
          go_wp2
          go_roundw
          case rel => exact ⟨j + 1, r2, _, by omega, by go_num, rfl, H5, G5⟩
          case measure => simp [Go.RowKit.intOf]; omega
    · obtain rfl : j = len0 := by omega
      have CL := Lib.hid (glook_v HG.out)
      clear HG
      go_wp2_with fail
      refine CL.out.mono ?_
      rintro e w3 ⟨rfl, h3, k3⟩
      have G3 := Lib.hid (Only.on GW.out k3 HB.out)
      clear h3 k3 CL GW
      have hfd : ∀ w : World, (Instr.field 26 (.agg #[.bool true, .int .i64 r, .int .i64 0, .int .u64 4, .int .i64 y, .int .i64 0, .int .i64 t]) 1).run Try.prog w = .ok (.int .i64 r) w := fun _ => by kernel_rfl
      go_wp2
      go_ret
      exact ⟨rfl, G3.out⟩
end Go.Proofs.Ytkbihejcihheaaa
