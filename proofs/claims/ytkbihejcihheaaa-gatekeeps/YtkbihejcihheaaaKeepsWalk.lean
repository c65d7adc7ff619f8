/-
  GateKeeps: what is kept, in however many parts, and flushed, is as what comes at once; a gate that isn't open keeps nothing; opened again it has nothing.
-/
import Derived.Test.YtkbihejcihheaaaGateLaw
namespace Go.Proofs.Ytkbihejcihheaaa
open Go.RowKit Go.Lib
set_option maxRecDepth 100000
set_option linter.unusedVariables false

/-- Three gates side by side, of which nothing was there at first. -/
structure G3 (W w : World) (n : Nat) (ga gb gc : Gt) : Prop where
  a : GAt w n ga
  b : GAt w (n + 1) gb
  c : GAt w (n + 2) gc
  w : W.grownBy w none
  l : W.heap.size ≤ n
section
variable {W w w' : World} {n : Nat} {ga gb gc g' : Gt}
theorem G3.on_a (H : G3 W w n ga gb gc) (h : GAt w' n g') (k : Only n (n + 1) w w') : G3 W w' n g' gb gc := ⟨h, H.b.only k (by omega), H.c.only k (by omega), Only.on H.w k H.l, H.l⟩
theorem G3.on_b (H : G3 W w n ga gb gc) (h : GAt w' (n + 1) g') (k : Only (n + 1) (n + 1 + 1) w w') : G3 W w' n ga g' gc := ⟨H.a.only k (by omega), h, H.c.only k (by omega), Only.on H.w k (by have := H.l; omega), H.l⟩
theorem G3.on_c (H : G3 W w n ga gb gc) (h : GAt w' (n + 2) g') (k : Only (n + 2) (n + 2 + 1) w w') : G3 W w' n ga gb g' := ⟨H.a.only k (by omega), H.b.only k (by omega), h, Only.on H.w k (by have := H.l; omega), H.l⟩
end
theorem tells_op (g : Gt) : (tells g).1.op = g.op := by
  unfold tells
  split
  · split <;> rfl
  · split
    · rfl
    · split <;> rfl
theorem g3_new (w : World) (T : TypeId) : G3 w (((w.alloc (Obj.cells #[.bool false, .int .i64 0, .int .i64 0, .int .u64 0, .int .i64 0, .int .i64 0, .int .i64 0] T)).alloc (Obj.cells #[.bool false, .int .i64 0, .int .i64 0, .int .u64 0, .int .i64 0, .int .i64 0, .int .i64 0] T)).alloc (Obj.cells #[.bool false, .int .i64 0, .int .i64 0, .int .u64 0, .int .i64 0, .int .i64 0, .int .i64 0] T)) w.heap.size ⟨false, 0, 0, 0, 0, 0, 0⟩ ⟨false, 0, 0, 0, 0, 0, 0⟩ ⟨false, 0, 0, 0, 0, 0, 0⟩ := by
  have s1 : (w.alloc (Obj.cells #[.bool false, .int .i64 0, .int .i64 0, .int .u64 0, .int .i64 0, .int .i64 0, .int .i64 0] T)).heap.size = w.heap.size + 1 := by show (w.heap.push _).size = _; rw [Array.size_push]
  have h1 := gt_new w T
  have h2 := gt_new (w.alloc (Obj.cells #[.bool false, .int .i64 0, .int .i64 0, .int .u64 0, .int .i64 0, .int .i64 0, .int .i64 0] T)) T
  have s2 : ((w.alloc (Obj.cells #[.bool false, .int .i64 0, .int .i64 0, .int .u64 0, .int .i64 0, .int .i64 0, .int .i64 0] T)).alloc (Obj.cells #[.bool false, .int .i64 0, .int .i64 0, .int .u64 0, .int .i64 0, .int .i64 0, .int .i64 0] T)).heap.size = w.heap.size + 1 + 1 := by show ((w.alloc (Obj.cells #[.bool false, .int .i64 0, .int .i64 0, .int .u64 0, .int .i64 0, .int .i64 0, .int .i64 0] T)).heap.push _).size = _; rw [Array.size_push, s1]
  have h3 := gt_new ((w.alloc (Obj.cells #[.bool false, .int .i64 0, .int .i64 0, .int .u64 0, .int .i64 0, .int .i64 0, .int .i64 0] T)).alloc (Obj.cells #[.bool false, .int .i64 0, .int .i64 0, .int .u64 0, .int .i64 0, .int .i64 0, .int .i64 0] T)) T
  rw [s1] at h2
  rw [s2] at h3
  have k1 := World.grownBy_alloc w (Obj.cells #[.bool false, .int .i64 0, .int .i64 0, .int .u64 0, .int .i64 0, .int .i64 0, .int .i64 0] T) none
  have k2 := World.grownBy_alloc (w.alloc (Obj.cells #[.bool false, .int .i64 0, .int .i64 0, .int .u64 0, .int .i64 0, .int .i64 0, .int .i64 0] T)) (Obj.cells #[.bool false, .int .i64 0, .int .i64 0, .int .u64 0, .int .i64 0, .int .i64 0, .int .i64 0] T) none
  have k3 := World.grownBy_alloc ((w.alloc (Obj.cells #[.bool false, .int .i64 0, .int .i64 0, .int .u64 0, .int .i64 0, .int .i64 0, .int .i64 0] T)).alloc (Obj.cells #[.bool false, .int .i64 0, .int .i64 0, .int .u64 0, .int .i64 0, .int .i64 0, .int .i64 0] T)) (Obj.cells #[.bool false, .int .i64 0, .int .i64 0, .int .u64 0, .int .i64 0, .int .i64 0, .int .i64 0] T) none
  exact ⟨(h1.kept k2).kept k3, h2.kept k3, h3, (k1.trans k2).trans k3, Nat.le_refl _⟩

set_option maxRecDepth 100000 in
set_option maxHeartbeats 16000000 in
theorem keeps_walk (x z : Int) (sa0 : Option Addr) (len0 cap0 sb0 off0 : Nat) (zs0 : Nat → Int) (w : World)
    (_hm0 : len0 ≤ maxLen) (hs0 : 0 < len0 → sa0 = some ⟨sb0, off0, none⟩ ∧ sb0 < w.heap.size) (hz0 : ∀ j, j < len0 → w.cell? ⟨sb0, off0 + j, none⟩ = some (.int .i64 (zs0 j))) :
    Calls Try.prog 6 #[.int .i64 x, .int .i64 z, .slice sa0 len0 cap0] w fun e w' => e = .returned (.bool true) ∧ w.grownBy w' none := by
  have C0 := Lib.hid (alive11 w)
  have R0 : Hid (∀ (v : World) (j : Nat), w.grownBy v none → j < len0 → sa0 = some ⟨sb0, off0, none⟩ ∧ v.cell? ⟨sb0, off0 + j, none⟩ = some (.int .i64 (zs0 j))) := Lib.hid fun v j k hj => by
    obtain ⟨h1, h2⟩ := hs0 (by omega)
    exact ⟨h1, (k.cell_far ⟨sb0, off0 + j, none⟩ h2 (by simp)).trans (hz0 j hj)⟩
  clear hs0 hz0
  by_cases hl0 : 30 < len0
  · have q : (30 : Int) < (len0 : Int) := by omega
    go_enter Try.func6, Try.ntmps6
    go_wp2_with fail
    refine C0.out.mono ?_
    rintro e w1 ⟨rfl, k1⟩
    go_wp2
    go_ret
    exact ⟨rfl, k1⟩
  have q0 : ¬ (30 : Int) < (len0 : Int) := by omega
  obtain ⟨y, hy⟩ : ∃ y : Int, y = 1 + x % 4 := ⟨_, rfl⟩
  have hy1 : 1 ≤ y ∧ y ≤ 7 := by omega
  have q2 : IntKind.i64.wrap (1 + bits .and .i64 x 3) = y := by rw [and3, IntKind.wrap_i64]; omega
  have HY := Lib.hid hy1
  clear hy hy1
  obtain ⟨d, hd⟩ : ∃ d : Int, bits .and .i64 z 1 = d := ⟨_, rfl⟩
  have HD : Hid (0 ≤ d ∧ d ≤ 2) := Lib.hid (by rw [and1] at hd; omega)
  go_enter Try.func6, Try.ntmps6
  go_wp2_with fail
  refine C0.out.mono ?_
  rintro e u1 ⟨rfl, k1⟩
  have G1 := Lib.hid k1
  clear k1 C0
  have H0 := Lib.hid (g3_new u1 28)
  go_wp2_with fail
  refine (gopen_v H0.out.a).mono ?_
  rintro e v1 ⟨rfl, h, k⟩
  have H1 := Lib.hid (H0.out.on_a h k)
  clear h k H0
  go_wp2_with fail
  refine (gopen_v H1.out.b).mono ?_
  rintro e v2 ⟨rfl, h, k⟩
  have H2 := Lib.hid (H1.out.on_b h k)
  clear h k H1
  go_wp2_with fail
  refine (gwatch_v H2.out.a 3 y d 0 HY.out HD.out (zero_and y)).mono ?_
  rintro e v3 ⟨rfl, h, k⟩
  have H3 := Lib.hid (H2.out.on_a h k)
  clear h k H2
  go_wp2_with fail
  refine (gwatch_v H3.out.b 3 y d 0 HY.out HD.out (zero_and y)).mono ?_
  rintro e v4 ⟨rfl, h, k⟩
  have H4 := Lib.hid (H3.out.on_b h k)
  clear h k H3
  have GW : Hid (G3 w v4 u1.heap.size _ _ _) := Lib.hid ⟨H4.out.a, H4.out.b, H4.out.c, G1.out.trans H4.out.w, G1.out.size⟩
  clear H4 G1 q2 hd
  generalize u1.heap.size = b at *
  go_wp2_with fail
  go_loopw [36] (fun it wr => ∃ (j : Nat) (l : Int), j ≤ len0 ∧ it = .int .i64 j ∧ Hid (bits .and .i64 l 7 = l) ∧ Hid (G3 w wr b ⟨true, 0, l, 3, y, d, 0⟩ ⟨true, l, 0, 3, y, d, bits .and .i64 l y⟩ ⟨false, 0, 0, 0, 0, 0, 0⟩)) (fun it _ => len0 - (Go.RowKit.intOf it).toNat)
  case atStart => exact ⟨0, 0, Nat.zero_le _, rfl, Lib.hid (zero_and 7), Lib.hid (by rw [zero_and]; exact GW.out)⟩
  case round =>
    obtain ⟨j, l, hj, rfl, HL, H0⟩ := hrel
    clear GW
    by_cases hlt : j < len0
    · obtain ⟨rfl, hc⟩ := R0.out wr j H0.out.w hlt
      have qj : (j : Int) < (len0 : Int) := by omega
      obtain ⟨c, hcc⟩ : ∃ c, zs0 j = c := ⟨_, rfl⟩
      rw [hcc] at hc
      clear hcc
      obtain ⟨l', hl'⟩ : ∃ r', bits .or .i64 l (bits .and .i64 c 7) = r' := ⟨_, rfl⟩
      have HL' : Hid (bits .and .i64 l' 7 = l') := Lib.hid (by rw [← hl']; exact or_low7 l c HL.out)
      have HT' : Hid (bits .or .i64 (bits .and .i64 l y) (bits .and .i64 c y) = bits .and .i64 l' y) := Lib.hid (by rw [← hl']; exact (or_and HY.out l c).symm)
      go_wp2_with fail
      refine (gkeep_v H0.out.a c l' hl').mono ?_
      rintro e v1 ⟨rfl, h, k⟩
      have H1 := Lib.hid (H0.out.on_a h k)
      clear h k H0
      clear hc
      go_wp2_with fail
      refine (gmeet_v H1.out.b c l' _ hl' HT'.out).mono ?_
      rintro e v2 ⟨rfl, h, k⟩
      have H2 := Lib.hid (H1.out.on_b h k)
      clear h k H1
      go_wp2_with fail
      refine (gkeep_n H2.out.c c).mono ?_
      rintro e v3 ⟨rfl, h, k⟩
      have H3 := Lib.hid (H2.out.on_c h k)
      clear h k H2
      go_wp2_with fail
      refine (gmeet_n H3.out.c c).mono ?_
      rintro e v4 ⟨rfl, h, k⟩
      have H4 := Lib.hid (H3.out.on_c h k)
      clear h k H3
      clear hl'
      go_wp2
      go_roundw
      case rel => exact ⟨j + 1, l', by omega, by go_num, HL', H4⟩
      case measure => simp [Go.RowKit.intOf]; omega
    · obtain rfl : j = len0 := by omega
      clear hj hlt
      have H0 : Hid (G3 w wr b ⟨true, 0, l, 3, y, d, 0⟩ ⟨true, l, 0, 3, y, d, bits .and .i64 l y⟩ ⟨false, 0, 0, 0, 0, 0, 0⟩) := H0
      obtain ⟨t, ht⟩ : ∃ t, bits .and .i64 l y = t := ⟨_, rfl⟩
      have H0 : Hid (G3 w wr b ⟨true, 0, l, 3, y, d, 0⟩ ⟨true, l, 0, 3, y, d, t⟩ ⟨false, 0, 0, 0, 0, 0, 0⟩) := by rw [← ht]; exact H0
      have HT : Hid (bits .or .i64 0 (bits .and .i64 l y) = t) := Lib.hid (by rw [or0_and]; exact ht)
      have HLL : Hid (bits .or .i64 0 (bits .and .i64 l 7) = l) := Lib.hid (by rw [or0_and]; exact HL.out)
      obtain ⟨h, hh⟩ : ∃ h, (tells ⟨true, l, 0, 3, y, d, t⟩) = h := ⟨_, rfl⟩
      obtain ⟨⟨o5, r5, l5, h5, x5, m5, t5⟩, hb, tb⟩ := h
      obtain rfl : o5 = true := by have := tells_op ⟨true, l, 0, 3, y, d, t⟩; rw [hh] at this; exact this
      have HTT := Lib.hid hh
      clear ht hh
      have hfd : ∀ w : World, (Instr.field 26 (.agg #[.bool true, .int .i64 0, .int .i64 l, .int .u64 3, .int .i64 y, .int .i64 d, .int .i64 0]) 1).run Try.prog w = .ok (.int .i64 0) w := fun _ => by kernel_rfl
      by_cases hz : 0 < j
      · have qz : (0 : Int) < (j : Int) := by omega
        clear hz
        go_wp2_with fail
        refine (glook_v H0.out.a).mono ?_
        rintro e v1 ⟨rfl, h, k⟩
        have H1 := Lib.hid (H0.out.on_a h k)
        clear h k H0
        go_wp2_with fail
        refine (gflush_v H1.out.a l t HLL.out HT.out).mono ?_
        rintro e v2 ⟨rfl, h, k⟩
        have H2 := Lib.hid (H1.out.on_a h k)
        clear h k H1
        go_wp2_with fail
        refine (glook_v H2.out.a).mono ?_
        rintro e v3 ⟨rfl, h, k⟩
        have H3 := Lib.hid (H2.out.on_a h k)
        clear h k H2
        go_wp2_with fail
        refine (glook_v H3.out.b).mono ?_
        rintro e v4 ⟨rfl, h, k⟩
        have H4 := Lib.hid (H3.out.on_b h k)
        clear h k H3
        go_wp2_with fail
        refine (glook_v H4.out.c).mono ?_
        rintro e v5 ⟨rfl, h, k⟩
        have H5 := Lib.hid (H4.out.on_c h k)
        clear h k H4
        go_wp2_with fail
        refine (gtell_any H5.out.a HD.out _ _ _ HTT.out).mono ?_
        rintro e v6 ⟨rfl, h, k⟩
        have H6 := Lib.hid (H5.out.on_a h k)
        clear h k H5
        go_wp2_with fail
        refine (gtell_any H6.out.b HD.out _ _ _ HTT.out).mono ?_
        rintro e v7 ⟨rfl, h, k⟩
        have H7 := Lib.hid (H6.out.on_b h k)
        clear h k H6
        go_wp2_with fail
        refine (gclose_v H7.out.a).mono ?_
        rintro e v8 ⟨rfl, h, k⟩
        have H8 := Lib.hid (H7.out.on_a h k)
        clear h k H7
        go_wp2_with fail
        refine (gopen_v H8.out.a).mono ?_
        rintro e v9 ⟨rfl, h, k⟩
        have H9 := Lib.hid (H8.out.on_a h k)
        clear h k H8
        go_wp2_with fail
        refine (glook_v H9.out.a).mono ?_
        rintro e v10 ⟨rfl, h, k⟩
        have H10 := Lib.hid (H9.out.on_a h k)
        clear h k H9
        go_wp2
        go_ret
        exact ⟨by simp, H10.out.w⟩
      · obtain rfl : j = 0 := by omega
        clear hz
        go_wp2_with fail
        refine (gflush_v H0.out.a l t HLL.out HT.out).mono ?_
        rintro e v1 ⟨rfl, h, k⟩
        have H1 := Lib.hid (H0.out.on_a h k)
        clear h k H0
        go_wp2_with fail
        refine (glook_v H1.out.a).mono ?_
        rintro e v2 ⟨rfl, h, k⟩
        have H2 := Lib.hid (H1.out.on_a h k)
        clear h k H1
        go_wp2_with fail
        refine (glook_v H2.out.b).mono ?_
        rintro e v3 ⟨rfl, h, k⟩
        have H3 := Lib.hid (H2.out.on_b h k)
        clear h k H2
        go_wp2_with fail
        refine (glook_v H3.out.c).mono ?_
        rintro e v4 ⟨rfl, h, k⟩
        have H4 := Lib.hid (H3.out.on_c h k)
        clear h k H3
        go_wp2_with fail
        refine (gtell_any H4.out.a HD.out _ _ _ HTT.out).mono ?_
        rintro e v5 ⟨rfl, h, k⟩
        have H5 := Lib.hid (H4.out.on_a h k)
        clear h k H4
        go_wp2_with fail
        refine (gtell_any H5.out.b HD.out _ _ _ HTT.out).mono ?_
        rintro e v6 ⟨rfl, h, k⟩
        have H6 := Lib.hid (H5.out.on_b h k)
        clear h k H5
        go_wp2_with fail
        refine (gclose_v H6.out.a).mono ?_
        rintro e v7 ⟨rfl, h, k⟩
        have H7 := Lib.hid (H6.out.on_a h k)
        clear h k H6
        go_wp2_with fail
        refine (gopen_v H7.out.a).mono ?_
        rintro e v8 ⟨rfl, h, k⟩
        have H8 := Lib.hid (H7.out.on_a h k)
        clear h k H7
        go_wp2_with fail
        refine (glook_v H8.out.a).mono ?_
        rintro e v9 ⟨rfl, h, k⟩
        have H9 := Lib.hid (H8.out.on_a h k)
        clear h k H8
        go_wp2
        go_ret
        exact ⟨by simp, H9.out.w⟩
end Go.Proofs.Ytkbihejcihheaaa
