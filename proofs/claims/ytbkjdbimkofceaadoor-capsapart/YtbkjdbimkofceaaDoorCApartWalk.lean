/-
  The walk of CapsApart, over this seat's translation: for all numbers, steps and turns it answers true, and leaves all that was as it was.
-/
import Derived.Test.YtbkjdbimkofceaaDoorCapsAlike
import Derived.Test.YtbkjdbimkofceaaDoorSame5
namespace Go.Proofs.YtbkjdbimkofceaaDoor
open Go.RowKit Go.Lib
set_option maxRecDepth 100000

/-- Two tables in one slab, by the range of their blocks. -/
def Two (w : World) (lo hi xb yb n G : Nat) (T U : Nat → Pl) : Prop := ∃ rb pb rx xp xs xg xh ry yp ys yg yh, TwoMem w lo hi rb pb n G xb rx xp xs xg xh T yb ry yp ys yg yh U
theorem Two.grown {w w' : World} {lo hi xb yb n G : Nat} {T U : Nat → Pl} (H : Two w lo hi xb yb n G T U) (k : w.grownBy w' none) : Two w' lo hi xb yb n G T U := by
  obtain ⟨rb, pb, rx, xp, xs, xg, xh, ry, yp, ys, yg, yh, H⟩ := H
  exact ⟨rb, pb, rx, xp, xs, xg, xh, ry, yp, ys, yg, yh, H.grown k⟩
theorem Two.only {w w' : World} {lo hi xb yb n G l h : Nat} {T U : Nat → Pl} (H : Two w lo hi xb yb n G T U) (k : Only l h w w') (hd : hi ≤ l ∨ h ≤ lo) : Two w' lo hi xb yb n G T U := by
  obtain ⟨rb, pb, rx, xp, xs, xg, xh, ry, yp, ys, yg, yh, H⟩ := H
  exact ⟨rb, pb, rx, xp, xs, xg, xh, ry, yp, ys, yg, yh, H.only k hd⟩
theorem Two.sz {w : World} {lo hi xb yb n G : Nat} {T U : Nat → Pl} (H : Two w lo hi xb yb n G T U) : hi ≤ w.heap.size ∧ n ≤ 256 := by
  obtain ⟨rb, pb, rx, xp, xs, xg, xh, ry, yp, ys, yg, yh, H⟩ := H
  exact ⟨H.sz, H.x.reg.hn⟩

set_option maxHeartbeats 2000000 in
/-- Two new tables in the two regions of a slab in which nothing is taken. -/
theorem two_made {w : World} {lo hi sb rb n : Nat} {nf : Nat → Nat} (gens : Int) (H : SR.SlabAt w lo hi sb rb 2 nf (fun _ _ => false) (fun _ _ => SR.Pr.none)) (h0 : nf 0 = n) (h1 : nf 1 = n) :
    Calls Tryd.prog 18 #[.pointer (some ⟨rb, 0, none⟩), .int .i64 gens] w fun e w' => ∃ xb, e = .returned (.pointer (some ⟨xb, 0, none⟩)) ∧ w.grownBy w' none ∧
      ∀ v : World, w'.grownBy v none → Calls Tryd.prog 18 #[.pointer (some ⟨rb, 2, none⟩), .int .i64 gens] v fun e v' => ∃ yb, e = .returned (.pointer (some ⟨yb, 0, none⟩)) ∧ v.grownBy v' none ∧ Two v' lo v'.heap.size xb yb n (gensOf gens) (fun _ => Pl.fresh) (fun _ => Pl.fresh) := by
  obtain ⟨pb, po, b, g, H⟩ := H
  obtain ⟨a1, a2, a3, a4, a5, a6, a7⟩ := H.r0
  have r0 := H.r1 0 (by decide)
  have r1 := H.r1 1 (by decide)
  have ap := H.apart 0 1 (by decide) (by decide) (by decide)
  have ap' := H.apart 1 0 (by decide) (by decide) (by decide)
  have R0 := H.reg 0 (by decide)
  have R1 := H.reg 1 (by decide)
  rw [h0] at R0 ap ap'
  rw [h1] at R1 ap ap'
  refine (cnew_made gens R0).mono ?_
  rintro e w' ⟨xb, xh, he, hg, q1, q2, C⟩
  refine ⟨xb, he, hg, fun v kv => ?_⟩
  have s1 := hg.size
  have s2 := kv.size
  refine (cnew_made gens (R1.kept (hg.trans kv))).mono ?_
  rintro e v' ⟨yb, yh, he', hg', q3, q4, C'⟩
  have s3 := hg'.size
  have lC := C.l
  have lC' := C'.l
  obtain ⟨l1, l2⟩ := lC
  obtain ⟨l3, l4⟩ := lC'
  obtain ⟨f1, f2, f3⟩ := ap
  obtain ⟨f4, f5, f6⟩ := ap'
  refine ⟨yb, he', hg', rb, pb, 0, po 0, b 0, g 0, xh, 2, po 1, b 1, g 1, yh, C.kept (kv.trans hg'), C', ?_, ?_, f3, ?_, Nat.le_refl _⟩
  · clear f3 f6 R0 R1 C C' H
    exact ⟨by omega, by omega, by omega, by omega, by omega, f1, by omega, f2⟩
  · clear f3 f6 R0 R1 C C' H
    exact ⟨by omega, by omega, by omega, by omega, by omega, f4, by omega, f5⟩
  · clear f3 f6 R0 R1 C C' H
    omega

set_option maxRecDepth 100000 in
set_option maxHeartbeats 16000000 in
theorem capart_walk (x gens : Int) (sa1 : Option Addr) (len1 cap1 sb1 off1 : Nat) (zs1 : Nat → Nat → Int) (hh1 : Nat → Nat) (sa2 : Option Addr) (len2 cap2 sb2 off2 : Nat) (zs2 : Nat → Nat → Int) (hh2 : Nat → Nat)
    (sa3 : Option Addr) (len3 cap3 sb3 off3 : Nat) (bs3 : Nat → Bool) (w : World) (hT : TabAt w)
    (_hm1 : len1 ≤ maxLen) (hsa1 : 0 < len1 → sa1 = some ⟨sb1, off1, none⟩ ∧ sb1 < w.heap.size)
    (hz1 : ∀ j, j < len1 → (∀ i, i < 5 → w.cell? ⟨sb1, off1 + j * 6 + i, none⟩ = some (.int .i64 (zs1 j i))) ∧ w.cell? ⟨sb1, off1 + j * 6 + 5, none⟩ = some (.int .u64 (hh1 j : Nat)) ∧ hh1 j < 18446744073709551616)
    (_hm2 : len2 ≤ maxLen) (hsa2 : 0 < len2 → sa2 = some ⟨sb2, off2, none⟩ ∧ sb2 < w.heap.size)
    (hz2 : ∀ j, j < len2 → (∀ i, i < 5 → w.cell? ⟨sb2, off2 + j * 6 + i, none⟩ = some (.int .i64 (zs2 j i))) ∧ w.cell? ⟨sb2, off2 + j * 6 + 5, none⟩ = some (.int .u64 (hh2 j : Nat)) ∧ hh2 j < 18446744073709551616)
    (_hm3 : len3 ≤ maxLen) (hsa3 : 0 < len3 → sa3 = some ⟨sb3, off3, none⟩ ∧ sb3 < w.heap.size) (hz3 : ∀ j, j < len3 → w.cell? ⟨sb3, off3 + j, none⟩ = some (.bool (bs3 j))) :
    Calls Tryd.prog 5 #[.int .i64 x, .int .i64 gens, .slice sa1 len1 cap1, .slice sa2 len2 cap2, .slice sa3 len3 cap3] w fun e w' => e = .returned (.bool true) ∧ w.grownBy w' none := by
  have C0 := Lib.hid (alive5 w hT)
  have HT := Lib.hid hT
  have hpos := tab_pos hT
  have HS1 := Lib.hid hsa1
  have HZ1 := Lib.hid hz1
  have HS2 := Lib.hid hsa2
  have HZ2 := Lib.hid hz2
  have HS3 := Lib.hid hsa3
  have HZ3 := Lib.hid hz3
  clear hT hsa1 hz1 _hm1 hsa2 hz2 _hm2 hsa3 hz3 _hm3
  by_cases hl : 40 < len1 ∨ 40 < len2 ∨ 90 < len3
  · have b1 : decide ((40 : Int) < (len1 : Int)) = decide (40 < len1) := by simp; omega
    have b2 : decide ((40 : Int) < (len2 : Int)) = decide (40 < len2) := by simp; omega
    have b3 : decide ((90 : Int) < (len3 : Int)) = decide (90 < len3) := by simp; omega
    by_cases q1 : 40 < len1
    · have p1 : (40 : Int) < (len1 : Int) := by omega
      go_enter Tryd.func5, Tryd.ntmps5
      go_wp2_with fail
      refine C0.out.mono ?_
      rintro e w0 ⟨rfl, hG0⟩
      go_wp2
      go_ret
      exact ⟨rfl, hG0⟩
    · have p1 : ¬ (40 : Int) < (len1 : Int) := by omega
      by_cases q2 : 40 < len2
      · have p2 : (40 : Int) < (len2 : Int) := by omega
        go_enter Tryd.func5, Tryd.ntmps5
        go_wp2_with fail
        refine C0.out.mono ?_
        rintro e w0 ⟨rfl, hG0⟩
        go_wp2
        go_ret
        exact ⟨rfl, hG0⟩
      · have p2 : ¬ (40 : Int) < (len2 : Int) := by omega
        have p3 : (90 : Int) < (len3 : Int) := by omega
        go_enter Tryd.func5, Tryd.ntmps5
        go_wp2_with fail
        refine C0.out.mono ?_
        rintro e w0 ⟨rfl, hG0⟩
        go_wp2
        go_ret
        exact ⟨rfl, hG0⟩
  have p1 : ¬ (40 : Int) < (len1 : Int) := by omega
  have p2 : ¬ (40 : Int) < (len2 : Int) := by omega
  have p3 : ¬ (90 : Int) < (len3 : Int) := by omega
  obtain ⟨n, hn, hn15⟩ : ∃ r : Nat, bits .and .i64 x 15 = (r : Int) ∧ r ≤ 15 := ⟨(x % 16).toNat, by have := i64_mask 4 (by decide) x; have e : bits .and .i64 x 15 = x % 16 := (by simpa using this); rw [e]; omega, by omega⟩
  have ka := World.grownBy_alloc w (.cells #[.int .i64 n, .int .i64 n] 3) none
  go_enter Tryd.func5, Tryd.ntmps5
  go_wp2_with fail
  refine C0.out.mono ?_
  rintro e w1 ⟨rfl, k1⟩
  have hw1 := k1.size
  have ka := World.grownBy_alloc w1 (.cells #[.int .i64 n, .int .i64 n] 3) none
  have CA := Lib.hid (SR.new_made _ 2 2 _ _ (caps_two w1 n n))
  have KA := Lib.hid (grow_to k1 ka)
  have hlo : w.heap.size ≤ (w1.alloc (.cells #[.int .i64 n, .int .i64 n] 3)).heap.size := Nat.le_trans hw1 ka.size
  clear C0 ka k1
  go_wp2_with fail
  refine CA.out.mono ?_
  rintro e u0 ⟨sb, rb, rfl, q0, A0⟩
  have g0 := grow_to KA.out q0
  generalize (w1.alloc (.cells #[.int .i64 n, .int .i64 n] 3)).heap.size = lo at A0 hlo
  clear CA q0
  have C1 : Hid (Calls Tryd.prog 19 #[.pointer (some ⟨sb, 0, none⟩), .int .i64 0] u0 fun e w' => e = .returned (.pointer (some ⟨rb, 0, none⟩)) ∧ u0.grownBy w' none) := Lib.hid (SR.region_in 0 A0 (by decide))
  go_wp2_with fail
  refine C1.out.mono ?_
  rintro e u1 ⟨rfl, q1⟩
  have A1 := A0.grown q1
  have g1 := grow_to g0 q1
  clear C1 A0 g0 q1
  have e1 : nOf (fun j => if j = 0 then (n : Int) else (n : Int)) 0 = n := by simp [nOf, roomN]; omega
  have e2 : nOf (fun j => if j = 0 then (n : Int) else (n : Int)) 1 = n := by simp [nOf, roomN]; omega
  have CN := Lib.hid (two_made gens A1 e1 e2)
  have HA1 := Lib.hid A1
  clear A1 e1 e2
  go_wp2_with fail
  refine CN.out.mono ?_
  rintro e u2 ⟨xb, rfl, q2, cy⟩
  have CY := Lib.hid cy
  have A2 := HA1.out.grown q2
  have g2 := grow_to g1 q2
  clear CN cy HA1 g1 q2
  have C1 : Hid (Calls Tryd.prog 19 #[.pointer (some ⟨sb, 0, none⟩), .int .i64 1] u2 fun e w' => e = .returned (.pointer (some ⟨rb, 2, none⟩)) ∧ u2.grownBy w' none) := Lib.hid (SR.region_in 1 A2 (by decide))
  clear A2
  go_wp2_with fail
  refine C1.out.mono ?_
  rintro e u3 ⟨rfl, q3⟩
  have CY3 := Lib.hid (CY.out u3 q3)
  have g3 := grow_to g2 q3
  clear C1 CY g2 q3
  go_wp2_with fail
  refine CY3.out.mono ?_
  rintro e u4 ⟨yb, rfl, q4, W4⟩
  have g4 := grow_to g3 q4
  have CT := Lib.hid (table_made n gens u4 (by omega))
  clear CY3 g3 q4
  go_wp2_with fail
  refine CT.out.mono ?_
  rintro e u5 ⟨ab, rfl, q5, A5⟩
  have W5 := Lib.hid (W4.grown q5)
  have HA5 := Lib.hid A5
  have G5 := Lib.hid (grow_to g4 q5)
  clear CT W4 A5 g4 q5
  generalize gensOf gens = G at *
  generalize u4.heap.size = hi at *
  generalize u5.heap.size = hi2 at *
  go_wp2_with fail
  go_loopw [15, 16, 53] (fun iv jv it wr => ∃ (i j t : Nat) (T U : Nat → Pl), i ≤ len1 ∧ j ≤ len2 ∧ t ≤ len3 ∧ iv = .int .i64 i ∧ jv = .int .i64 j ∧ it = .int .i64 t ∧ Hid (Two wr lo hi xb yb n G T U) ∧ Hid (Tb wr hi hi2 ab n G T) ∧ w.grownBy wr none) (fun _ _ it _ => len3 - (intOf it).toNat)
  case atStart => exact ⟨0, 0, 0, _, _, Nat.zero_le _, Nat.zero_le _, Nat.zero_le _, rfl, rfl, rfl, W5, HA5, G5.out⟩
  case round =>
    obtain ⟨i, j, t, T, U, hi1, hj2, ht3, rfl, rfl, rfl, W1, A1, G1⟩ := hrel
    clear W5 HA5 G5
    by_cases hlt : t < len3
    · obtain ⟨rfl, hsb3⟩ := HS3.out (by omega)
      have qt : (t : Int) < (len3 : Int) := by omega
      have c3 : wr.cell? ⟨sb3, off3 + t, none⟩ = some (.bool (bs3 t)) := (G1.cell_far ⟨sb3, off3 + t, none⟩ hsb3 (by simp)).trans (HZ3.out t hlt)
      generalize bs3 t = c at *
      cases c
      · by_cases hj : j < len2
        · obtain ⟨rfl, hsb2⟩ := HS2.out (by omega)
          have qj : (j : Int) < (len2 : Int) := by omega
          have qj0 : ¬ (j : Int) < 0 := by omega
          have hzj := HZ2.out j hj
          have kd1 : wr.grownBy wr.drew none := ⟨rfl, rfl, rfl, Nat.le_refl _, fun _ _ _ => rfl⟩
          have G2 := grow_to G1 kd1
          have hc : ∀ a, a < 5 → wr.drew.cell? ⟨sb2, off2 + j * 6 + a, none⟩ = some (.int .i64 (zs2 j a)) := fun a ha => (G2.cell_far ⟨sb2, off2 + j * 6 + a, none⟩ hsb2 (by simp)).trans (hzj.1 a ha)
          have c5 : wr.drew.cell? ⟨sb2, off2 + j * 6 + 5, none⟩ = some (.int .u64 (hh2 j : Nat)) := (G2.cell_far ⟨sb2, off2 + j * 6 + 5, none⟩ hsb2 (by simp)).trans hzj.2.1
          have hh0 := hzj.2.2
          have c0 : wr.drew.cell? ⟨sb2, off2 + j * 6, none⟩ = some (.int .i64 (zs2 j 0)) := hc 0 (by decide)
          have c2 := hc 2 (by decide)
          have c3' : wr.drew.cell? ⟨sb2, off2 + j * 6 + 2 + 1, none⟩ = some (.int .i64 (zs2 j 3)) := hc 3 (by decide)
          have c4 : wr.drew.cell? ⟨sb2, off2 + j * 6 + 2 + 2, none⟩ = some (.int .i64 (zs2 j 4)) := hc 4 (by decide)
          clear hc hzj
          generalize zs2 j 0 = kd at *
          generalize zs2 j 2 = ck at *
          generalize zs2 j 3 = ci at *
          generalize zs2 j 4 = cr at *
          generalize hh2 j = h0 at *
          have CL : Hid (Calls Tryd.prog 20 #[.pointer (some ⟨yb, 0, none⟩), .pointer (some ⟨yb, 0, none⟩), .agg #[.int .i64 kd, .int .i64 0, .int .i64 ck, .int .i64 ci, .int .i64 cr, .int .u64 (h0 : Nat)]] wr.drew fun e w' => ∃ U', e = .returned (.bool true) ∧ Only lo hi wr.drew w' ∧ Hid (Two w' lo hi xb yb n G T U')) := Lib.hid (by
            obtain ⟨rb, pb, rx, xp, xs, xg, xh, ry, yp, ys, yg, yh, H⟩ := W1.out.grown kd1
            exact (alike_one kd 0 ck ci cr h0 H (HT.out.kept G2) hh0).mono fun e w' ⟨U', he, k, H'⟩ => ⟨U', he, k, Lib.hid ⟨rb, pb, rx, xp, xs, xg, xh, ry, yp, ys, yg, yh, H'⟩⟩)
          have A2 := Lib.hid (A1.out.grown kd1)
          clear W1 A1
          go_upto_region 17 with fail
          go_region_held3 (fun w' => w'.cell? ⟨sb2, off2 + j * 6, none⟩ = some (.int .i64 kd) ∧ w'.cell? ⟨sb2, off2 + j * 6 + 2, none⟩ = some (.int .i64 ck) ∧ w'.cell? ⟨sb2, off2 + j * 6 + 2 + 1, none⟩ = some (.int .i64 ci) ∧ w'.cell? ⟨sb2, off2 + j * 6 + 2 + 2, none⟩ = some (.int .i64 cr) ∧ w'.cell? ⟨sb2, off2 + j * 6 + 5, none⟩ = some (.int .u64 (h0 : Nat))) (first | exact ⟨c0, c2, c3', c4, c5⟩ | exact ⟨d0, d2, d3, d4, d5⟩)
            ((go_at_call 20; with_reducible refine CL.out.mono ?_; rintro e w7 ⟨U', rfl, k7, W7⟩; have d0 := (k7.cell ⟨sb2, off2 + j * 6, none⟩ (show sb2 < wr.drew.heap.size from Nat.lt_of_lt_of_le hsb2 G2.size) (Or.inl (show sb2 < lo by omega))).trans c0; have d2 := (k7.cell ⟨sb2, off2 + j * 6 + 2, none⟩ (show sb2 < wr.drew.heap.size from Nat.lt_of_lt_of_le hsb2 G2.size) (Or.inl (show sb2 < lo by omega))).trans c2; have d3 := (k7.cell ⟨sb2, off2 + j * 6 + 2 + 1, none⟩ (show sb2 < wr.drew.heap.size from Nat.lt_of_lt_of_le hsb2 G2.size) (Or.inl (show sb2 < lo by omega))).trans c3'; have d4 := (k7.cell ⟨sb2, off2 + j * 6 + 2 + 2, none⟩ (show sb2 < wr.drew.heap.size from Nat.lt_of_lt_of_le hsb2 G2.size) (Or.inl (show sb2 < lo by omega))).trans c4; have d5 := (k7.cell ⟨sb2, off2 + j * 6 + 5, none⟩ (show sb2 < wr.drew.heap.size from Nat.lt_of_lt_of_le hsb2 G2.size) (Or.inl (show sb2 < lo by omega))).trans c5))
          have hhl : hi ≤ hi := Nat.le_refl _
          have A7 := Lib.hid (A2.out.kept k7 (Or.inr hhl))
          have G7 := Only.on G2 k7 hlo
          go_wp2
          go_roundw
          case rel => exact ⟨i, j + 1, t + 1, T, U', hi1, by omega, by omega, rfl, by go_num, by go_num, W7, A7, G7⟩
          case measure => simp [intOf]; omega
        · have qj : ¬ (j : Int) < (len2 : Int) := by omega
          go_wp2
          go_roundw
          case rel => exact ⟨i, j, t + 1, T, U, hi1, hj2, by omega, rfl, rfl, by go_num, W1, A1, G1⟩
          case measure => simp [intOf]; omega
      · by_cases hi' : i < len1
        · obtain ⟨rfl, hsb1⟩ := HS1.out (by omega)
          have qi : (i : Int) < (len1 : Int) := by omega
          have hzj := HZ1.out i hi'
          have hc : ∀ a, a < 5 → wr.cell? ⟨sb1, off1 + i * 6 + a, none⟩ = some (.int .i64 (zs1 i a)) := fun a ha => (G1.cell_far ⟨sb1, off1 + i * 6 + a, none⟩ hsb1 (by simp)).trans (hzj.1 a ha)
          have c5 : wr.cell? ⟨sb1, off1 + i * 6 + 5, none⟩ = some (.int .u64 (hh1 i : Nat)) := (G1.cell_far ⟨sb1, off1 + i * 6 + 5, none⟩ hsb1 (by simp)).trans hzj.2.1
          have hh0 := hzj.2.2
          have c0 : wr.cell? ⟨sb1, off1 + i * 6, none⟩ = some (.int .i64 (zs1 i 0)) := hc 0 (by decide)
          have c1 := hc 1 (by decide)
          have c2 := hc 2 (by decide)
          have c3' := hc 3 (by decide)
          have c4 := hc 4 (by decide)
          clear hc hzj
          generalize zs1 i 0 = kd at *
          generalize zs1 i 1 = nn at *
          generalize zs1 i 2 = ck at *
          generalize zs1 i 3 = ci at *
          generalize zs1 i 4 = cr at *
          generalize hh1 i = h0 at *
          have CL : Hid (Calls Tryd.prog 20 #[.pointer (some ⟨xb, 0, none⟩), .pointer (some ⟨ab, 0, none⟩), .agg #[.int .i64 kd, .int .i64 nn, .int .i64 ck, .int .i64 ci, .int .i64 cr, .int .u64 (h0 : Nat)]] wr fun e w' => ∃ T', e = .returned (.bool true) ∧ Only lo hi2 wr w' ∧ Hid (Two w' lo hi xb yb n G T' U) ∧ Hid (Tb w' hi hi2 ab n G T')) := Lib.hid (by
            obtain ⟨rb, pb, rx, xp, xs, xg, xh, ry, yp, ys, yg, yh, H⟩ := W1.out
            exact (alike_two hi hi2 ab kd nn ck ci cr h0 H A1.out (HT.out.kept G1) hh0 (Nat.le_refl _) (by omega)).mono fun e w' ⟨T', he, k, H', A'⟩ => ⟨T', he, k, Lib.hid ⟨rb, pb, rx, xp, xs, xg, xh, ry, yp, ys, yg, yh, H'⟩, Lib.hid A'⟩)
          clear W1 A1
          go_wp2_with fail
          refine CL.out.mono ?_
          rintro e w7 ⟨T', rfl, k7, W7, A7⟩
          have G7 := Only.on G1 k7 hlo
          go_wp2
          go_roundw
          case rel => exact ⟨i + 1, j, t + 1, T', U, by omega, hj2, by omega, by go_num, rfl, by go_num, W7, A7, G7⟩
          case measure => simp [intOf]; omega
        · have qi : ¬ (i : Int) < (len1 : Int) := by omega
          go_wp2
          go_roundw
          case rel => exact ⟨i, j, t + 1, T, U, hi1, hj2, by omega, rfl, rfl, by go_num, W1, A1, G1⟩
          case measure => simp [intOf]; omega
    · have qt : ¬ (t : Int) < (len3 : Int) := by omega
      have hnn := W1.out.sz
      have hll : (liveL T n).length ≤ 1000000 := by
        unfold liveL
        rw [List.length_map]
        have := List.length_filter_le (fun j => (T j).out) (List.range n)
        rw [List.length_range] at this
        omega
      have HLL := Lib.hid hll
      clear hll
      have CX : Hid (Calls Tryd.prog 22 #[.pointer (some ⟨xb, 0, none⟩)] wr fun e w' => ∃ v, e = .returned v ∧ wr.grownBy w' none ∧ Hid (UReads w' v (liveL T n))) := Lib.hid (by
        obtain ⟨rb, pb, rx, xp, xs, xg, xh, ry, yp, ys, yg, yh, H⟩ := W1.out
        exact (live_any H.x (HT.out.kept G1)).mono fun e w' ⟨r, cp, he, k, ho⟩ => ⟨_, he, k, Lib.hid (ureads_of ho)⟩)
      have CAL : Hid (∀ v : World, wr.grownBy v none → Calls Tryd.prog 22 #[.pointer (some ⟨ab, 0, none⟩)] v fun e w' => ∃ u, e = .returned u ∧ v.grownBy w' none ∧ Hid (UReads w' u (liveL T n))) := Lib.hid fun v kv => by
        obtain ⟨rb, ro, pb, po, b, g, hb, H, rr, s⟩ := A1.out.grown kv
        exact (live_any H (HT.out.kept (grow_to G1 kv))).mono fun e w' ⟨r, cp, he, k, ho⟩ => ⟨_, he, k, Lib.hid (ureads_of ho)⟩
      have CDX : Hid (∀ v : World, wr.grownBy v none → Calls Tryd.prog 16 #[.pointer (some ⟨xb, 0, none⟩)] v fun e w' => e = .returned (.int .i64 (deadN T G n : Nat)) ∧ v.grownBy w' none) := Lib.hid fun v kv => by
        obtain ⟨rb, pb, rx, xp, xs, xg, xh, ry, yp, ys, yg, yh, H⟩ := W1.out
        exact dead_any (H.x.kept kv) (HT.out.kept (grow_to G1 kv))
      have CDA : Hid (∀ v : World, wr.grownBy v none → Calls Tryd.prog 16 #[.pointer (some ⟨ab, 0, none⟩)] v fun e w' => e = .returned (.int .i64 (deadN T G n : Nat)) ∧ v.grownBy w' none) := Lib.hid fun v kv => tdead (A1.out.grown kv) (HT.out.kept (grow_to G1 kv))
      clear W1 A1
      generalize deadN T G n = dd at *
      generalize liveL T n = ll at *
      go_wp2_with fail
      refine CX.out.mono ?_
      rintro e w3 ⟨v1, rfl, k3, u3⟩
      go_wp2_with fail
      refine (CAL.out _ k3).mono ?_
      rintro e w4 ⟨v2, rfl, k4, u4⟩
      have CS := Lib.hid (same5_yes (u3.out.kept k4) u4.out HLL.out)
      go_wp2_with fail
      refine CS.out.mono ?_
      rintro e w5 ⟨rfl, k5⟩
      go_wp2_with fail
      refine (CDX.out _ ((k3.trans k4).trans k5)).mono ?_
      rintro e w6 ⟨rfl, k6⟩
      go_wp2_with fail
      refine (CDA.out _ (((k3.trans k4).trans k5).trans k6)).mono ?_
      rintro e w7 ⟨rfl, k7⟩
      go_wp2
      go_ret
      exact ⟨rfl, grow_to G1 ((((k3.trans k4).trans k5).trans k6).trans k7)⟩
end Go.Proofs.YtbkjdbimkofceaaDoor
