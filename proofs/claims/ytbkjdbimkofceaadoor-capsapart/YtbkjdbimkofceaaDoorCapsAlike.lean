/-
  Contracts of nightjarlaw05's alike, over this seat's translation: of two tables that hold the same, and of one alone.
-/
import Derived.Test.YtbkjdbimkofceaaDoorCapsR
import Derived.LaidEqlPtr
namespace Go.Proofs.YtbkjdbimkofceaaDoor
open Go.RowKit Go.Lib
set_option maxRecDepth 100000

theorem table_info : ∃ i : TypeInfo, Tryd.prog.info? 72 = some i ∧ i.size ≠ 0 := ⟨_, rfl, by decide⟩
theorem Tb.pl {w : World} {lo hi tb n G : Nat} {T : Nat → Pl} (H : Tb w lo hi tb n G T) : ∃ c t, w.heap[tb]? = some (.cells c t (0, 0)) := by
  obtain ⟨rb, ro, pb, po, b, g, hb, H, rr, s⟩ := H
  exact H.pl
theorem tables_unlike {w : World} {x y : Nat} (hne : x ≠ y) (hx : ∃ c t, w.heap[x]? = some (.cells c t (0, 0))) (hy : ∃ c t, w.heap[y]? = some (.cells c t (0, 0))) :
    (binOp .eql 25 (.pointer (some ⟨x, 0, none⟩)) (.pointer (some ⟨y, 0, none⟩))).run Tryd.prog w = .ok (.bool false) w := by
  obtain ⟨i, hi, hs⟩ := table_info
  obtain ⟨c, t, hx⟩ := hx
  obtain ⟨d, u, hy⟩ := hy
  exact run_eql_ptr_other w Tryd.underlying25 hi hs (fun e => hne (by injection e)) hx hy
theorem tables_same (w : World) (x : Nat) :
    (binOp .eql 25 (.pointer (some ⟨x, 0, none⟩)) (.pointer (some ⟨x, 0, none⟩))).run Tryd.prog w = .ok (.bool true) w := by
  obtain ⟨i, hi, hs⟩ := table_info
  exact run_eql_ptr_same w _ Tryd.underlying25 hi

section
variable {w w' : World} {lo hi rb pb n G xb rx xp xs xg xh yb ry yp ys yg yh : Nat} {T U : Nat → Pl}
set_option maxHeartbeats 4000000 in
theorem alike_two (lo2 hi2 ab : Nat) (kd nn ck ci cr : Int) (h : Nat) (H : TwoMem w lo hi rb pb n G xb rx xp xs xg xh T yb ry yp ys yg yh U) (A : Tb w lo2 hi2 ab n G T) (hT : TabAt w) (hh : h < 18446744073709551616) (hd : hi ≤ lo2) (h0 : 0 < lo) :
    Calls Tryd.prog 20 #[.pointer (some ⟨xb, 0, none⟩), .pointer (some ⟨ab, 0, none⟩), .agg #[.int .i64 kd, .int .i64 nn, .int .i64 ck, .int .i64 ci, .int .i64 cr, .int .u64 (h : Nat)]] w fun e w' => ∃ T', e = .returned (.bool true) ∧ Only lo hi2 w w' ∧ TwoMem w' lo hi rb pb n G xb rx xp xs xg xh T' yb ry yp ys yg yh U ∧ Tb w' lo2 hi2 ab n G T' := by
  have hne : ¬ xb = ab := by have := H.rg; have := A.sz; omega
  have hne' : ¬ ab = xb := fun e => hne e.symm
  have hab := A.sz
  have ka := World.grownBy_alloc w (.cells #[.int .i64 kd, .int .i64 nn, .int .i64 ck, .int .i64 ci, .int .i64 cr, .int .u64 (h : Nat)] 35) none
  have o0 : (w.alloc (.cells #[.int .i64 kd, .int .i64 nn, .int .i64 ck, .int .i64 ci, .int .i64 cr, .int .u64 (h : Nat)] 35)).cell? ⟨w.heap.size, 0, none⟩ = some (.int .i64 kd) := by simp
  have o2 : (w.alloc (.cells #[.int .i64 kd, .int .i64 nn, .int .i64 ck, .int .i64 ci, .int .i64 cr, .int .u64 (h : Nat)] 35)).cell? ⟨w.heap.size, 2, none⟩ = some (.int .i64 ck) := by simp
  have o3 : (w.alloc (.cells #[.int .i64 kd, .int .i64 nn, .int .i64 ck, .int .i64 ci, .int .i64 cr, .int .u64 (h : Nat)] 35)).cell? ⟨w.heap.size, 2 + 1, none⟩ = some (.int .i64 ci) := by simp
  have o4 : (w.alloc (.cells #[.int .i64 kd, .int .i64 nn, .int .i64 ck, .int .i64 ci, .int .i64 cr, .int .u64 (h : Nat)] 35)).cell? ⟨w.heap.size, 2 + 2, none⟩ = some (.int .i64 cr) := by simp
  have o5 : (w.alloc (.cells #[.int .i64 kd, .int .i64 nn, .int .i64 ck, .int .i64 ci, .int .i64 cr, .int .u64 (h : Nat)] 35)).cell? ⟨w.heap.size, 5, none⟩ = some (.int .u64 (h : Nat)) := by simp
  have hob : w.heap.size < (w.alloc (.cells #[.int .i64 kd, .int .i64 nn, .int .i64 ck, .int .i64 ci, .int .i64 cr, .int .u64 (h : Nat)] 35)).heap.size := by simp
  have H1 := H.grown ka
  have A1 := A.grown ka
  have T1 := hT.kept ka
  have K1 := Lib.hid (Only.of_none (lo := lo) (hi := hi2) ka)
  have hbw : hi2 ≤ w.heap.size := hab.1
  clear ka H A hT
  by_cases hk0 : kd = 0
  · subst hk0
    have CM := Lib.hid (H1.mint ck ci cr T1)
    have HA := Lib.hid A1
    have HT := Lib.hid T1
    have hpos := tab_pos T1
    clear A1 T1 H1
    go_enter Tryd.func20, Tryd.ntmps20
    go_upto_region 3 with fail
    generalize w.alloc (.cells #[.int .i64 0, .int .i64 nn, .int .i64 ck, .int .i64 ci, .int .i64 cr, .int .u64 (h : Nat)] 35) = w1 at *
    generalize w.heap.size = ob at *
    go_wp2_with fail
    refine CM.out.mono ?_
    rintro e w2 ⟨rfl, k2, H2⟩
    have p2 := (k2.cell ⟨ob, 2, none⟩ hob (Or.inr (show hi ≤ ob by omega))).trans o2
    have p3 := (k2.cell ⟨ob, 2 + 1, none⟩ hob (Or.inr (show hi ≤ ob by omega))).trans o3
    have p4 := (k2.cell ⟨ob, 2 + 2, none⟩ hob (Or.inr (show hi ≤ ob by omega))).trans o4
    have hcmp := tables_unlike hne H2.x.pl (HA.out.kept k2 (Or.inr hd)).pl
    have CA := Lib.hid (rmint ck ci cr (HA.out.kept k2 (Or.inr hd)) (tab_only HT.out k2 h0))
    generalize mintH T G n cr = mh at *
    generalize mintE T G n = me at *
    clear CM o0 o2 o3 o4 o5
    go_wp2_with fail
    refine CA.out.mono ?_
    rintro e w3 ⟨rfl, k3, A3⟩
    have H3 := H2.only k3 (Or.inl hd)
    go_wp2
    go_ret
    exact ⟨_, rfl, (K1.out.trans (k2.wider (Nat.le_refl _) (by omega))).trans (k3.wider (by have := H3.rg; omega) (Nat.le_refl _)), H3, A3⟩
  · by_cases hk2 : kd = 2
    · subst hk2
      have CM := Lib.hid (H1.rev h hh)
      have HA := Lib.hid A1
      clear A1 T1 H1
      go_enter Tryd.func20, Tryd.ntmps20
      go_upto_region 9 with fail
      generalize w.alloc (.cells #[.int .i64 2, .int .i64 nn, .int .i64 ck, .int .i64 ci, .int .i64 cr, .int .u64 (h : Nat)] 35) = w1 at *
      generalize w.heap.size = ob at *
      go_wp2_with fail
      refine CM.out.mono ?_
      rintro e w2 ⟨rfl, k2, H2⟩
      have p5 := (k2.cell ⟨ob, 5, none⟩ hob (Or.inr (show hi ≤ ob by omega))).trans o5
      have hcmp := tables_unlike hne H2.x.pl (HA.out.kept k2 (Or.inr hd)).pl
      have CA := Lib.hid (rrev h (HA.out.kept k2 (Or.inr hd)) hh)
      generalize revE T n h = me at *
      clear CM o0 o2 o3 o4 o5
      go_wp2_with fail
      refine CA.out.mono ?_
      rintro e w3 ⟨rfl, k3, A3⟩
      have H3 := H2.only k3 (Or.inl hd)
      go_wp2
      go_ret
      exact ⟨_, rfl, (K1.out.trans (k2.wider (Nat.le_refl _) (by omega))).trans (k3.wider (by have := H3.rg; omega) (Nat.le_refl _)), H3, A3⟩
    · have e0 : (kd == 0) = false := by rw [beq_eq_false_iff_ne]; exact hk0
      have e1 : (kd == 2) = false := by rw [beq_eq_false_iff_ne]; exact hk2
      clear T1
      go_enter Tryd.func20, Tryd.ntmps20
      go_wp2
      go_ret
      exact ⟨T, rfl, K1.out, H1, A1⟩

set_option maxHeartbeats 4000000 in
theorem alike_one (kd nn ck ci cr : Int) (h : Nat) (H : TwoMem w lo hi rb pb n G xb rx xp xs xg xh T yb ry yp ys yg yh U) (hT : TabAt w) (hh : h < 18446744073709551616) :
    Calls Tryd.prog 20 #[.pointer (some ⟨yb, 0, none⟩), .pointer (some ⟨yb, 0, none⟩), .agg #[.int .i64 kd, .int .i64 nn, .int .i64 ck, .int .i64 ci, .int .i64 cr, .int .u64 (h : Nat)]] w fun e w' => ∃ U', e = .returned (.bool true) ∧ Only lo hi w w' ∧ TwoMem w' lo hi rb pb n G xb rx xp xs xg xh T yb ry yp ys yg yh U' := by
  have ka := World.grownBy_alloc w (.cells #[.int .i64 kd, .int .i64 nn, .int .i64 ck, .int .i64 ci, .int .i64 cr, .int .u64 (h : Nat)] 35) none
  have o0 : (w.alloc (.cells #[.int .i64 kd, .int .i64 nn, .int .i64 ck, .int .i64 ci, .int .i64 cr, .int .u64 (h : Nat)] 35)).cell? ⟨w.heap.size, 0, none⟩ = some (.int .i64 kd) := by simp
  have o2 : (w.alloc (.cells #[.int .i64 kd, .int .i64 nn, .int .i64 ck, .int .i64 ci, .int .i64 cr, .int .u64 (h : Nat)] 35)).cell? ⟨w.heap.size, 2, none⟩ = some (.int .i64 ck) := by simp
  have o3 : (w.alloc (.cells #[.int .i64 kd, .int .i64 nn, .int .i64 ck, .int .i64 ci, .int .i64 cr, .int .u64 (h : Nat)] 35)).cell? ⟨w.heap.size, 2 + 1, none⟩ = some (.int .i64 ci) := by simp
  have o4 : (w.alloc (.cells #[.int .i64 kd, .int .i64 nn, .int .i64 ck, .int .i64 ci, .int .i64 cr, .int .u64 (h : Nat)] 35)).cell? ⟨w.heap.size, 2 + 2, none⟩ = some (.int .i64 cr) := by simp
  have o5 : (w.alloc (.cells #[.int .i64 kd, .int .i64 nn, .int .i64 ck, .int .i64 ci, .int .i64 cr, .int .u64 (h : Nat)] 35)).cell? ⟨w.heap.size, 5, none⟩ = some (.int .u64 (h : Nat)) := by simp
  have H1 := H.grown ka
  have T1 := hT.kept ka
  have K1 := Lib.hid (Only.of_none (lo := lo) (hi := hi) ka)
  clear ka H hT
  by_cases hk0 : kd = 0
  · subst hk0
    have CM := Lib.hid (H1.swap.mint ck ci cr T1)
    clear T1 H1
    go_enter Tryd.func20, Tryd.ntmps20
    go_wp2_with fail
    refine CM.out.mono ?_
    rintro e w2 ⟨rfl, k2, H2⟩
    have hcmp := tables_same w2 yb
    go_wp2
    go_ret
    exact ⟨_, rfl, K1.out.trans k2, H2.swap⟩
  · by_cases hk2 : kd = 2
    · subst hk2
      have CM := Lib.hid (H1.swap.rev h hh)
      clear T1 H1
      go_enter Tryd.func20, Tryd.ntmps20
      go_wp2_with fail
      refine CM.out.mono ?_
      rintro e w2 ⟨rfl, k2, H2⟩
      have hcmp := tables_same w2 yb
      go_wp2
      go_ret
      exact ⟨_, rfl, K1.out.trans k2, H2.swap⟩
    · have e0 : (kd == 0) = false := by rw [beq_eq_false_iff_ne]; exact hk0
      have e1 : (kd == 2) = false := by rw [beq_eq_false_iff_ne]; exact hk2
      clear T1
      go_enter Tryd.func20, Tryd.ntmps20
      go_wp2
      go_ret
      exact ⟨U, rfl, K1.out, H1⟩
end
end Go.Proofs.YtbkjdbimkofceaaDoor
