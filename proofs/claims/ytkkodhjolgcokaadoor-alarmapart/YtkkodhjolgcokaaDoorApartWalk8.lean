/-
  AlarmApart: what is done with one timer makes no difference for when another one is due, and what it counts.
-/
import Derived.Test.YtkkodhjolgcokaaDoorJoin15
namespace Go.Proofs.YtkkodhjolgcokaaDoor
open Go.RowKit Go.Lib
set_option maxRecDepth 100000
set_option linter.unusedVariables false
set_option maxRecDepth 100000 in
set_option maxHeartbeats 64000000 in
theorem apart_walk8 (n0 g0 p0 : Nat) (sa : Option Addr) (len cap sb off : Nat) (zs : Nat → Nat → Int) (hh : Nat → Nat → Nat) (bz : Nat → Bool) (se : Option Addr) (len2 cap2 sb2 off2 : Nat) (es : Nat → Nat) (w : World) (hT : TabAt w) (hn0 : n0 < 18446744073709551616) (hg0 : g0 < 18446744073709551616) (hp0 : p0 < 18446744073709551616)
    (_hm : len ≤ maxLen) (hs : 0 < len → sa = some ⟨sb, off, none⟩ ∧ sb < w.heap.size)
    (hz : ∀ j, j < len → (∀ i, i < 2 → w.cell? ⟨sb, off + j * 6 + i, none⟩ = some (.int .i64 (zs j i))) ∧ (∀ i, 2 ≤ i → i < 5 → w.cell? ⟨sb, off + j * 6 + i, none⟩ = some (.int .u64 (hh j i : Nat)) ∧ hh j i < 18446744073709551616) ∧ w.cell? ⟨sb, off + j * 6 + 5, none⟩ = some (.bool (bz j)))
    (_hm2 : len2 ≤ maxLen) (hs2 : 0 < len2 → se = some ⟨sb2, off2, none⟩ ∧ sb2 < w.heap.size) (hz2 : ∀ j, j < len2 → w.cell? ⟨sb2, off2 + j, none⟩ = some (.int .u64 ((es j : Nat) : Int)) ∧ es j < 18446744073709551616) :
    Calls Tryd.prog 6 #[.int .u64 (n0 : Nat), .int .u64 (g0 : Nat), .int .u64 (p0 : Nat), .slice sa len cap, .slice se len2 cap2] w fun e w' => e = .returned (.bool true) ∧ w.grownBy w' none := by
  have C0 := Lib.hid (alive8 w hT)
  have R1 : Hid (∀ (v : World) (j : Nat), w.grownBy v none → j < len → sa = some ⟨sb, off, none⟩ ∧ (v.cell? ⟨sb, off + j * 6, none⟩ = some (.int .i64 (zs j 0)) ∧ v.cell? ⟨sb, off + j * 6 + 1, none⟩ = some (.int .i64 (zs j 1)) ∧ v.cell? ⟨sb, off + j * 6 + 2, none⟩ = some (.int .u64 (hh j 2 : Nat)) ∧ v.cell? ⟨sb, off + j * 6 + 3, none⟩ = some (.int .u64 (hh j 3 : Nat)) ∧ v.cell? ⟨sb, off + j * 6 + 4, none⟩ = some (.int .u64 (hh j 4 : Nat)) ∧ v.cell? ⟨sb, off + j * 6 + 5, none⟩ = some (.bool (bz j))) ∧ hh j 2 < 18446744073709551616 ∧ hh j 3 < 18446744073709551616 ∧ hh j 4 < 18446744073709551616) := Lib.hid fun v j k hj => by
    obtain ⟨h1, h2⟩ := hs (by omega)
    obtain ⟨a, b, c⟩ := hz j hj
    have f : ∀ i, v.cell? ⟨sb, off + j * 6 + i, none⟩ = w.cell? ⟨sb, off + j * 6 + i, none⟩ := fun i => k.cell_far ⟨sb, off + j * 6 + i, none⟩ h2 (by simp)
    exact ⟨h1, ⟨(f 0).trans (a 0 (by decide)), (f 1).trans (a 1 (by decide)), (f 2).trans (b 2 (by decide) (by decide)).1, (f 3).trans (b 3 (by decide) (by decide)).1, (f 4).trans (b 4 (by decide) (by decide)).1, (f 5).trans c⟩, (b 2 (by decide) (by decide)).2, (b 3 (by decide) (by decide)).2, (b 4 (by decide) (by decide)).2⟩
  have R2 : Hid (∀ (v : World) (j : Nat), w.grownBy v none → j < len2 → se = some ⟨sb2, off2, none⟩ ∧ v.cell? ⟨sb2, off2 + j, none⟩ = some (.int .u64 ((es j : Nat) : Int)) ∧ es j < 18446744073709551616) := Lib.hid fun v j k hj => by
    obtain ⟨h1, h2⟩ := hs2 (by omega)
    exact ⟨h1, (k.cell_far ⟨sb2, off2 + j, none⟩ h2 (by simp)).trans (hz2 j hj).1, (hz2 j hj).2⟩
  clear hs hz hs2 hz2
  by_cases hl0 : 40 < len
  · have q : (40 : Int) < (len : Int) := by omega
    go_enter Tryd.func6, Tryd.ntmps6
    go_wp2_with fail
    refine C0.out.mono ?_
    rintro e w1 ⟨rfl, k1⟩
    go_wp2
    go_ret
    exact ⟨rfl, k1⟩
  have ql : ¬ (40 : Int) < (len : Int) := by omega
  by_cases hl2 : len2 < len
  · have q : (len2 : Int) < (len : Int) := by omega
    go_enter Tryd.func6, Tryd.ntmps6
    go_wp2_with fail
    refine C0.out.mono ?_
    rintro e w1 ⟨rfl, k1⟩
    go_wp2
    go_ret
    exact ⟨rfl, k1⟩
  have ql2 : ¬ (len2 : Int) < (len : Int) := by omega
  have mn := low40 n0 hn0
  have mg := low40 g0 hg0
  have mp := low30 p0 hp0
  have bN : n0 % 1099511627776 < 1099511627776 := Nat.mod_lt _ (by decide)
  have bG : g0 % 1099511627776 < 1099511627776 := Nat.mod_lt _ (by decide)
  have bP : p0 % 1073741824 < 1073741824 := Nat.mod_lt _ (by decide)
  generalize n0 % 1099511627776 = N at *
  generalize g0 % 1099511627776 = G at *
  generalize p0 % 1073741824 = pe at *
  have ewG : IntKind.u64.wrap ((N : Int) + (G : Int)) = (N : Int) + (G : Int) := by rw [IntKind.wrap_u64]; omega
  have TT := Lib.hid hT
  clear hn0 hg0 hp0 hT
  have CB : Hid (∀ v : World, Calls Tryd.prog 8 #[.int .i64 2, .int .u64 (N : Nat)] v fun e w' => ∃ bb, e = .returned (.pointer (some ⟨bb, 0, none⟩)) ∧ v.grownBy w' none ∧ Bo w' v.heap.size w'.heap.size bb 2 N 0 (two Ti.none Ti.none)) := Lib.hid fun v => by
    have h := book_made 2 N v (by decide) (by omega)
    rw [two_none] at h
    exact h
  go_enter Tryd.func6, Tryd.ntmps6
  go_wp2_with fail
  refine C0.out.mono ?_
  rintro e u0 ⟨rfl, k⟩
  have GG := Lib.hid k
  clear k C0
  go_wp2_with fail
  refine (CB.out _).mono ?_
  rintro e u1 ⟨ba, rfl, k, h⟩
  have hlo : w.heap.size ≤ u0.heap.size := GG.out.size
  have hl0 : Hid (0 < u0.heap.size) := Lib.hid (by have := tab_pos TT.out; omega)
  replace GG := Lib.hid (GG.out.trans k)
  have h01 : u0.heap.size ≤ u1.heap.size := k.size
  have HA := Lib.hid h
  clear k h
  go_wp2_with fail
  refine (CB.out _).mono ?_
  rintro e u2 ⟨bb, rfl, k, h⟩
  have h12 : u1.heap.size ≤ u2.heap.size := k.size
  replace GG := Lib.hid (GG.out.trans k)
  replace HA := Lib.hid (HA.out.grown k)
  have HB := Lib.hid h
  clear k h CB
  have k := World.grownBy_alloc u2 (.cells #[.pointer (some ⟨ba, 0, none⟩), .pointer (some ⟨bb, 0, none⟩)] 25) none
  replace GG := Lib.hid (GG.out.trans k)
  have T := Lib.hid (TT.out.kept GG.out)
  replace HA := Lib.hid (HA.out.grown k)
  replace HB := Lib.hid (HB.out.grown k)
  have HL : Hid ((u2.alloc (.cells #[.pointer (some ⟨ba, 0, none⟩), .pointer (some ⟨bb, 0, none⟩)] 25)).cell? ⟨u2.heap.size, 0, none⟩ = some (.pointer (some ⟨ba, 0, none⟩)) ∧ (u2.alloc (.cells #[.pointer (some ⟨ba, 0, none⟩), .pointer (some ⟨bb, 0, none⟩)] 25)).cell? ⟨u2.heap.size, 1, none⟩ = some (.pointer (some ⟨bb, 0, none⟩)) ∧ u2.heap.size < (u2.alloc (.cells #[.pointer (some ⟨ba, 0, none⟩), .pointer (some ⟨bb, 0, none⟩)] 25)).heap.size) := Lib.hid ⟨World.cell?_alloc_new .., World.cell?_alloc_new .., by simp⟩
  clear k TT
  go_wp2_with fail
  generalize u2.alloc (.cells #[.pointer (some ⟨ba, 0, none⟩), .pointer (some ⟨bb, 0, none⟩)] 25) = v0 at *
  generalize u0.heap.size = l1 at *
  generalize u1.heap.size = l2 at *
  generalize u2.heap.size = l3 at *
  have HLL : Hid (w.heap.size ≤ l1 ∧ l1 ≤ l2 ∧ l2 ≤ l3) := Lib.hid ⟨hlo, h01, h12⟩
  clear hlo h01 h12
  go_loopw [53] (fun it wr => ∃ i : Nat, i ≤ 2 ∧ it = .int .i64 i ∧ Hid (Bo wr l1 l2 ba 2 N (if 0 < i then 1 else 0) (if 0 < i then two ⟨true, 1, 5, N + G, pe, 0⟩ Ti.idle else two Ti.none Ti.none)) ∧ Hid (Bo wr l2 l3 bb 2 N (if 1 < i then 1 else 0) (if 1 < i then two ⟨true, 1, 5, N + G, pe, 0⟩ Ti.idle else two Ti.none Ti.none)) ∧ Hid (wr.cell? ⟨l3, 0, none⟩ = some (.pointer (some ⟨ba, 0, none⟩)) ∧ wr.cell? ⟨l3, 1, none⟩ = some (.pointer (some ⟨bb, 0, none⟩)) ∧ l3 < wr.heap.size) ∧ Hid (w.grownBy wr none) ∧ Hid (TabAt wr)) (fun it _ => 2 - (intOf it).toNat)
  case atStart => exact ⟨0, by decide, rfl, HA, HB, HL, GG, T⟩
  case round =>
    clear HA HB HL GG T
    obtain ⟨i, hi2, rfl, HA, HB, HL, GG, T⟩ := hrel
    have hi3 : i = 0 ∨ i = 1 ∨ i = 2 := by omega
    rcases hi3 with hi3 | hi3 | hi3
    · subst hi3
      replace HA : Hid (Bo wr l1 l2 ba 2 N 0 (two Ti.none Ti.none)) := HA
      replace HB : Hid (Bo wr l2 l3 bb 2 N 0 (two Ti.none Ti.none)) := HB
      have c0 := HL.out.1
      have C : Hid (Calls Tryd.prog 9 #[.pointer (some ⟨ba, 0, none⟩)] wr fun e w' => e = .returned (.tuple #[.int .i64 0, .bool true]) ∧ Only l1 l2 wr w' ∧ Bo w' l1 l2 ba 2 N 0 (two Ti.idle Ti.none)) := Lib.hid (by
        have h := bo_make_some 0 HA.out T.out (by decide) rfl (fun q h => absurd h (Nat.not_lt_zero q))
        rw [two_up0] at h
        exact h)
      go_wp2_with fail
      refine C.out.mono ?_
      rintro e x0 ⟨rfl, k, h⟩
      replace HA := Lib.hid h
      replace HB := Lib.hid (HB.out.kept k (Or.inr (Nat.le_refl _)))
      replace HL : Hid (x0.cell? ⟨l3, 0, none⟩ = some (.pointer (some ⟨ba, 0, none⟩)) ∧ x0.cell? ⟨l3, 1, none⟩ = some (.pointer (some ⟨bb, 0, none⟩)) ∧ l3 < x0.heap.size) := Lib.hid ⟨(k.cell' l3 0 HL.out.2.2 (Or.inr (by have := HLL.out; omega))).trans HL.out.1, (k.cell' l3 1 HL.out.2.2 (Or.inr (by have := HLL.out; omega))).trans HL.out.2.1, Nat.lt_of_lt_of_le HL.out.2.2 k.size⟩
      replace GG := Lib.hid (Only.on GG.out k (by have := HLL.out; omega))
      replace T := Lib.hid (tab_only T.out k (by have := hl0.out; have := HLL.out; omega))
      clear k h C c0
      have C : Hid (Calls Tryd.prog 9 #[.pointer (some ⟨ba, 0, none⟩)] x0 fun e w' => e = .returned (.tuple #[.int .i64 1, .bool true]) ∧ Only l1 l2 x0 w' ∧ Bo w' l1 l2 ba 2 N 0 (two Ti.idle Ti.idle)) := Lib.hid (by
        have h := bo_make_some 1 HA.out T.out (by decide) rfl (fun q h => by
          obtain rfl : q = 0 := by omega
          rfl)
        rw [two_up1] at h
        exact h)
      go_wp2_with fail
      refine C.out.mono ?_
      rintro e x1 ⟨rfl, k, h⟩
      replace HA := Lib.hid h
      replace HB := Lib.hid (HB.out.kept k (Or.inr (Nat.le_refl _)))
      replace HL : Hid (x1.cell? ⟨l3, 0, none⟩ = some (.pointer (some ⟨ba, 0, none⟩)) ∧ x1.cell? ⟨l3, 1, none⟩ = some (.pointer (some ⟨bb, 0, none⟩)) ∧ l3 < x1.heap.size) := Lib.hid ⟨(k.cell' l3 0 HL.out.2.2 (Or.inr (by have := HLL.out; omega))).trans HL.out.1, (k.cell' l3 1 HL.out.2.2 (Or.inr (by have := HLL.out; omega))).trans HL.out.2.1, Nat.lt_of_lt_of_le HL.out.2.2 k.size⟩
      replace GG := Lib.hid (Only.on GG.out k (by have := HLL.out; omega))
      replace T := Lib.hid (tab_only T.out k (by have := hl0.out; have := HLL.out; omega))
      clear k h C
      have C : Hid (Calls Tryd.prog 10 #[.pointer (some ⟨ba, 0, none⟩), .int .i64 0, .int .u64 5, .int .u64 ((N : Int) + (G : Int)), .int .u64 (pe : Nat)] x1 fun e w' => e = .returned (.bool true) ∧ Only l1 l2 x1 w' ∧ Bo w' l1 l2 ba 2 N 1 (two ⟨true, 1, 5, N + G, pe, 0⟩ Ti.idle)) := Lib.hid (by
        have h := bo_arm_in 0 5 (N + G) pe HA.out rfl (by decide) (by omega) (by omega) (by decide)
        rw [two_up0, Int.natCast_add] at h
        exact h)
      go_wp2_with fail
      refine C.out.mono ?_
      rintro e x2 ⟨rfl, k, h⟩
      replace HA := Lib.hid h
      replace HB := Lib.hid (HB.out.kept k (Or.inr (Nat.le_refl _)))
      replace HL : Hid (x2.cell? ⟨l3, 0, none⟩ = some (.pointer (some ⟨ba, 0, none⟩)) ∧ x2.cell? ⟨l3, 1, none⟩ = some (.pointer (some ⟨bb, 0, none⟩)) ∧ l3 < x2.heap.size) := Lib.hid ⟨(k.cell' l3 0 HL.out.2.2 (Or.inr (by have := HLL.out; omega))).trans HL.out.1, (k.cell' l3 1 HL.out.2.2 (Or.inr (by have := HLL.out; omega))).trans HL.out.2.1, Nat.lt_of_lt_of_le HL.out.2.2 k.size⟩
      replace GG := Lib.hid (Only.on GG.out k (by have := HLL.out; omega))
      replace T := Lib.hid (tab_only T.out k (by have := hl0.out; have := HLL.out; omega))
      clear k h C
      go_wp2
      go_roundw
      case rel => exact ⟨1, by decide, by go_num, HA, HB, HL, GG, T⟩
      case measure => simp [intOf]
    · subst hi3
      replace HA : Hid (Bo wr l1 l2 ba 2 N 1 (two ⟨true, 1, 5, N + G, pe, 0⟩ Ti.idle)) := HA
      replace HB : Hid (Bo wr l2 l3 bb 2 N 0 (two Ti.none Ti.none)) := HB
      have c0 := HL.out.2.1
      have C : Hid (Calls Tryd.prog 9 #[.pointer (some ⟨bb, 0, none⟩)] wr fun e w' => e = .returned (.tuple #[.int .i64 0, .bool true]) ∧ Only l2 l3 wr w' ∧ Bo w' l2 l3 bb 2 N 0 (two Ti.idle Ti.none)) := Lib.hid (by
        have h := bo_make_some 0 HB.out T.out (by decide) rfl (fun q h => absurd h (Nat.not_lt_zero q))
        rw [two_up0] at h
        exact h)
      go_wp2_with fail
      refine C.out.mono ?_
      rintro e x0 ⟨rfl, k, h⟩
      replace HB := Lib.hid h
      replace HA := Lib.hid (HA.out.kept k (Or.inl (Nat.le_refl _)))
      replace HL : Hid (x0.cell? ⟨l3, 0, none⟩ = some (.pointer (some ⟨ba, 0, none⟩)) ∧ x0.cell? ⟨l3, 1, none⟩ = some (.pointer (some ⟨bb, 0, none⟩)) ∧ l3 < x0.heap.size) := Lib.hid ⟨(k.cell' l3 0 HL.out.2.2 (Or.inr (by have := HLL.out; omega))).trans HL.out.1, (k.cell' l3 1 HL.out.2.2 (Or.inr (by have := HLL.out; omega))).trans HL.out.2.1, Nat.lt_of_lt_of_le HL.out.2.2 k.size⟩
      replace GG := Lib.hid (Only.on GG.out k (by have := HLL.out; omega))
      replace T := Lib.hid (tab_only T.out k (by have := hl0.out; have := HLL.out; omega))
      clear k h C c0
      have C : Hid (Calls Tryd.prog 9 #[.pointer (some ⟨bb, 0, none⟩)] x0 fun e w' => e = .returned (.tuple #[.int .i64 1, .bool true]) ∧ Only l2 l3 x0 w' ∧ Bo w' l2 l3 bb 2 N 0 (two Ti.idle Ti.idle)) := Lib.hid (by
        have h := bo_make_some 1 HB.out T.out (by decide) rfl (fun q h => by
          obtain rfl : q = 0 := by omega
          rfl)
        rw [two_up1] at h
        exact h)
      go_wp2_with fail
      refine C.out.mono ?_
      rintro e x1 ⟨rfl, k, h⟩
      replace HB := Lib.hid h
      replace HA := Lib.hid (HA.out.kept k (Or.inl (Nat.le_refl _)))
      replace HL : Hid (x1.cell? ⟨l3, 0, none⟩ = some (.pointer (some ⟨ba, 0, none⟩)) ∧ x1.cell? ⟨l3, 1, none⟩ = some (.pointer (some ⟨bb, 0, none⟩)) ∧ l3 < x1.heap.size) := Lib.hid ⟨(k.cell' l3 0 HL.out.2.2 (Or.inr (by have := HLL.out; omega))).trans HL.out.1, (k.cell' l3 1 HL.out.2.2 (Or.inr (by have := HLL.out; omega))).trans HL.out.2.1, Nat.lt_of_lt_of_le HL.out.2.2 k.size⟩
      replace GG := Lib.hid (Only.on GG.out k (by have := HLL.out; omega))
      replace T := Lib.hid (tab_only T.out k (by have := hl0.out; have := HLL.out; omega))
      clear k h C
      have C : Hid (Calls Tryd.prog 10 #[.pointer (some ⟨bb, 0, none⟩), .int .i64 0, .int .u64 5, .int .u64 ((N : Int) + (G : Int)), .int .u64 (pe : Nat)] x1 fun e w' => e = .returned (.bool true) ∧ Only l2 l3 x1 w' ∧ Bo w' l2 l3 bb 2 N 1 (two ⟨true, 1, 5, N + G, pe, 0⟩ Ti.idle)) := Lib.hid (by
        have h := bo_arm_in 0 5 (N + G) pe HB.out rfl (by decide) (by omega) (by omega) (by decide)
        rw [two_up0, Int.natCast_add] at h
        exact h)
      go_wp2_with fail
      refine C.out.mono ?_
      rintro e x2 ⟨rfl, k, h⟩
      replace HB := Lib.hid h
      replace HA := Lib.hid (HA.out.kept k (Or.inl (Nat.le_refl _)))
      replace HL : Hid (x2.cell? ⟨l3, 0, none⟩ = some (.pointer (some ⟨ba, 0, none⟩)) ∧ x2.cell? ⟨l3, 1, none⟩ = some (.pointer (some ⟨bb, 0, none⟩)) ∧ l3 < x2.heap.size) := Lib.hid ⟨(k.cell' l3 0 HL.out.2.2 (Or.inr (by have := HLL.out; omega))).trans HL.out.1, (k.cell' l3 1 HL.out.2.2 (Or.inr (by have := HLL.out; omega))).trans HL.out.2.1, Nat.lt_of_lt_of_le HL.out.2.2 k.size⟩
      replace GG := Lib.hid (Only.on GG.out k (by have := HLL.out; omega))
      replace T := Lib.hid (tab_only T.out k (by have := hl0.out; have := HLL.out; omega))
      clear k h C
      go_wp2
      go_roundw
      case rel => exact ⟨2, by decide, by go_num, HA, HB, HL, GG, T⟩
      case measure => simp [intOf]
    · subst hi3
      replace HA : Hid (Bo wr l1 l2 ba 2 N 1 (two ((⟨true, 1, 5, N + G, pe, 0⟩ : Ti).wu 0) Ti.idle)) := HA
      replace HB : Hid (Bo wr l2 l3 bb 2 N 1 (two ((⟨true, 1, 5, N + G, pe, 0⟩ : Ti).wu 0) Ti.idle)) := HB
      clear HL T hl0 hi2
      rw [show ((2 : Nat) : Int) = 2 from rfl]
      go_wp2_with fail
      go_loopw [15, 71] (fun ev it wr => ∃ (k e tua tub u u' : Nat) (x Z : Ti), k ≤ len ∧ it = .int .i64 k ∧ ev = .int .u64 (e : Nat) ∧ (N ≤ e ∧ e ≤ N + k * 8589934592 ∧ tua ≤ k + 1 ∧ tub ≤ 2 * k + 1) ∧ (x.is = true ∧ x.st ≤ 1 ∧ Z.is = true) ∧ Hid (Bo wr l1 l2 ba 2 e tua (two (x.wu u) Ti.idle)) ∧ Hid (Bo wr l2 l3 bb 2 e tub (two (x.wu u') Z)) ∧ Hid (w.grownBy wr none)) (fun _ it _ => len - (intOf it).toNat)
      case atStart => exact ⟨0, N, 1, 1, 0, 0, ⟨true, 1, 5, N + G, pe, 0⟩, Ti.idle, Nat.zero_le _, rfl, rfl, ⟨Nat.le_refl _, by omega, by decide, by decide⟩, ⟨rfl, Nat.le_refl _, rfl⟩, HA, HB, GG⟩
      case round =>
        clear HA HB GG
        obtain ⟨k, e, tua, tub, u, u', x, Z, hk, rfl, rfl, ⟨hNe, hek, hta, htb⟩, ⟨hxi, hxs, hZi⟩, HA, HB, GG⟩ := hrel
        by_cases hlt : k < len
        · have qk : (k : Int) < (len : Int) := by omega
          have qk2 : (k : Int) < (len2 : Int) := by omega
          obtain ⟨rfl, ⟨c0, c1, c2, c3, c4, c5⟩, b2, b3, b4⟩ := R1.out wr k GG.out hlt
          generalize zs k 0 = z0 at *
          generalize zs k 1 = z1 at *
          generalize hh k 2 = y2 at *
          generalize hh k 3 = y3 at *
          generalize hh k 4 = y4 at *
          generalize bz k = y5 at *
          have hZB := es k
          obtain ⟨ek, hek2⟩ : ∃ z, es k = z := ⟨_, rfl⟩
          obtain ⟨g, hgk⟩ : ∃ g, ek % 8589934592 = g := ⟨_, rfl⟩
          have bk : g < 8589934592 := by omega
          have bt : e + g < 4503599627370496 := by
            have : k * 8589934592 ≤ 40 * 8589934592 := Nat.mul_le_mul_right _ (by omega)
            omega
          have ewt : IntKind.u64.wrap ((e : Int) + (g : Int)) = (e : Int) + (g : Int) := by rw [IntKind.wrap_u64]; omega
          have kO := World.grownBy_alloc wr (.cells #[.int .i64 z0, .int .i64 z1, .int .u64 (y2 : Nat), .int .u64 (y3 : Nat), .int .u64 (y4 : Nat), .bool y5] 45) none
          replace HA := Lib.hid (HA.out.grown kO)
          replace HB := Lib.hid (HB.out.grown kO)
          replace GG := Lib.hid (GG.out.trans kO)
          clear kO hZB
          by_cases hz0 : z0 = 2
          · subst hz0
            have C := Lib.hid (side_arm y2 y3 y4 HB.out hZi b2 b3 b4 (by omega))
            go_wp2_with fail
            refine C.out.mono ?_
            rintro e0 v1 ⟨v, Z1, tb1, rfl, k1, h1, hZ1, htb1⟩
            replace HB := Lib.hid h1
            replace HA := Lib.hid (HA.out.kept k1 (Or.inl (Nat.le_refl _)))
            replace GG := Lib.hid (Only.on GG.out k1 (by have := HLL.out; omega))
            clear k1 h1 C c0 c1 c2 c3 c4 c5
            obtain ⟨rfl, ce, beb⟩ := R2.out v1 k GG.out (by omega)
            rw [hek2] at ce beb
            have mk1 := low33 ek beb
            rw [hgk] at mk1
            by_cases htold : (x.wu u).told (e + g)
            · have htold2 : (x.wu u').told (e + g) := htold
              have C : Hid (Calls Tryd.prog 11 #[.pointer (some ⟨ba, 0, none⟩), .int .u64 ((e : Int) + (g : Int))] v1 fun e0 w' => ∃ r cp, e0 = .returned (.slice (some ⟨r, 0, none⟩) 1 cp) ∧ Only l1 l2 v1 w' ∧ Bo w' l1 l2 ba 2 (e + g) tua (two (x.wu u).due Ti.idle)) := Lib.hid (by
                have h := bo_to2 (e + g) HA.out (by omega)
                have hn : ¬ Ti.told Ti.idle (e + g) := fun h => absurd h.1 (by decide)
                rw [show max e (e + g) = e + g by omega, if_pos htold, if_pos htold, if_neg hn, if_neg hn, Int.natCast_add] at h
                refine h.mono ?_
                rintro e0 w' ⟨R, r, cp, he, hr, hk, hb, hx⟩
                exact ⟨r, cp, he, hk, hb⟩)
              go_wp2_with fail
              refine C.out.mono ?_
              rintro e0 v2 ⟨ra, cpa, rfl, k1, h1⟩
              replace HA := Lib.hid h1
              replace HB := Lib.hid (HB.out.kept k1 (Or.inr (Nat.le_refl _)))
              replace GG := Lib.hid (Only.on GG.out k1 (by have := HLL.out; omega))
              clear k1 h1 C ce
              have C : Hid (Calls Tryd.prog 11 #[.pointer (some ⟨bb, 0, none⟩), .int .u64 ((e : Int) + (g : Int))] v2 fun e0 w' => ∃ (R : List Nat) (r cp : Nat) (Z' : Ti), e0 = .returned (.slice (some ⟨r, 0, none⟩) R.length cp) ∧ RowOf w' v2.heap.size r cp R ∧ Only l2 l3 v2 w' ∧ Bo w' l2 l3 bb 2 (e + g) tb1 (two (x.wu u').due Z') ∧ Z'.is = true ∧ 0 ∈ R ∧ R.length ≤ 2) := Lib.hid (by
                have h := to_first (e + g) HB.out hZ1 (by omega) (by omega)
                rw [if_pos htold2, Int.natCast_add] at h
                refine h.mono ?_
                rintro e0 w' ⟨R, r, cp, Z', he, hr, hk, hb, hz, h0, hl⟩
                exact ⟨R, r, cp, Z', he, hr, hk, hb, hz, h0.2 htold2, hl⟩)
              go_wp2_with fail
              refine C.out.mono ?_
              rintro e0 v3 ⟨R, rb, cpb, Z2, rfl, hr, k1, h1, hZ2, hR0, hRl⟩
              have HR := Lib.hid hr
              replace HA := Lib.hid (HA.out.kept k1 (Or.inl (Nat.le_refl _)))
              replace HB := Lib.hid h1
              replace GG := Lib.hid (Only.on GG.out k1 (by have := HLL.out; omega))
              have HRL : Hid (R.length ≤ 2) := Lib.hid hRl
              have HR0 := Lib.hid hR0
              clear k1 h1 C hr hRl hR0
              obtain ⟨nR, hnR⟩ : ∃ n, R.length = n := ⟨_, rfl⟩
              have HNR := Lib.hid hnR
              have hnb : nR ≤ 2 := by have := HRL.out; omega
              rw [hnR]
              clear hnR
              go_wp2_with fail
              go_loopw [20, 112] (fun dv it wq => ∃ (i : Nat) (d : Bool), i ≤ nR ∧ it = .int .i64 i ∧ dv = .bool d ∧ Hid (d = decide (0 ∈ R.take i)) ∧ wq = v3) (fun _ it _ => nR - (intOf it).toNat)
              case atStart => exact ⟨0, false, Nat.zero_le _, rfl, rfl, Lib.hid (by simp), rfl⟩
              case round =>
                obtain ⟨i, d, hi, rfl, rfl, HD, rfl⟩ := hrel
                by_cases hli : i < nR
                · have qi : (i : Int) < (nR : Int) := by omega
                  have hlR : i < R.length := by rw [HNR.out]; exact hli
                  have hc := HR.out.cell i hlR
                  have hst := Lib.hid (take_zero_mem R i hlR)
                  generalize R[i] = kk at *
                  cases d with
                  | true =>
                    go_wp2
                    go_roundw
                    case rel => exact ⟨i + 1, true, hli, by go_num, rfl, Lib.hid (by rw [hst.out, ← HD.out]; rfl), trivial⟩
                    case measure => simp [intOf]; omega
                  | false =>
                    by_cases hkk : kk = 0
                    · subst hkk
                      go_wp2
                      go_roundw
                      case rel => exact ⟨i + 1, true, hli, by go_num, rfl, Lib.hid (by rw [hst.out]; simp), trivial⟩
                      case measure => simp [intOf]; omega
                    · have qkk : ((kk : Int) == 0) = false := by simp; omega
                      go_wp2
                      go_roundw
                      case rel => exact ⟨i + 1, false, hli, by go_num, rfl, Lib.hid (by rw [hst.out, ← HD.out]; simp [hkk]), trivial⟩
                      case measure => simp [intOf]; omega
                · obtain rfl : i = nR := by omega
                  have qi : ¬ (i : Int) < (i : Int) := by omega
                  obtain rfl : d = true := by
                    rw [HD.out, show R.take i = R from List.take_of_length_le (by rw [HNR.out]; exact Nat.le_refl _)]
                    simpa using HR0.out
                  clear HD HNR HRL HR0 hi hli
                  obtain ⟨hsv, y, p, p', hy, hy', hyi, hys⟩ := sent_like x (e + g) u u' tua tb1 hxi
                  have C : Hid (Calls Tryd.prog 13 #[.pointer (some ⟨ba, 0, none⟩), .int .i64 0, .int .u64 ((e : Int) + (g : Int))] wr fun e0 w' => ∃ t', e0 = .returned (.int .u64 (sentV (x.wu u).due (e + g) : Nat)) ∧ Only l1 l2 wr w' ∧ Bo w' l1 l2 ba 2 (e + g) t' (two (y.wu p) Ti.idle) ∧ t' ≤ tua + 1) := Lib.hid (by
                    have h := bo_sent_in 0 (e + g) HA.out (by omega) (by omega)
                    rw [two_0, two_up0, hy, Int.natCast_add] at h
                    exact h.mono fun e0 w' ⟨a, b, c⟩ => ⟨_, a, b, c, sentU_le _ _ _⟩)
                  have C2 : Hid (∀ v : World, Bo v l2 l3 bb 2 (e + g) tb1 (two (x.wu u').due Z2) → Calls Tryd.prog 13 #[.pointer (some ⟨bb, 0, none⟩), .int .i64 0, .int .u64 ((e : Int) + (g : Int))] v fun e0 w' => ∃ t', e0 = .returned (.int .u64 (sentV (x.wu u).due (e + g) : Nat)) ∧ Only l2 l3 v w' ∧ Bo w' l2 l3 bb 2 (e + g) t' (two (y.wu p') Z2) ∧ t' ≤ tb1 + 1) := Lib.hid fun v H => by
                    have h := bo_sent_in 0 (e + g) H (by omega) (by omega)
                    rw [two_0, two_up0, hy', ← hsv, Int.natCast_add] at h
                    exact h.mono fun e0 w' ⟨a, b, c⟩ => ⟨_, a, b, c, sentU_le _ _ _⟩
                  generalize sentV (x.wu u).due (e + g) = sv at *
                  clear hsv hy hy'
                  go_wp2_with fail
                  refine C.out.mono ?_
                  rintro e0 v4 ⟨ta2, rfl, k1, h1, hta2⟩
                  replace HA := Lib.hid h1
                  replace HB := Lib.hid (HB.out.kept k1 (Or.inr (Nat.le_refl _)))
                  replace GG := Lib.hid (Only.on GG.out k1 (by have := HLL.out; omega))
                  clear k1 h1 C
                  go_wp2_with fail
                  refine (C2.out _ HB.out).mono ?_
                  rintro e0 v5 ⟨tb2, rfl, k1, h1, htb2⟩
                  replace HA := Lib.hid (HA.out.kept k1 (Or.inl (Nat.le_refl _)))
                  replace HB := Lib.hid h1
                  replace GG := Lib.hid (Only.on GG.out k1 (by have := HLL.out; omega))
                  clear k1 h1 C2
                  have C : Hid (Calls Tryd.prog 12 #[.pointer (some ⟨ba, 0, none⟩), .int .i64 0] v5 fun e0 w' => e0 = .returned (.tuple #[.agg #[.int .i64 (y.st : Nat), .int .u64 (y.h : Nat), .int .u64 (y.t : Nat), .int .u64 (y.p : Nat)], .bool y.is]) ∧ v5.grownBy w' none) := Lib.hid (bo_look_in 0 HA.out)
                  go_wp2_with fail
                  refine C.out.mono ?_
                  rintro e0 v6 ⟨rfl, k1⟩
                  have k2 := World.grownBy_alloc v6 (.cells #[.int .i64 (y.st : Nat), .int .u64 (y.h : Nat), .int .u64 (y.t : Nat), .int .u64 (y.p : Nat)] 33) none
                  replace HA := Lib.hid ((HA.out.grown k1).grown k2)
                  replace HB := Lib.hid ((HB.out.grown k1).grown k2)
                  replace GG := Lib.hid ((GG.out.trans k1).trans k2)
                  clear k1 k2 C
                  have x0 : (v6.alloc (.cells #[.int .i64 (y.st : Nat), .int .u64 (y.h : Nat), .int .u64 (y.t : Nat), .int .u64 (y.p : Nat)] 33)).cell? ⟨v6.heap.size, 0, none⟩ = some (.int .i64 (y.st : Nat)) := World.cell?_alloc_new ..
                  have x1 : (v6.alloc (.cells #[.int .i64 (y.st : Nat), .int .u64 (y.h : Nat), .int .u64 (y.t : Nat), .int .u64 (y.p : Nat)] 33)).cell? ⟨v6.heap.size, 1, none⟩ = some (.int .u64 (y.h : Nat)) := World.cell?_alloc_new ..
                  have x2 : (v6.alloc (.cells #[.int .i64 (y.st : Nat), .int .u64 (y.h : Nat), .int .u64 (y.t : Nat), .int .u64 (y.p : Nat)] 33)).cell? ⟨v6.heap.size, 2, none⟩ = some (.int .u64 (y.t : Nat)) := World.cell?_alloc_new ..
                  have x3 : (v6.alloc (.cells #[.int .i64 (y.st : Nat), .int .u64 (y.h : Nat), .int .u64 (y.t : Nat), .int .u64 (y.p : Nat)] 33)).cell? ⟨v6.heap.size, 3, none⟩ = some (.int .u64 (y.p : Nat)) := World.cell?_alloc_new ..
                  have hsz : v6.heap.size < (v6.alloc (.cells #[.int .i64 (y.st : Nat), .int .u64 (y.h : Nat), .int .u64 (y.t : Nat), .int .u64 (y.p : Nat)] 33)).heap.size := by simp
                  have C : Hid (Calls Tryd.prog 12 #[.pointer (some ⟨bb, 0, none⟩), .int .i64 0] (v6.alloc (.cells #[.int .i64 (y.st : Nat), .int .u64 (y.h : Nat), .int .u64 (y.t : Nat), .int .u64 (y.p : Nat)] 33)) fun e0 w' => e0 = .returned (.tuple #[.agg #[.int .i64 (y.st : Nat), .int .u64 (y.h : Nat), .int .u64 (y.t : Nat), .int .u64 (y.p : Nat)], .bool y.is]) ∧ (v6.alloc (.cells #[.int .i64 (y.st : Nat), .int .u64 (y.h : Nat), .int .u64 (y.t : Nat), .int .u64 (y.p : Nat)] 33)).grownBy w' none) := Lib.hid (bo_look_in 0 HB.out)
                  go_wp2_with fail
                  refine C.out.mono ?_
                  rintro e0 v7 ⟨rfl, k1⟩
                  have k2 := World.grownBy_alloc v7 (.cells #[.int .i64 (y.st : Nat), .int .u64 (y.h : Nat), .int .u64 (y.t : Nat), .int .u64 (y.p : Nat)] 33) none
                  replace HA := Lib.hid ((HA.out.grown k1).grown k2)
                  replace HB := Lib.hid ((HB.out.grown k1).grown k2)
                  replace GG := Lib.hid ((GG.out.trans k1).trans k2)
                  replace x0 := (k1.cell_far ⟨v6.heap.size, 0, none⟩ hsz (by simp)).trans x0
                  replace x1 := (k1.cell_far ⟨v6.heap.size, 1, none⟩ hsz (by simp)).trans x1
                  replace x2 := (k1.cell_far ⟨v6.heap.size, 2, none⟩ hsz (by simp)).trans x2
                  replace x3 := (k1.cell_far ⟨v6.heap.size, 3, none⟩ hsz (by simp)).trans x3
                  replace hsz := Nat.lt_of_lt_of_le hsz k1.size
                  have z0 := (k2.cell_far ⟨v6.heap.size, 0, none⟩ hsz (by simp)).trans x0
                  have z1 := (k2.cell_far ⟨v6.heap.size, 1, none⟩ hsz (by simp)).trans x1
                  have z2 := (k2.cell_far ⟨v6.heap.size, 2, none⟩ hsz (by simp)).trans x2
                  have z3 := (k2.cell_far ⟨v6.heap.size, 3, none⟩ hsz (by simp)).trans x3
                  have hne : v6.heap.size ≠ v7.heap.size := by omega
                  clear k1 k2 C
                  generalize v6.heap.size = xb at *
                  have neqf : ∀ v : World, (binOp .neq 33 (.agg #[.int .i64 (y.st : Nat), .int .u64 (y.h : Nat), .int .u64 (y.t : Nat), .int .u64 (y.p : Nat)]) (.agg #[.int .i64 (y.st : Nat), .int .u64 (y.h : Nat), .int .u64 (y.t : Nat), .int .u64 (y.p : Nat)])).run Tryd.prog v = .ok (.bool false) v := fun v => neq_row _ _ _ _ v
                  go_wp2
                  go_roundw
                  case rel => exact ⟨k + 1, e + g, ta2, tb2, p, p', y, Z2, hlt, by go_num, by go_num, ⟨by omega, by omega, by omega, by omega⟩, ⟨hyi, hys, hZ2⟩, HA, HB, GG⟩
                  case measure => simp [intOf]; omega
            · have htold2 : ¬ (x.wu u').told (e + g) := htold
              have C : Hid (Calls Tryd.prog 11 #[.pointer (some ⟨ba, 0, none⟩), .int .u64 ((e : Int) + (g : Int))] v1 fun e0 w' => ∃ r cp, e0 = .returned (.slice (some ⟨r, 0, none⟩) 0 cp) ∧ Only l1 l2 v1 w' ∧ Bo w' l1 l2 ba 2 (e + g) tua (two (x.wu u) Ti.idle)) := Lib.hid (by
                have h := bo_to2 (e + g) HA.out (by omega)
                have hn : ¬ Ti.told Ti.idle (e + g) := fun h => absurd h.1 (by decide)
                rw [show max e (e + g) = e + g by omega, if_neg htold, if_neg htold, if_neg hn, if_neg hn, Int.natCast_add] at h
                refine h.mono ?_
                rintro e0 w' ⟨R, r, cp, he, hr, hk, hb, hx⟩
                exact ⟨r, cp, he, hk, hb⟩)
              go_wp2_with fail
              refine C.out.mono ?_
              rintro e0 v2 ⟨ra, cpa, rfl, k1, h1⟩
              replace HA := Lib.hid h1
              replace HB := Lib.hid (HB.out.kept k1 (Or.inr (Nat.le_refl _)))
              replace GG := Lib.hid (Only.on GG.out k1 (by have := HLL.out; omega))
              clear k1 h1 C ce
              have C : Hid (Calls Tryd.prog 11 #[.pointer (some ⟨bb, 0, none⟩), .int .u64 ((e : Int) + (g : Int))] v2 fun e0 w' => ∃ (R : List Nat) (r cp : Nat) (Z' : Ti), e0 = .returned (.slice (some ⟨r, 0, none⟩) R.length cp) ∧ RowOf w' v2.heap.size r cp R ∧ Only l2 l3 v2 w' ∧ Bo w' l2 l3 bb 2 (e + g) tb1 (two (x.wu u') Z') ∧ Z'.is = true ∧ ¬ 0 ∈ R ∧ R.length ≤ 2) := Lib.hid (by
                have h := to_first (e + g) HB.out hZ1 (by omega) (by omega)
                rw [if_neg htold2, Int.natCast_add] at h
                refine h.mono ?_
                rintro e0 w' ⟨R, r, cp, Z', he, hr, hk, hb, hz, h0, hl⟩
                exact ⟨R, r, cp, Z', he, hr, hk, hb, hz, fun h => htold2 (h0.1 h), hl⟩)
              go_wp2_with fail
              refine C.out.mono ?_
              rintro e0 v3 ⟨R, rb, cpb, Z2, rfl, hr, k1, h1, hZ2, hR0, hRl⟩
              have HR := Lib.hid hr
              replace HA := Lib.hid (HA.out.kept k1 (Or.inl (Nat.le_refl _)))
              replace HB := Lib.hid h1
              replace GG := Lib.hid (Only.on GG.out k1 (by have := HLL.out; omega))
              have HRL : Hid (R.length ≤ 2) := Lib.hid hRl
              have HR0 := Lib.hid hR0
              clear k1 h1 C hr hRl hR0
              obtain ⟨nR, hnR⟩ : ∃ n, R.length = n := ⟨_, rfl⟩
              have HNR := Lib.hid hnR
              have hnb : nR ≤ 2 := by have := HRL.out; omega
              rw [hnR]
              clear hnR
              go_wp2_with fail
              go_loopw [20, 112] (fun dv it wq => ∃ (i : Nat) (d : Bool), i ≤ nR ∧ it = .int .i64 i ∧ dv = .bool d ∧ Hid (d = decide (0 ∈ R.take i)) ∧ wq = v3) (fun _ it _ => nR - (intOf it).toNat)
              case atStart => exact ⟨0, false, Nat.zero_le _, rfl, rfl, Lib.hid (by simp), rfl⟩
              case round =>
                obtain ⟨i, d, hi, rfl, rfl, HD, rfl⟩ := hrel
                by_cases hli : i < nR
                · have qi : (i : Int) < (nR : Int) := by omega
                  have hlR : i < R.length := by rw [HNR.out]; exact hli
                  have hc := HR.out.cell i hlR
                  have hst := Lib.hid (take_zero_mem R i hlR)
                  generalize R[i] = kk at *
                  cases d with
                  | true =>
                    go_wp2
                    go_roundw
                    case rel => exact ⟨i + 1, true, hli, by go_num, rfl, Lib.hid (by rw [hst.out, ← HD.out]; rfl), trivial⟩
                    case measure => simp [intOf]; omega
                  | false =>
                    by_cases hkk : kk = 0
                    · subst hkk
                      go_wp2
                      go_roundw
                      case rel => exact ⟨i + 1, true, hli, by go_num, rfl, Lib.hid (by rw [hst.out]; simp), trivial⟩
                      case measure => simp [intOf]; omega
                    · have qkk : ((kk : Int) == 0) = false := by simp; omega
                      go_wp2
                      go_roundw
                      case rel => exact ⟨i + 1, false, hli, by go_num, rfl, Lib.hid (by rw [hst.out, ← HD.out]; simp [hkk]), trivial⟩
                      case measure => simp [intOf]; omega
                · obtain rfl : i = nR := by omega
                  have qi : ¬ (i : Int) < (i : Int) := by omega
                  obtain rfl : d = false := by
                    rw [HD.out, show R.take i = R from List.take_of_length_le (by rw [HNR.out]; exact Nat.le_refl _)]
                    simpa using HR0.out
                  clear HD HNR HRL HR0 hi hli
                  have C : Hid (Calls Tryd.prog 12 #[.pointer (some ⟨ba, 0, none⟩), .int .i64 0] wr fun e0 w' => e0 = .returned (.tuple #[.agg #[.int .i64 (x.st : Nat), .int .u64 (x.h : Nat), .int .u64 (x.t : Nat), .int .u64 (x.p : Nat)], .bool x.is]) ∧ wr.grownBy w' none) := Lib.hid (bo_look_in 0 HA.out)
                  go_wp2_with fail
                  refine C.out.mono ?_
                  rintro e0 v6 ⟨rfl, k1⟩
                  have k2 := World.grownBy_alloc v6 (.cells #[.int .i64 (x.st : Nat), .int .u64 (x.h : Nat), .int .u64 (x.t : Nat), .int .u64 (x.p : Nat)] 33) none
                  replace HA := Lib.hid ((HA.out.grown k1).grown k2)
                  replace HB := Lib.hid ((HB.out.grown k1).grown k2)
                  replace GG := Lib.hid ((GG.out.trans k1).trans k2)
                  clear k1 k2 C
                  have x0 : (v6.alloc (.cells #[.int .i64 (x.st : Nat), .int .u64 (x.h : Nat), .int .u64 (x.t : Nat), .int .u64 (x.p : Nat)] 33)).cell? ⟨v6.heap.size, 0, none⟩ = some (.int .i64 (x.st : Nat)) := World.cell?_alloc_new ..
                  have x1 : (v6.alloc (.cells #[.int .i64 (x.st : Nat), .int .u64 (x.h : Nat), .int .u64 (x.t : Nat), .int .u64 (x.p : Nat)] 33)).cell? ⟨v6.heap.size, 1, none⟩ = some (.int .u64 (x.h : Nat)) := World.cell?_alloc_new ..
                  have x2 : (v6.alloc (.cells #[.int .i64 (x.st : Nat), .int .u64 (x.h : Nat), .int .u64 (x.t : Nat), .int .u64 (x.p : Nat)] 33)).cell? ⟨v6.heap.size, 2, none⟩ = some (.int .u64 (x.t : Nat)) := World.cell?_alloc_new ..
                  have x3 : (v6.alloc (.cells #[.int .i64 (x.st : Nat), .int .u64 (x.h : Nat), .int .u64 (x.t : Nat), .int .u64 (x.p : Nat)] 33)).cell? ⟨v6.heap.size, 3, none⟩ = some (.int .u64 (x.p : Nat)) := World.cell?_alloc_new ..
                  have hsz : v6.heap.size < (v6.alloc (.cells #[.int .i64 (x.st : Nat), .int .u64 (x.h : Nat), .int .u64 (x.t : Nat), .int .u64 (x.p : Nat)] 33)).heap.size := by simp
                  have C : Hid (Calls Tryd.prog 12 #[.pointer (some ⟨bb, 0, none⟩), .int .i64 0] (v6.alloc (.cells #[.int .i64 (x.st : Nat), .int .u64 (x.h : Nat), .int .u64 (x.t : Nat), .int .u64 (x.p : Nat)] 33)) fun e0 w' => e0 = .returned (.tuple #[.agg #[.int .i64 (x.st : Nat), .int .u64 (x.h : Nat), .int .u64 (x.t : Nat), .int .u64 (x.p : Nat)], .bool x.is]) ∧ (v6.alloc (.cells #[.int .i64 (x.st : Nat), .int .u64 (x.h : Nat), .int .u64 (x.t : Nat), .int .u64 (x.p : Nat)] 33)).grownBy w' none) := Lib.hid (bo_look_in 0 HB.out)
                  go_wp2_with fail
                  refine C.out.mono ?_
                  rintro e0 v7 ⟨rfl, k1⟩
                  have k2 := World.grownBy_alloc v7 (.cells #[.int .i64 (x.st : Nat), .int .u64 (x.h : Nat), .int .u64 (x.t : Nat), .int .u64 (x.p : Nat)] 33) none
                  replace HA := Lib.hid ((HA.out.grown k1).grown k2)
                  replace HB := Lib.hid ((HB.out.grown k1).grown k2)
                  replace GG := Lib.hid ((GG.out.trans k1).trans k2)
                  replace x0 := (k1.cell_far ⟨v6.heap.size, 0, none⟩ hsz (by simp)).trans x0
                  replace x1 := (k1.cell_far ⟨v6.heap.size, 1, none⟩ hsz (by simp)).trans x1
                  replace x2 := (k1.cell_far ⟨v6.heap.size, 2, none⟩ hsz (by simp)).trans x2
                  replace x3 := (k1.cell_far ⟨v6.heap.size, 3, none⟩ hsz (by simp)).trans x3
                  replace hsz := Nat.lt_of_lt_of_le hsz k1.size
                  have z0 := (k2.cell_far ⟨v6.heap.size, 0, none⟩ hsz (by simp)).trans x0
                  have z1 := (k2.cell_far ⟨v6.heap.size, 1, none⟩ hsz (by simp)).trans x1
                  have z2 := (k2.cell_far ⟨v6.heap.size, 2, none⟩ hsz (by simp)).trans x2
                  have z3 := (k2.cell_far ⟨v6.heap.size, 3, none⟩ hsz (by simp)).trans x3
                  have hne : v6.heap.size ≠ v7.heap.size := by omega
                  clear k1 k2 C
                  generalize v6.heap.size = xb at *
                  have neqf : ∀ v : World, (binOp .neq 33 (.agg #[.int .i64 (x.st : Nat), .int .u64 (x.h : Nat), .int .u64 (x.t : Nat), .int .u64 (x.p : Nat)]) (.agg #[.int .i64 (x.st : Nat), .int .u64 (x.h : Nat), .int .u64 (x.t : Nat), .int .u64 (x.p : Nat)])).run Tryd.prog v = .ok (.bool false) v := fun v => neq_row _ _ _ _ v
                  go_wp2
                  go_roundw
                  case rel => exact ⟨k + 1, e + g, tua, tb1, u, u', x, Z2, hlt, by go_num, by go_num, ⟨by omega, by omega, by omega, by omega⟩, ⟨hxi, hxs, hZ2⟩, HA, HB, GG⟩
                  case measure => simp [intOf]; omega
          by_cases hz1 : z0 = 3
          · subst hz1
            have C := Lib.hid (side_stop HB.out hZi)
            go_wp2_with fail
            refine C.out.mono ?_
            rintro e0 v1 ⟨v, Z1, tb1, rfl, k1, h1, hZ1, htb1⟩
            replace HB := Lib.hid h1
            replace HA := Lib.hid (HA.out.kept k1 (Or.inl (Nat.le_refl _)))
            replace GG := Lib.hid (Only.on GG.out k1 (by have := HLL.out; omega))
            clear k1 h1 C c0 c1 c2 c3 c4 c5
            obtain ⟨rfl, ce, beb⟩ := R2.out v1 k GG.out (by omega)
            rw [hek2] at ce beb
            have mk1 := low33 ek beb
            rw [hgk] at mk1
            by_cases htold : (x.wu u).told (e + g)
            · have htold2 : (x.wu u').told (e + g) := htold
              have C : Hid (Calls Tryd.prog 11 #[.pointer (some ⟨ba, 0, none⟩), .int .u64 ((e : Int) + (g : Int))] v1 fun e0 w' => ∃ r cp, e0 = .returned (.slice (some ⟨r, 0, none⟩) 1 cp) ∧ Only l1 l2 v1 w' ∧ Bo w' l1 l2 ba 2 (e + g) tua (two (x.wu u).due Ti.idle)) := Lib.hid (by
                have h := bo_to2 (e + g) HA.out (by omega)
                have hn : ¬ Ti.told Ti.idle (e + g) := fun h => absurd h.1 (by decide)
                rw [show max e (e + g) = e + g by omega, if_pos htold, if_pos htold, if_neg hn, if_neg hn, Int.natCast_add] at h
                refine h.mono ?_
                rintro e0 w' ⟨R, r, cp, he, hr, hk, hb, hx⟩
                exact ⟨r, cp, he, hk, hb⟩)
              go_wp2_with fail
              refine C.out.mono ?_
              rintro e0 v2 ⟨ra, cpa, rfl, k1, h1⟩
              replace HA := Lib.hid h1
              replace HB := Lib.hid (HB.out.kept k1 (Or.inr (Nat.le_refl _)))
              replace GG := Lib.hid (Only.on GG.out k1 (by have := HLL.out; omega))
              clear k1 h1 C ce
              have C : Hid (Calls Tryd.prog 11 #[.pointer (some ⟨bb, 0, none⟩), .int .u64 ((e : Int) + (g : Int))] v2 fun e0 w' => ∃ (R : List Nat) (r cp : Nat) (Z' : Ti), e0 = .returned (.slice (some ⟨r, 0, none⟩) R.length cp) ∧ RowOf w' v2.heap.size r cp R ∧ Only l2 l3 v2 w' ∧ Bo w' l2 l3 bb 2 (e + g) tb1 (two (x.wu u').due Z') ∧ Z'.is = true ∧ 0 ∈ R ∧ R.length ≤ 2) := Lib.hid (by
                have h := to_first (e + g) HB.out hZ1 (by omega) (by omega)
                rw [if_pos htold2, Int.natCast_add] at h
                refine h.mono ?_
                rintro e0 w' ⟨R, r, cp, Z', he, hr, hk, hb, hz, h0, hl⟩
                exact ⟨R, r, cp, Z', he, hr, hk, hb, hz, h0.2 htold2, hl⟩)
              go_wp2_with fail
              refine C.out.mono ?_
              rintro e0 v3 ⟨R, rb, cpb, Z2, rfl, hr, k1, h1, hZ2, hR0, hRl⟩
              have HR := Lib.hid hr
              replace HA := Lib.hid (HA.out.kept k1 (Or.inl (Nat.le_refl _)))
              replace HB := Lib.hid h1
              replace GG := Lib.hid (Only.on GG.out k1 (by have := HLL.out; omega))
              have HRL : Hid (R.length ≤ 2) := Lib.hid hRl
              have HR0 := Lib.hid hR0
              clear k1 h1 C hr hRl hR0
              obtain ⟨nR, hnR⟩ : ∃ n, R.length = n := ⟨_, rfl⟩
              have HNR := Lib.hid hnR
              have hnb : nR ≤ 2 := by have := HRL.out; omega
              rw [hnR]
              clear hnR
              go_wp2_with fail
              go_loopw [20, 112] (fun dv it wq => ∃ (i : Nat) (d : Bool), i ≤ nR ∧ it = .int .i64 i ∧ dv = .bool d ∧ Hid (d = decide (0 ∈ R.take i)) ∧ wq = v3) (fun _ it _ => nR - (intOf it).toNat)
              case atStart => exact ⟨0, false, Nat.zero_le _, rfl, rfl, Lib.hid (by simp), rfl⟩
              case round =>
                obtain ⟨i, d, hi, rfl, rfl, HD, rfl⟩ := hrel
                by_cases hli : i < nR
                · have qi : (i : Int) < (nR : Int) := by omega
                  have hlR : i < R.length := by rw [HNR.out]; exact hli
                  have hc := HR.out.cell i hlR
                  have hst := Lib.hid (take_zero_mem R i hlR)
                  generalize R[i] = kk at *
                  cases d with
                  | true =>
                    go_wp2
                    go_roundw
                    case rel => exact ⟨i + 1, true, hli, by go_num, rfl, Lib.hid (by rw [hst.out, ← HD.out]; rfl), trivial⟩
                    case measure => simp [intOf]; omega
                  | false =>
                    by_cases hkk : kk = 0
                    · subst hkk
                      go_wp2
                      go_roundw
                      case rel => exact ⟨i + 1, true, hli, by go_num, rfl, Lib.hid (by rw [hst.out]; simp), trivial⟩
                      case measure => simp [intOf]; omega
                    · have qkk : ((kk : Int) == 0) = false := by simp; omega
                      go_wp2
                      go_roundw
                      case rel => exact ⟨i + 1, false, hli, by go_num, rfl, Lib.hid (by rw [hst.out, ← HD.out]; simp [hkk]), trivial⟩
                      case measure => simp [intOf]; omega
                · obtain rfl : i = nR := by omega
                  have qi : ¬ (i : Int) < (i : Int) := by omega
                  obtain rfl : d = true := by
                    rw [HD.out, show R.take i = R from List.take_of_length_le (by rw [HNR.out]; exact Nat.le_refl _)]
                    simpa using HR0.out
                  clear HD HNR HRL HR0 hi hli
                  obtain ⟨hsv, y, p, p', hy, hy', hyi, hys⟩ := sent_like x (e + g) u u' tua tb1 hxi
                  have C : Hid (Calls Tryd.prog 13 #[.pointer (some ⟨ba, 0, none⟩), .int .i64 0, .int .u64 ((e : Int) + (g : Int))] wr fun e0 w' => ∃ t', e0 = .returned (.int .u64 (sentV (x.wu u).due (e + g) : Nat)) ∧ Only l1 l2 wr w' ∧ Bo w' l1 l2 ba 2 (e + g) t' (two (y.wu p) Ti.idle) ∧ t' ≤ tua + 1) := Lib.hid (by
                    have h := bo_sent_in 0 (e + g) HA.out (by omega) (by omega)
                    rw [two_0, two_up0, hy, Int.natCast_add] at h
                    exact h.mono fun e0 w' ⟨a, b, c⟩ => ⟨_, a, b, c, sentU_le _ _ _⟩)
                  have C2 : Hid (∀ v : World, Bo v l2 l3 bb 2 (e + g) tb1 (two (x.wu u').due Z2) → Calls Tryd.prog 13 #[.pointer (some ⟨bb, 0, none⟩), .int .i64 0, .int .u64 ((e : Int) + (g : Int))] v fun e0 w' => ∃ t', e0 = .returned (.int .u64 (sentV (x.wu u).due (e + g) : Nat)) ∧ Only l2 l3 v w' ∧ Bo w' l2 l3 bb 2 (e + g) t' (two (y.wu p') Z2) ∧ t' ≤ tb1 + 1) := Lib.hid fun v H => by
                    have h := bo_sent_in 0 (e + g) H (by omega) (by omega)
                    rw [two_0, two_up0, hy', ← hsv, Int.natCast_add] at h
                    exact h.mono fun e0 w' ⟨a, b, c⟩ => ⟨_, a, b, c, sentU_le _ _ _⟩
                  generalize sentV (x.wu u).due (e + g) = sv at *
                  clear hsv hy hy'
                  go_wp2_with fail
                  refine C.out.mono ?_
                  rintro e0 v4 ⟨ta2, rfl, k1, h1, hta2⟩
                  replace HA := Lib.hid h1
                  replace HB := Lib.hid (HB.out.kept k1 (Or.inr (Nat.le_refl _)))
                  replace GG := Lib.hid (Only.on GG.out k1 (by have := HLL.out; omega))
                  clear k1 h1 C
                  go_wp2_with fail
                  refine (C2.out _ HB.out).mono ?_
                  rintro e0 v5 ⟨tb2, rfl, k1, h1, htb2⟩
                  replace HA := Lib.hid (HA.out.kept k1 (Or.inl (Nat.le_refl _)))
                  replace HB := Lib.hid h1
                  replace GG := Lib.hid (Only.on GG.out k1 (by have := HLL.out; omega))
                  clear k1 h1 C2
                  have C : Hid (Calls Tryd.prog 12 #[.pointer (some ⟨ba, 0, none⟩), .int .i64 0] v5 fun e0 w' => e0 = .returned (.tuple #[.agg #[.int .i64 (y.st : Nat), .int .u64 (y.h : Nat), .int .u64 (y.t : Nat), .int .u64 (y.p : Nat)], .bool y.is]) ∧ v5.grownBy w' none) := Lib.hid (bo_look_in 0 HA.out)
                  go_wp2_with fail
                  refine C.out.mono ?_
                  rintro e0 v6 ⟨rfl, k1⟩
                  have k2 := World.grownBy_alloc v6 (.cells #[.int .i64 (y.st : Nat), .int .u64 (y.h : Nat), .int .u64 (y.t : Nat), .int .u64 (y.p : Nat)] 33) none
                  replace HA := Lib.hid ((HA.out.grown k1).grown k2)
                  replace HB := Lib.hid ((HB.out.grown k1).grown k2)
                  replace GG := Lib.hid ((GG.out.trans k1).trans k2)
                  clear k1 k2 C
                  have x0 : (v6.alloc (.cells #[.int .i64 (y.st : Nat), .int .u64 (y.h : Nat), .int .u64 (y.t : Nat), .int .u64 (y.p : Nat)] 33)).cell? ⟨v6.heap.size, 0, none⟩ = some (.int .i64 (y.st : Nat)) := World.cell?_alloc_new ..
                  have x1 : (v6.alloc (.cells #[.int .i64 (y.st : Nat), .int .u64 (y.h : Nat), .int .u64 (y.t : Nat), .int .u64 (y.p : Nat)] 33)).cell? ⟨v6.heap.size, 1, none⟩ = some (.int .u64 (y.h : Nat)) := World.cell?_alloc_new ..
                  have x2 : (v6.alloc (.cells #[.int .i64 (y.st : Nat), .int .u64 (y.h : Nat), .int .u64 (y.t : Nat), .int .u64 (y.p : Nat)] 33)).cell? ⟨v6.heap.size, 2, none⟩ = some (.int .u64 (y.t : Nat)) := World.cell?_alloc_new ..
                  have x3 : (v6.alloc (.cells #[.int .i64 (y.st : Nat), .int .u64 (y.h : Nat), .int .u64 (y.t : Nat), .int .u64 (y.p : Nat)] 33)).cell? ⟨v6.heap.size, 3, none⟩ = some (.int .u64 (y.p : Nat)) := World.cell?_alloc_new ..
                  have hsz : v6.heap.size < (v6.alloc (.cells #[.int .i64 (y.st : Nat), .int .u64 (y.h : Nat), .int .u64 (y.t : Nat), .int .u64 (y.p : Nat)] 33)).heap.size := by simp
                  have C : Hid (Calls Tryd.prog 12 #[.pointer (some ⟨bb, 0, none⟩), .int .i64 0] (v6.alloc (.cells #[.int .i64 (y.st : Nat), .int .u64 (y.h : Nat), .int .u64 (y.t : Nat), .int .u64 (y.p : Nat)] 33)) fun e0 w' => e0 = .returned (.tuple #[.agg #[.int .i64 (y.st : Nat), .int .u64 (y.h : Nat), .int .u64 (y.t : Nat), .int .u64 (y.p : Nat)], .bool y.is]) ∧ (v6.alloc (.cells #[.int .i64 (y.st : Nat), .int .u64 (y.h : Nat), .int .u64 (y.t : Nat), .int .u64 (y.p : Nat)] 33)).grownBy w' none) := Lib.hid (bo_look_in 0 HB.out)
                  go_wp2_with fail
                  refine C.out.mono ?_
                  rintro e0 v7 ⟨rfl, k1⟩
                  have k2 := World.grownBy_alloc v7 (.cells #[.int .i64 (y.st : Nat), .int .u64 (y.h : Nat), .int .u64 (y.t : Nat), .int .u64 (y.p : Nat)] 33) none
                  replace HA := Lib.hid ((HA.out.grown k1).grown k2)
                  replace HB := Lib.hid ((HB.out.grown k1).grown k2)
                  replace GG := Lib.hid ((GG.out.trans k1).trans k2)
                  replace x0 := (k1.cell_far ⟨v6.heap.size, 0, none⟩ hsz (by simp)).trans x0
                  replace x1 := (k1.cell_far ⟨v6.heap.size, 1, none⟩ hsz (by simp)).trans x1
                  replace x2 := (k1.cell_far ⟨v6.heap.size, 2, none⟩ hsz (by simp)).trans x2
                  replace x3 := (k1.cell_far ⟨v6.heap.size, 3, none⟩ hsz (by simp)).trans x3
                  replace hsz := Nat.lt_of_lt_of_le hsz k1.size
                  have z0 := (k2.cell_far ⟨v6.heap.size, 0, none⟩ hsz (by simp)).trans x0
                  have z1 := (k2.cell_far ⟨v6.heap.size, 1, none⟩ hsz (by simp)).trans x1
                  have z2 := (k2.cell_far ⟨v6.heap.size, 2, none⟩ hsz (by simp)).trans x2
                  have z3 := (k2.cell_far ⟨v6.heap.size, 3, none⟩ hsz (by simp)).trans x3
                  have hne : v6.heap.size ≠ v7.heap.size := by omega
                  clear k1 k2 C
                  generalize v6.heap.size = xb at *
                  have neqf : ∀ v : World, (binOp .neq 33 (.agg #[.int .i64 (y.st : Nat), .int .u64 (y.h : Nat), .int .u64 (y.t : Nat), .int .u64 (y.p : Nat)]) (.agg #[.int .i64 (y.st : Nat), .int .u64 (y.h : Nat), .int .u64 (y.t : Nat), .int .u64 (y.p : Nat)])).run Tryd.prog v = .ok (.bool false) v := fun v => neq_row _ _ _ _ v
                  go_wp2
                  go_roundw
                  case rel => exact ⟨k + 1, e + g, ta2, tb2, p, p', y, Z2, hlt, by go_num, by go_num, ⟨by omega, by omega, by omega, by omega⟩, ⟨hyi, hys, hZ2⟩, HA, HB, GG⟩
                  case measure => simp [intOf]; omega
            · have htold2 : ¬ (x.wu u').told (e + g) := htold
              have C : Hid (Calls Tryd.prog 11 #[.pointer (some ⟨ba, 0, none⟩), .int .u64 ((e : Int) + (g : Int))] v1 fun e0 w' => ∃ r cp, e0 = .returned (.slice (some ⟨r, 0, none⟩) 0 cp) ∧ Only l1 l2 v1 w' ∧ Bo w' l1 l2 ba 2 (e + g) tua (two (x.wu u) Ti.idle)) := Lib.hid (by
                have h := bo_to2 (e + g) HA.out (by omega)
                have hn : ¬ Ti.told Ti.idle (e + g) := fun h => absurd h.1 (by decide)
                rw [show max e (e + g) = e + g by omega, if_neg htold, if_neg htold, if_neg hn, if_neg hn, Int.natCast_add] at h
                refine h.mono ?_
                rintro e0 w' ⟨R, r, cp, he, hr, hk, hb, hx⟩
                exact ⟨r, cp, he, hk, hb⟩)
              go_wp2_with fail
              refine C.out.mono ?_
              rintro e0 v2 ⟨ra, cpa, rfl, k1, h1⟩
              replace HA := Lib.hid h1
              replace HB := Lib.hid (HB.out.kept k1 (Or.inr (Nat.le_refl _)))
              replace GG := Lib.hid (Only.on GG.out k1 (by have := HLL.out; omega))
              clear k1 h1 C ce
              have C : Hid (Calls Tryd.prog 11 #[.pointer (some ⟨bb, 0, none⟩), .int .u64 ((e : Int) + (g : Int))] v2 fun e0 w' => ∃ (R : List Nat) (r cp : Nat) (Z' : Ti), e0 = .returned (.slice (some ⟨r, 0, none⟩) R.length cp) ∧ RowOf w' v2.heap.size r cp R ∧ Only l2 l3 v2 w' ∧ Bo w' l2 l3 bb 2 (e + g) tb1 (two (x.wu u') Z') ∧ Z'.is = true ∧ ¬ 0 ∈ R ∧ R.length ≤ 2) := Lib.hid (by
                have h := to_first (e + g) HB.out hZ1 (by omega) (by omega)
                rw [if_neg htold2, Int.natCast_add] at h
                refine h.mono ?_
                rintro e0 w' ⟨R, r, cp, Z', he, hr, hk, hb, hz, h0, hl⟩
                exact ⟨R, r, cp, Z', he, hr, hk, hb, hz, fun h => htold2 (h0.1 h), hl⟩)
              go_wp2_with fail
              refine C.out.mono ?_
              rintro e0 v3 ⟨R, rb, cpb, Z2, rfl, hr, k1, h1, hZ2, hR0, hRl⟩
              have HR := Lib.hid hr
              replace HA := Lib.hid (HA.out.kept k1 (Or.inl (Nat.le_refl _)))
              replace HB := Lib.hid h1
              replace GG := Lib.hid (Only.on GG.out k1 (by have := HLL.out; omega))
              have HRL : Hid (R.length ≤ 2) := Lib.hid hRl
              have HR0 := Lib.hid hR0
              clear k1 h1 C hr hRl hR0
              obtain ⟨nR, hnR⟩ : ∃ n, R.length = n := ⟨_, rfl⟩
              have HNR := Lib.hid hnR
              have hnb : nR ≤ 2 := by have := HRL.out; omega
              rw [hnR]
              clear hnR
              go_wp2_with fail
              go_loopw [20, 112] (fun dv it wq => ∃ (i : Nat) (d : Bool), i ≤ nR ∧ it = .int .i64 i ∧ dv = .bool d ∧ Hid (d = decide (0 ∈ R.take i)) ∧ wq = v3) (fun _ it _ => nR - (intOf it).toNat)
              case atStart => exact ⟨0, false, Nat.zero_le _, rfl, rfl, Lib.hid (by simp), rfl⟩
              case round =>
                obtain ⟨i, d, hi, rfl, rfl, HD, rfl⟩ := hrel
                by_cases hli : i < nR
                · have qi : (i : Int) < (nR : Int) := by omega
                  have hlR : i < R.length := by rw [HNR.out]; exact hli
                  have hc := HR.out.cell i hlR
                  have hst := Lib.hid (take_zero_mem R i hlR)
                  generalize R[i] = kk at *
                  cases d with
                  | true =>
                    go_wp2
                    go_roundw
                    case rel => exact ⟨i + 1, true, hli, by go_num, rfl, Lib.hid (by rw [hst.out, ← HD.out]; rfl), trivial⟩
                    case measure => simp [intOf]; omega
                  | false =>
                    by_cases hkk : kk = 0
                    · subst hkk
                      go_wp2
                      go_roundw
                      case rel => exact ⟨i + 1, true, hli, by go_num, rfl, Lib.hid (by rw [hst.out]; simp), trivial⟩
                      case measure => simp [intOf]; omega
                    · have qkk : ((kk : Int) == 0) = false := by simp; omega
                      go_wp2
                      go_roundw
                      case rel => exact ⟨i + 1, false, hli, by go_num, rfl, Lib.hid (by rw [hst.out, ← HD.out]; simp [hkk]), trivial⟩
                      case measure => simp [intOf]; omega
                · obtain rfl : i = nR := by omega
                  have qi : ¬ (i : Int) < (i : Int) := by omega
                  obtain rfl : d = false := by
                    rw [HD.out, show R.take i = R from List.take_of_length_le (by rw [HNR.out]; exact Nat.le_refl _)]
                    simpa using HR0.out
                  clear HD HNR HRL HR0 hi hli
                  have C : Hid (Calls Tryd.prog 12 #[.pointer (some ⟨ba, 0, none⟩), .int .i64 0] wr fun e0 w' => e0 = .returned (.tuple #[.agg #[.int .i64 (x.st : Nat), .int .u64 (x.h : Nat), .int .u64 (x.t : Nat), .int .u64 (x.p : Nat)], .bool x.is]) ∧ wr.grownBy w' none) := Lib.hid (bo_look_in 0 HA.out)
                  go_wp2_with fail
                  refine C.out.mono ?_
                  rintro e0 v6 ⟨rfl, k1⟩
                  have k2 := World.grownBy_alloc v6 (.cells #[.int .i64 (x.st : Nat), .int .u64 (x.h : Nat), .int .u64 (x.t : Nat), .int .u64 (x.p : Nat)] 33) none
                  replace HA := Lib.hid ((HA.out.grown k1).grown k2)
                  replace HB := Lib.hid ((HB.out.grown k1).grown k2)
                  replace GG := Lib.hid ((GG.out.trans k1).trans k2)
                  clear k1 k2 C
                  have x0 : (v6.alloc (.cells #[.int .i64 (x.st : Nat), .int .u64 (x.h : Nat), .int .u64 (x.t : Nat), .int .u64 (x.p : Nat)] 33)).cell? ⟨v6.heap.size, 0, none⟩ = some (.int .i64 (x.st : Nat)) := World.cell?_alloc_new ..
                  have x1 : (v6.alloc (.cells #[.int .i64 (x.st : Nat), .int .u64 (x.h : Nat), .int .u64 (x.t : Nat), .int .u64 (x.p : Nat)] 33)).cell? ⟨v6.heap.size, 1, none⟩ = some (.int .u64 (x.h : Nat)) := World.cell?_alloc_new ..
                  have x2 : (v6.alloc (.cells #[.int .i64 (x.st : Nat), .int .u64 (x.h : Nat), .int .u64 (x.t : Nat), .int .u64 (x.p : Nat)] 33)).cell? ⟨v6.heap.size, 2, none⟩ = some (.int .u64 (x.t : Nat)) := World.cell?_alloc_new ..
                  have x3 : (v6.alloc (.cells #[.int .i64 (x.st : Nat), .int .u64 (x.h : Nat), .int .u64 (x.t : Nat), .int .u64 (x.p : Nat)] 33)).cell? ⟨v6.heap.size, 3, none⟩ = some (.int .u64 (x.p : Nat)) := World.cell?_alloc_new ..
                  have hsz : v6.heap.size < (v6.alloc (.cells #[.int .i64 (x.st : Nat), .int .u64 (x.h : Nat), .int .u64 (x.t : Nat), .int .u64 (x.p : Nat)] 33)).heap.size := by simp
                  have C : Hid (Calls Tryd.prog 12 #[.pointer (some ⟨bb, 0, none⟩), .int .i64 0] (v6.alloc (.cells #[.int .i64 (x.st : Nat), .int .u64 (x.h : Nat), .int .u64 (x.t : Nat), .int .u64 (x.p : Nat)] 33)) fun e0 w' => e0 = .returned (.tuple #[.agg #[.int .i64 (x.st : Nat), .int .u64 (x.h : Nat), .int .u64 (x.t : Nat), .int .u64 (x.p : Nat)], .bool x.is]) ∧ (v6.alloc (.cells #[.int .i64 (x.st : Nat), .int .u64 (x.h : Nat), .int .u64 (x.t : Nat), .int .u64 (x.p : Nat)] 33)).grownBy w' none) := Lib.hid (bo_look_in 0 HB.out)
                  go_wp2_with fail
                  refine C.out.mono ?_
                  rintro e0 v7 ⟨rfl, k1⟩
                  have k2 := World.grownBy_alloc v7 (.cells #[.int .i64 (x.st : Nat), .int .u64 (x.h : Nat), .int .u64 (x.t : Nat), .int .u64 (x.p : Nat)] 33) none
                  replace HA := Lib.hid ((HA.out.grown k1).grown k2)
                  replace HB := Lib.hid ((HB.out.grown k1).grown k2)
                  replace GG := Lib.hid ((GG.out.trans k1).trans k2)
                  replace x0 := (k1.cell_far ⟨v6.heap.size, 0, none⟩ hsz (by simp)).trans x0
                  replace x1 := (k1.cell_far ⟨v6.heap.size, 1, none⟩ hsz (by simp)).trans x1
                  replace x2 := (k1.cell_far ⟨v6.heap.size, 2, none⟩ hsz (by simp)).trans x2
                  replace x3 := (k1.cell_far ⟨v6.heap.size, 3, none⟩ hsz (by simp)).trans x3
                  replace hsz := Nat.lt_of_lt_of_le hsz k1.size
                  have z0 := (k2.cell_far ⟨v6.heap.size, 0, none⟩ hsz (by simp)).trans x0
                  have z1 := (k2.cell_far ⟨v6.heap.size, 1, none⟩ hsz (by simp)).trans x1
                  have z2 := (k2.cell_far ⟨v6.heap.size, 2, none⟩ hsz (by simp)).trans x2
                  have z3 := (k2.cell_far ⟨v6.heap.size, 3, none⟩ hsz (by simp)).trans x3
                  have hne : v6.heap.size ≠ v7.heap.size := by omega
                  clear k1 k2 C
                  generalize v6.heap.size = xb at *
                  have neqf : ∀ v : World, (binOp .neq 33 (.agg #[.int .i64 (x.st : Nat), .int .u64 (x.h : Nat), .int .u64 (x.t : Nat), .int .u64 (x.p : Nat)]) (.agg #[.int .i64 (x.st : Nat), .int .u64 (x.h : Nat), .int .u64 (x.t : Nat), .int .u64 (x.p : Nat)])).run Tryd.prog v = .ok (.bool false) v := fun v => neq_row _ _ _ _ v
                  go_wp2
                  go_roundw
                  case rel => exact ⟨k + 1, e + g, tua, tb1, u, u', x, Z2, hlt, by go_num, by go_num, ⟨by omega, by omega, by omega, by omega⟩, ⟨hxi, hxs, hZ2⟩, HA, HB, GG⟩
                  case measure => simp [intOf]; omega
          by_cases hz2 : z0 = 5
          · subst hz2
            have C := Lib.hid (side_sent e HB.out hZi (by omega) (by omega))
            go_wp2_with fail
            refine C.out.mono ?_
            rintro e0 v1 ⟨v, Z1, tb1, rfl, k1, h1, hZ1, htb1⟩
            replace HB := Lib.hid h1
            replace HA := Lib.hid (HA.out.kept k1 (Or.inl (Nat.le_refl _)))
            replace GG := Lib.hid (Only.on GG.out k1 (by have := HLL.out; omega))
            clear k1 h1 C c0 c1 c2 c3 c4 c5
            obtain ⟨rfl, ce, beb⟩ := R2.out v1 k GG.out (by omega)
            rw [hek2] at ce beb
            have mk1 := low33 ek beb
            rw [hgk] at mk1
            by_cases htold : (x.wu u).told (e + g)
            · have htold2 : (x.wu u').told (e + g) := htold
              have C : Hid (Calls Tryd.prog 11 #[.pointer (some ⟨ba, 0, none⟩), .int .u64 ((e : Int) + (g : Int))] v1 fun e0 w' => ∃ r cp, e0 = .returned (.slice (some ⟨r, 0, none⟩) 1 cp) ∧ Only l1 l2 v1 w' ∧ Bo w' l1 l2 ba 2 (e + g) tua (two (x.wu u).due Ti.idle)) := Lib.hid (by
                have h := bo_to2 (e + g) HA.out (by omega)
                have hn : ¬ Ti.told Ti.idle (e + g) := fun h => absurd h.1 (by decide)
                rw [show max e (e + g) = e + g by omega, if_pos htold, if_pos htold, if_neg hn, if_neg hn, Int.natCast_add] at h
                refine h.mono ?_
                rintro e0 w' ⟨R, r, cp, he, hr, hk, hb, hx⟩
                exact ⟨r, cp, he, hk, hb⟩)
              go_wp2_with fail
              refine C.out.mono ?_
              rintro e0 v2 ⟨ra, cpa, rfl, k1, h1⟩
              replace HA := Lib.hid h1
              replace HB := Lib.hid (HB.out.kept k1 (Or.inr (Nat.le_refl _)))
              replace GG := Lib.hid (Only.on GG.out k1 (by have := HLL.out; omega))
              clear k1 h1 C ce
              have C : Hid (Calls Tryd.prog 11 #[.pointer (some ⟨bb, 0, none⟩), .int .u64 ((e : Int) + (g : Int))] v2 fun e0 w' => ∃ (R : List Nat) (r cp : Nat) (Z' : Ti), e0 = .returned (.slice (some ⟨r, 0, none⟩) R.length cp) ∧ RowOf w' v2.heap.size r cp R ∧ Only l2 l3 v2 w' ∧ Bo w' l2 l3 bb 2 (e + g) tb1 (two (x.wu u').due Z') ∧ Z'.is = true ∧ 0 ∈ R ∧ R.length ≤ 2) := Lib.hid (by
                have h := to_first (e + g) HB.out hZ1 (by omega) (by omega)
                rw [if_pos htold2, Int.natCast_add] at h
                refine h.mono ?_
                rintro e0 w' ⟨R, r, cp, Z', he, hr, hk, hb, hz, h0, hl⟩
                exact ⟨R, r, cp, Z', he, hr, hk, hb, hz, h0.2 htold2, hl⟩)
              go_wp2_with fail
              refine C.out.mono ?_
              rintro e0 v3 ⟨R, rb, cpb, Z2, rfl, hr, k1, h1, hZ2, hR0, hRl⟩
              have HR := Lib.hid hr
              replace HA := Lib.hid (HA.out.kept k1 (Or.inl (Nat.le_refl _)))
              replace HB := Lib.hid h1
              replace GG := Lib.hid (Only.on GG.out k1 (by have := HLL.out; omega))
              have HRL : Hid (R.length ≤ 2) := Lib.hid hRl
              have HR0 := Lib.hid hR0
              clear k1 h1 C hr hRl hR0
              obtain ⟨nR, hnR⟩ : ∃ n, R.length = n := ⟨_, rfl⟩
              have HNR := Lib.hid hnR
              have hnb : nR ≤ 2 := by have := HRL.out; omega
              rw [hnR]
              clear hnR
              go_wp2_with fail
              go_loopw [20, 112] (fun dv it wq => ∃ (i : Nat) (d : Bool), i ≤ nR ∧ it = .int .i64 i ∧ dv = .bool d ∧ Hid (d = decide (0 ∈ R.take i)) ∧ wq = v3) (fun _ it _ => nR - (intOf it).toNat)
              case atStart => exact ⟨0, false, Nat.zero_le _, rfl, rfl, Lib.hid (by simp), rfl⟩
              case round =>
                obtain ⟨i, d, hi, rfl, rfl, HD, rfl⟩ := hrel
                by_cases hli : i < nR
                · have qi : (i : Int) < (nR : Int) := by omega
                  have hlR : i < R.length := by rw [HNR.out]; exact hli
                  have hc := HR.out.cell i hlR
                  have hst := Lib.hid (take_zero_mem R i hlR)
                  generalize R[i] = kk at *
                  cases d with
                  | true =>
                    go_wp2
                    go_roundw
                    case rel => exact ⟨i + 1, true, hli, by go_num, rfl, Lib.hid (by rw [hst.out, ← HD.out]; rfl), trivial⟩
                    case measure => simp [intOf]; omega
                  | false =>
                    by_cases hkk : kk = 0
                    · subst hkk
                      go_wp2
                      go_roundw
                      case rel => exact ⟨i + 1, true, hli, by go_num, rfl, Lib.hid (by rw [hst.out]; simp), trivial⟩
                      case measure => simp [intOf]; omega
                    · have qkk : ((kk : Int) == 0) = false := by simp; omega
                      go_wp2
                      go_roundw
                      case rel => exact ⟨i + 1, false, hli, by go_num, rfl, Lib.hid (by rw [hst.out, ← HD.out]; simp [hkk]), trivial⟩
                      case measure => simp [intOf]; omega
                · obtain rfl : i = nR := by omega
                  have qi : ¬ (i : Int) < (i : Int) := by omega
                  obtain rfl : d = true := by
                    rw [HD.out, show R.take i = R from List.take_of_length_le (by rw [HNR.out]; exact Nat.le_refl _)]
                    simpa using HR0.out
                  clear HD HNR HRL HR0 hi hli
                  obtain ⟨hsv, y, p, p', hy, hy', hyi, hys⟩ := sent_like x (e + g) u u' tua tb1 hxi
                  have C : Hid (Calls Tryd.prog 13 #[.pointer (some ⟨ba, 0, none⟩), .int .i64 0, .int .u64 ((e : Int) + (g : Int))] wr fun e0 w' => ∃ t', e0 = .returned (.int .u64 (sentV (x.wu u).due (e + g) : Nat)) ∧ Only l1 l2 wr w' ∧ Bo w' l1 l2 ba 2 (e + g) t' (two (y.wu p) Ti.idle) ∧ t' ≤ tua + 1) := Lib.hid (by
                    have h := bo_sent_in 0 (e + g) HA.out (by omega) (by omega)
                    rw [two_0, two_up0, hy, Int.natCast_add] at h
                    exact h.mono fun e0 w' ⟨a, b, c⟩ => ⟨_, a, b, c, sentU_le _ _ _⟩)
                  have C2 : Hid (∀ v : World, Bo v l2 l3 bb 2 (e + g) tb1 (two (x.wu u').due Z2) → Calls Tryd.prog 13 #[.pointer (some ⟨bb, 0, none⟩), .int .i64 0, .int .u64 ((e : Int) + (g : Int))] v fun e0 w' => ∃ t', e0 = .returned (.int .u64 (sentV (x.wu u).due (e + g) : Nat)) ∧ Only l2 l3 v w' ∧ Bo w' l2 l3 bb 2 (e + g) t' (two (y.wu p') Z2) ∧ t' ≤ tb1 + 1) := Lib.hid fun v H => by
                    have h := bo_sent_in 0 (e + g) H (by omega) (by omega)
                    rw [two_0, two_up0, hy', ← hsv, Int.natCast_add] at h
                    exact h.mono fun e0 w' ⟨a, b, c⟩ => ⟨_, a, b, c, sentU_le _ _ _⟩
                  generalize sentV (x.wu u).due (e + g) = sv at *
                  clear hsv hy hy'
                  go_wp2_with fail
                  refine C.out.mono ?_
                  rintro e0 v4 ⟨ta2, rfl, k1, h1, hta2⟩
                  replace HA := Lib.hid h1
                  replace HB := Lib.hid (HB.out.kept k1 (Or.inr (Nat.le_refl _)))
                  replace GG := Lib.hid (Only.on GG.out k1 (by have := HLL.out; omega))
                  clear k1 h1 C
                  go_wp2_with fail
                  refine (C2.out _ HB.out).mono ?_
                  rintro e0 v5 ⟨tb2, rfl, k1, h1, htb2⟩
                  replace HA := Lib.hid (HA.out.kept k1 (Or.inl (Nat.le_refl _)))
                  replace HB := Lib.hid h1
                  replace GG := Lib.hid (Only.on GG.out k1 (by have := HLL.out; omega))
                  clear k1 h1 C2
                  have C : Hid (Calls Tryd.prog 12 #[.pointer (some ⟨ba, 0, none⟩), .int .i64 0] v5 fun e0 w' => e0 = .returned (.tuple #[.agg #[.int .i64 (y.st : Nat), .int .u64 (y.h : Nat), .int .u64 (y.t : Nat), .int .u64 (y.p : Nat)], .bool y.is]) ∧ v5.grownBy w' none) := Lib.hid (bo_look_in 0 HA.out)
                  go_wp2_with fail
                  refine C.out.mono ?_
                  rintro e0 v6 ⟨rfl, k1⟩
                  have k2 := World.grownBy_alloc v6 (.cells #[.int .i64 (y.st : Nat), .int .u64 (y.h : Nat), .int .u64 (y.t : Nat), .int .u64 (y.p : Nat)] 33) none
                  replace HA := Lib.hid ((HA.out.grown k1).grown k2)
                  replace HB := Lib.hid ((HB.out.grown k1).grown k2)
                  replace GG := Lib.hid ((GG.out.trans k1).trans k2)
                  clear k1 k2 C
                  have x0 : (v6.alloc (.cells #[.int .i64 (y.st : Nat), .int .u64 (y.h : Nat), .int .u64 (y.t : Nat), .int .u64 (y.p : Nat)] 33)).cell? ⟨v6.heap.size, 0, none⟩ = some (.int .i64 (y.st : Nat)) := World.cell?_alloc_new ..
                  have x1 : (v6.alloc (.cells #[.int .i64 (y.st : Nat), .int .u64 (y.h : Nat), .int .u64 (y.t : Nat), .int .u64 (y.p : Nat)] 33)).cell? ⟨v6.heap.size, 1, none⟩ = some (.int .u64 (y.h : Nat)) := World.cell?_alloc_new ..
                  have x2 : (v6.alloc (.cells #[.int .i64 (y.st : Nat), .int .u64 (y.h : Nat), .int .u64 (y.t : Nat), .int .u64 (y.p : Nat)] 33)).cell? ⟨v6.heap.size, 2, none⟩ = some (.int .u64 (y.t : Nat)) := World.cell?_alloc_new ..
                  have x3 : (v6.alloc (.cells #[.int .i64 (y.st : Nat), .int .u64 (y.h : Nat), .int .u64 (y.t : Nat), .int .u64 (y.p : Nat)] 33)).cell? ⟨v6.heap.size, 3, none⟩ = some (.int .u64 (y.p : Nat)) := World.cell?_alloc_new ..
                  have hsz : v6.heap.size < (v6.alloc (.cells #[.int .i64 (y.st : Nat), .int .u64 (y.h : Nat), .int .u64 (y.t : Nat), .int .u64 (y.p : Nat)] 33)).heap.size := by simp
                  have C : Hid (Calls Tryd.prog 12 #[.pointer (some ⟨bb, 0, none⟩), .int .i64 0] (v6.alloc (.cells #[.int .i64 (y.st : Nat), .int .u64 (y.h : Nat), .int .u64 (y.t : Nat), .int .u64 (y.p : Nat)] 33)) fun e0 w' => e0 = .returned (.tuple #[.agg #[.int .i64 (y.st : Nat), .int .u64 (y.h : Nat), .int .u64 (y.t : Nat), .int .u64 (y.p : Nat)], .bool y.is]) ∧ (v6.alloc (.cells #[.int .i64 (y.st : Nat), .int .u64 (y.h : Nat), .int .u64 (y.t : Nat), .int .u64 (y.p : Nat)] 33)).grownBy w' none) := Lib.hid (bo_look_in 0 HB.out)
                  go_wp2_with fail
                  refine C.out.mono ?_
                  rintro e0 v7 ⟨rfl, k1⟩
                  have k2 := World.grownBy_alloc v7 (.cells #[.int .i64 (y.st : Nat), .int .u64 (y.h : Nat), .int .u64 (y.t : Nat), .int .u64 (y.p : Nat)] 33) none
                  replace HA := Lib.hid ((HA.out.grown k1).grown k2)
                  replace HB := Lib.hid ((HB.out.grown k1).grown k2)
                  replace GG := Lib.hid ((GG.out.trans k1).trans k2)
                  replace x0 := (k1.cell_far ⟨v6.heap.size, 0, none⟩ hsz (by simp)).trans x0
                  replace x1 := (k1.cell_far ⟨v6.heap.size, 1, none⟩ hsz (by simp)).trans x1
                  replace x2 := (k1.cell_far ⟨v6.heap.size, 2, none⟩ hsz (by simp)).trans x2
                  replace x3 := (k1.cell_far ⟨v6.heap.size, 3, none⟩ hsz (by simp)).trans x3
                  replace hsz := Nat.lt_of_lt_of_le hsz k1.size
                  have z0 := (k2.cell_far ⟨v6.heap.size, 0, none⟩ hsz (by simp)).trans x0
                  have z1 := (k2.cell_far ⟨v6.heap.size, 1, none⟩ hsz (by simp)).trans x1
                  have z2 := (k2.cell_far ⟨v6.heap.size, 2, none⟩ hsz (by simp)).trans x2
                  have z3 := (k2.cell_far ⟨v6.heap.size, 3, none⟩ hsz (by simp)).trans x3
                  have hne : v6.heap.size ≠ v7.heap.size := by omega
                  clear k1 k2 C
                  generalize v6.heap.size = xb at *
                  have neqf : ∀ v : World, (binOp .neq 33 (.agg #[.int .i64 (y.st : Nat), .int .u64 (y.h : Nat), .int .u64 (y.t : Nat), .int .u64 (y.p : Nat)]) (.agg #[.int .i64 (y.st : Nat), .int .u64 (y.h : Nat), .int .u64 (y.t : Nat), .int .u64 (y.p : Nat)])).run Tryd.prog v = .ok (.bool false) v := fun v => neq_row _ _ _ _ v
                  go_wp2
                  go_roundw
                  case rel => exact ⟨k + 1, e + g, ta2, tb2, p, p', y, Z2, hlt, by go_num, by go_num, ⟨by omega, by omega, by omega, by omega⟩, ⟨hyi, hys, hZ2⟩, HA, HB, GG⟩
                  case measure => simp [intOf]; omega
            · have htold2 : ¬ (x.wu u').told (e + g) := htold
              have C : Hid (Calls Tryd.prog 11 #[.pointer (some ⟨ba, 0, none⟩), .int .u64 ((e : Int) + (g : Int))] v1 fun e0 w' => ∃ r cp, e0 = .returned (.slice (some ⟨r, 0, none⟩) 0 cp) ∧ Only l1 l2 v1 w' ∧ Bo w' l1 l2 ba 2 (e + g) tua (two (x.wu u) Ti.idle)) := Lib.hid (by
                have h := bo_to2 (e + g) HA.out (by omega)
                have hn : ¬ Ti.told Ti.idle (e + g) := fun h => absurd h.1 (by decide)
                rw [show max e (e + g) = e + g by omega, if_neg htold, if_neg htold, if_neg hn, if_neg hn, Int.natCast_add] at h
                refine h.mono ?_
                rintro e0 w' ⟨R, r, cp, he, hr, hk, hb, hx⟩
                exact ⟨r, cp, he, hk, hb⟩)
              go_wp2_with fail
              refine C.out.mono ?_
              rintro e0 v2 ⟨ra, cpa, rfl, k1, h1⟩
              replace HA := Lib.hid h1
              replace HB := Lib.hid (HB.out.kept k1 (Or.inr (Nat.le_refl _)))
              replace GG := Lib.hid (Only.on GG.out k1 (by have := HLL.out; omega))
              clear k1 h1 C ce
              have C : Hid (Calls Tryd.prog 11 #[.pointer (some ⟨bb, 0, none⟩), .int .u64 ((e : Int) + (g : Int))] v2 fun e0 w' => ∃ (R : List Nat) (r cp : Nat) (Z' : Ti), e0 = .returned (.slice (some ⟨r, 0, none⟩) R.length cp) ∧ RowOf w' v2.heap.size r cp R ∧ Only l2 l3 v2 w' ∧ Bo w' l2 l3 bb 2 (e + g) tb1 (two (x.wu u') Z') ∧ Z'.is = true ∧ ¬ 0 ∈ R ∧ R.length ≤ 2) := Lib.hid (by
                have h := to_first (e + g) HB.out hZ1 (by omega) (by omega)
                rw [if_neg htold2, Int.natCast_add] at h
                refine h.mono ?_
                rintro e0 w' ⟨R, r, cp, Z', he, hr, hk, hb, hz, h0, hl⟩
                exact ⟨R, r, cp, Z', he, hr, hk, hb, hz, fun h => htold2 (h0.1 h), hl⟩)
              go_wp2_with fail
              refine C.out.mono ?_
              rintro e0 v3 ⟨R, rb, cpb, Z2, rfl, hr, k1, h1, hZ2, hR0, hRl⟩
              have HR := Lib.hid hr
              replace HA := Lib.hid (HA.out.kept k1 (Or.inl (Nat.le_refl _)))
              replace HB := Lib.hid h1
              replace GG := Lib.hid (Only.on GG.out k1 (by have := HLL.out; omega))
              have HRL : Hid (R.length ≤ 2) := Lib.hid hRl
              have HR0 := Lib.hid hR0
              clear k1 h1 C hr hRl hR0
              obtain ⟨nR, hnR⟩ : ∃ n, R.length = n := ⟨_, rfl⟩
              have HNR := Lib.hid hnR
              have hnb : nR ≤ 2 := by have := HRL.out; omega
              rw [hnR]
              clear hnR
              go_wp2_with fail
              go_loopw [20, 112] (fun dv it wq => ∃ (i : Nat) (d : Bool), i ≤ nR ∧ it = .int .i64 i ∧ dv = .bool d ∧ Hid (d = decide (0 ∈ R.take i)) ∧ wq = v3) (fun _ it _ => nR - (intOf it).toNat)
              case atStart => exact ⟨0, false, Nat.zero_le _, rfl, rfl, Lib.hid (by simp), rfl⟩
              case round =>
                obtain ⟨i, d, hi, rfl, rfl, HD, rfl⟩ := hrel
                by_cases hli : i < nR
                · have qi : (i : Int) < (nR : Int) := by omega
                  have hlR : i < R.length := by rw [HNR.out]; exact hli
                  have hc := HR.out.cell i hlR
                  have hst := Lib.hid (take_zero_mem R i hlR)
                  generalize R[i] = kk at *
                  cases d with
                  | true =>
                    go_wp2
                    go_roundw
                    case rel => exact ⟨i + 1, true, hli, by go_num, rfl, Lib.hid (by rw [hst.out, ← HD.out]; rfl), trivial⟩
                    case measure => simp [intOf]; omega
                  | false =>
                    by_cases hkk : kk = 0
                    · subst hkk
                      go_wp2
                      go_roundw
                      case rel => exact ⟨i + 1, true, hli, by go_num, rfl, Lib.hid (by rw [hst.out]; simp), trivial⟩
                      case measure => simp [intOf]; omega
                    · have qkk : ((kk : Int) == 0) = false := by simp; omega
                      go_wp2
                      go_roundw
                      case rel => exact ⟨i + 1, false, hli, by go_num, rfl, Lib.hid (by rw [hst.out, ← HD.out]; simp [hkk]), trivial⟩
                      case measure => simp [intOf]; omega
                · obtain rfl : i = nR := by omega
                  have qi : ¬ (i : Int) < (i : Int) := by omega
                  obtain rfl : d = false := by
                    rw [HD.out, show R.take i = R from List.take_of_length_le (by rw [HNR.out]; exact Nat.le_refl _)]
                    simpa using HR0.out
                  clear HD HNR HRL HR0 hi hli
                  have C : Hid (Calls Tryd.prog 12 #[.pointer (some ⟨ba, 0, none⟩), .int .i64 0] wr fun e0 w' => e0 = .returned (.tuple #[.agg #[.int .i64 (x.st : Nat), .int .u64 (x.h : Nat), .int .u64 (x.t : Nat), .int .u64 (x.p : Nat)], .bool x.is]) ∧ wr.grownBy w' none) := Lib.hid (bo_look_in 0 HA.out)
                  go_wp2_with fail
                  refine C.out.mono ?_
                  rintro e0 v6 ⟨rfl, k1⟩
                  have k2 := World.grownBy_alloc v6 (.cells #[.int .i64 (x.st : Nat), .int .u64 (x.h : Nat), .int .u64 (x.t : Nat), .int .u64 (x.p : Nat)] 33) none
                  replace HA := Lib.hid ((HA.out.grown k1).grown k2)
                  replace HB := Lib.hid ((HB.out.grown k1).grown k2)
                  replace GG := Lib.hid ((GG.out.trans k1).trans k2)
                  clear k1 k2 C
                  have x0 : (v6.alloc (.cells #[.int .i64 (x.st : Nat), .int .u64 (x.h : Nat), .int .u64 (x.t : Nat), .int .u64 (x.p : Nat)] 33)).cell? ⟨v6.heap.size, 0, none⟩ = some (.int .i64 (x.st : Nat)) := World.cell?_alloc_new ..
                  have x1 : (v6.alloc (.cells #[.int .i64 (x.st : Nat), .int .u64 (x.h : Nat), .int .u64 (x.t : Nat), .int .u64 (x.p : Nat)] 33)).cell? ⟨v6.heap.size, 1, none⟩ = some (.int .u64 (x.h : Nat)) := World.cell?_alloc_new ..
                  have x2 : (v6.alloc (.cells #[.int .i64 (x.st : Nat), .int .u64 (x.h : Nat), .int .u64 (x.t : Nat), .int .u64 (x.p : Nat)] 33)).cell? ⟨v6.heap.size, 2, none⟩ = some (.int .u64 (x.t : Nat)) := World.cell?_alloc_new ..
                  have x3 : (v6.alloc (.cells #[.int .i64 (x.st : Nat), .int .u64 (x.h : Nat), .int .u64 (x.t : Nat), .int .u64 (x.p : Nat)] 33)).cell? ⟨v6.heap.size, 3, none⟩ = some (.int .u64 (x.p : Nat)) := World.cell?_alloc_new ..
                  have hsz : v6.heap.size < (v6.alloc (.cells #[.int .i64 (x.st : Nat), .int .u64 (x.h : Nat), .int .u64 (x.t : Nat), .int .u64 (x.p : Nat)] 33)).heap.size := by simp
                  have C : Hid (Calls Tryd.prog 12 #[.pointer (some ⟨bb, 0, none⟩), .int .i64 0] (v6.alloc (.cells #[.int .i64 (x.st : Nat), .int .u64 (x.h : Nat), .int .u64 (x.t : Nat), .int .u64 (x.p : Nat)] 33)) fun e0 w' => e0 = .returned (.tuple #[.agg #[.int .i64 (x.st : Nat), .int .u64 (x.h : Nat), .int .u64 (x.t : Nat), .int .u64 (x.p : Nat)], .bool x.is]) ∧ (v6.alloc (.cells #[.int .i64 (x.st : Nat), .int .u64 (x.h : Nat), .int .u64 (x.t : Nat), .int .u64 (x.p : Nat)] 33)).grownBy w' none) := Lib.hid (bo_look_in 0 HB.out)
                  go_wp2_with fail
                  refine C.out.mono ?_
                  rintro e0 v7 ⟨rfl, k1⟩
                  have k2 := World.grownBy_alloc v7 (.cells #[.int .i64 (x.st : Nat), .int .u64 (x.h : Nat), .int .u64 (x.t : Nat), .int .u64 (x.p : Nat)] 33) none
                  replace HA := Lib.hid ((HA.out.grown k1).grown k2)
                  replace HB := Lib.hid ((HB.out.grown k1).grown k2)
                  replace GG := Lib.hid ((GG.out.trans k1).trans k2)
                  replace x0 := (k1.cell_far ⟨v6.heap.size, 0, none⟩ hsz (by simp)).trans x0
                  replace x1 := (k1.cell_far ⟨v6.heap.size, 1, none⟩ hsz (by simp)).trans x1
                  replace x2 := (k1.cell_far ⟨v6.heap.size, 2, none⟩ hsz (by simp)).trans x2
                  replace x3 := (k1.cell_far ⟨v6.heap.size, 3, none⟩ hsz (by simp)).trans x3
                  replace hsz := Nat.lt_of_lt_of_le hsz k1.size
                  have z0 := (k2.cell_far ⟨v6.heap.size, 0, none⟩ hsz (by simp)).trans x0
                  have z1 := (k2.cell_far ⟨v6.heap.size, 1, none⟩ hsz (by simp)).trans x1
                  have z2 := (k2.cell_far ⟨v6.heap.size, 2, none⟩ hsz (by simp)).trans x2
                  have z3 := (k2.cell_far ⟨v6.heap.size, 3, none⟩ hsz (by simp)).trans x3
                  have hne : v6.heap.size ≠ v7.heap.size := by omega
                  clear k1 k2 C
                  generalize v6.heap.size = xb at *
                  have neqf : ∀ v : World, (binOp .neq 33 (.agg #[.int .i64 (x.st : Nat), .int .u64 (x.h : Nat), .int .u64 (x.t : Nat), .int .u64 (x.p : Nat)]) (.agg #[.int .i64 (x.st : Nat), .int .u64 (x.h : Nat), .int .u64 (x.t : Nat), .int .u64 (x.p : Nat)])).run Tryd.prog v = .ok (.bool false) v := fun v => neq_row _ _ _ _ v
                  go_wp2
                  go_roundw
                  case rel => exact ⟨k + 1, e + g, tua, tb1, u, u', x, Z2, hlt, by go_num, by go_num, ⟨by omega, by omega, by omega, by omega⟩, ⟨hxi, hxs, hZ2⟩, HA, HB, GG⟩
                  case measure => simp [intOf]; omega
          obtain ⟨rfl, ce, beb⟩ := R2.out (wr.alloc (.cells #[.int .i64 z0, .int .i64 z1, .int .u64 (y2 : Nat), .int .u64 (y3 : Nat), .int .u64 (y4 : Nat), .bool y5] 45)) k GG.out (by omega)
          rw [hek2] at ce beb
          have mk1 := low33 ek beb
          rw [hgk] at mk1
          by_cases htold : (x.wu u).told (e + g)
          · have htold2 : (x.wu u').told (e + g) := htold
            have C : Hid (Calls Tryd.prog 11 #[.pointer (some ⟨ba, 0, none⟩), .int .u64 ((e : Int) + (g : Int))] (wr.alloc (.cells #[.int .i64 z0, .int .i64 z1, .int .u64 (y2 : Nat), .int .u64 (y3 : Nat), .int .u64 (y4 : Nat), .bool y5] 45)) fun e0 w' => ∃ r cp, e0 = .returned (.slice (some ⟨r, 0, none⟩) 1 cp) ∧ Only l1 l2 (wr.alloc (.cells #[.int .i64 z0, .int .i64 z1, .int .u64 (y2 : Nat), .int .u64 (y3 : Nat), .int .u64 (y4 : Nat), .bool y5] 45)) w' ∧ Bo w' l1 l2 ba 2 (e + g) tua (two (x.wu u).due Ti.idle)) := Lib.hid (by
              have h := bo_to2 (e + g) HA.out (by omega)
              have hn : ¬ Ti.told Ti.idle (e + g) := fun h => absurd h.1 (by decide)
              rw [show max e (e + g) = e + g by omega, if_pos htold, if_pos htold, if_neg hn, if_neg hn, Int.natCast_add] at h
              refine h.mono ?_
              rintro e0 w' ⟨R, r, cp, he, hr, hk, hb, hx⟩
              exact ⟨r, cp, he, hk, hb⟩)
            go_wp2_with fail
            refine C.out.mono ?_
            rintro e0 v2 ⟨ra, cpa, rfl, k1, h1⟩
            replace HA := Lib.hid h1
            replace HB := Lib.hid (HB.out.kept k1 (Or.inr (Nat.le_refl _)))
            replace GG := Lib.hid (Only.on GG.out k1 (by have := HLL.out; omega))
            clear k1 h1 C ce c0 c1 c2 c3 c4 c5
            have C : Hid (Calls Tryd.prog 11 #[.pointer (some ⟨bb, 0, none⟩), .int .u64 ((e : Int) + (g : Int))] v2 fun e0 w' => ∃ (R : List Nat) (r cp : Nat) (Z' : Ti), e0 = .returned (.slice (some ⟨r, 0, none⟩) R.length cp) ∧ RowOf w' v2.heap.size r cp R ∧ Only l2 l3 v2 w' ∧ Bo w' l2 l3 bb 2 (e + g) tub (two (x.wu u').due Z') ∧ Z'.is = true ∧ 0 ∈ R ∧ R.length ≤ 2) := Lib.hid (by
              have h := to_first (e + g) HB.out hZi (by omega) (by omega)
              rw [if_pos htold2, Int.natCast_add] at h
              refine h.mono ?_
              rintro e0 w' ⟨R, r, cp, Z', he, hr, hk, hb, hz, h0, hl⟩
              exact ⟨R, r, cp, Z', he, hr, hk, hb, hz, h0.2 htold2, hl⟩)
            go_wp2_with fail
            refine C.out.mono ?_
            rintro e0 v3 ⟨R, rb, cpb, Z2, rfl, hr, k1, h1, hZ2, hR0, hRl⟩
            have HR := Lib.hid hr
            replace HA := Lib.hid (HA.out.kept k1 (Or.inl (Nat.le_refl _)))
            replace HB := Lib.hid h1
            replace GG := Lib.hid (Only.on GG.out k1 (by have := HLL.out; omega))
            have HRL : Hid (R.length ≤ 2) := Lib.hid hRl
            have HR0 := Lib.hid hR0
            clear k1 h1 C hr hRl hR0
            obtain ⟨nR, hnR⟩ : ∃ n, R.length = n := ⟨_, rfl⟩
            have HNR := Lib.hid hnR
            have hnb : nR ≤ 2 := by have := HRL.out; omega
            rw [hnR]
            clear hnR
            go_wp2_with fail
            go_loopw [20, 112] (fun dv it wq => ∃ (i : Nat) (d : Bool), i ≤ nR ∧ it = .int .i64 i ∧ dv = .bool d ∧ Hid (d = decide (0 ∈ R.take i)) ∧ wq = v3) (fun _ it _ => nR - (intOf it).toNat)
            case atStart => exact ⟨0, false, Nat.zero_le _, rfl, rfl, Lib.hid (by simp), rfl⟩
            case round =>
              obtain ⟨i, d, hi, rfl, rfl, HD, rfl⟩ := hrel
              by_cases hli : i < nR
              · have qi : (i : Int) < (nR : Int) := by omega
                have hlR : i < R.length := by rw [HNR.out]; exact hli
                have hc := HR.out.cell i hlR
                have hst := Lib.hid (take_zero_mem R i hlR)
                generalize R[i] = kk at *
                cases d with
                | true =>
                  go_wp2
                  go_roundw
                  case rel => exact ⟨i + 1, true, hli, by go_num, rfl, Lib.hid (by rw [hst.out, ← HD.out]; rfl), trivial⟩
                  case measure => simp [intOf]; omega
                | false =>
                  by_cases hkk : kk = 0
                  · subst hkk
                    go_wp2
                    go_roundw
                    case rel => exact ⟨i + 1, true, hli, by go_num, rfl, Lib.hid (by rw [hst.out]; simp), trivial⟩
                    case measure => simp [intOf]; omega
                  · have qkk : ((kk : Int) == 0) = false := by simp; omega
                    go_wp2
                    go_roundw
                    case rel => exact ⟨i + 1, false, hli, by go_num, rfl, Lib.hid (by rw [hst.out, ← HD.out]; simp [hkk]), trivial⟩
                    case measure => simp [intOf]; omega
              · obtain rfl : i = nR := by omega
                have qi : ¬ (i : Int) < (i : Int) := by omega
                obtain rfl : d = true := by
                  rw [HD.out, show R.take i = R from List.take_of_length_le (by rw [HNR.out]; exact Nat.le_refl _)]
                  simpa using HR0.out
                clear HD HNR HRL HR0 hi hli
                obtain ⟨hsv, y, p, p', hy, hy', hyi, hys⟩ := sent_like x (e + g) u u' tua tub hxi
                have C : Hid (Calls Tryd.prog 13 #[.pointer (some ⟨ba, 0, none⟩), .int .i64 0, .int .u64 ((e : Int) + (g : Int))] wr fun e0 w' => ∃ t', e0 = .returned (.int .u64 (sentV (x.wu u).due (e + g) : Nat)) ∧ Only l1 l2 wr w' ∧ Bo w' l1 l2 ba 2 (e + g) t' (two (y.wu p) Ti.idle) ∧ t' ≤ tua + 1) := Lib.hid (by
                  have h := bo_sent_in 0 (e + g) HA.out (by omega) (by omega)
                  rw [two_0, two_up0, hy, Int.natCast_add] at h
                  exact h.mono fun e0 w' ⟨a, b, c⟩ => ⟨_, a, b, c, sentU_le _ _ _⟩)
                have C2 : Hid (∀ v : World, Bo v l2 l3 bb 2 (e + g) tub (two (x.wu u').due Z2) → Calls Tryd.prog 13 #[.pointer (some ⟨bb, 0, none⟩), .int .i64 0, .int .u64 ((e : Int) + (g : Int))] v fun e0 w' => ∃ t', e0 = .returned (.int .u64 (sentV (x.wu u).due (e + g) : Nat)) ∧ Only l2 l3 v w' ∧ Bo w' l2 l3 bb 2 (e + g) t' (two (y.wu p') Z2) ∧ t' ≤ tub + 1) := Lib.hid fun v H => by
                  have h := bo_sent_in 0 (e + g) H (by omega) (by omega)
                  rw [two_0, two_up0, hy', ← hsv, Int.natCast_add] at h
                  exact h.mono fun e0 w' ⟨a, b, c⟩ => ⟨_, a, b, c, sentU_le _ _ _⟩
                generalize sentV (x.wu u).due (e + g) = sv at *
                clear hsv hy hy'
                go_wp2_with fail
                refine C.out.mono ?_
                rintro e0 v4 ⟨ta2, rfl, k1, h1, hta2⟩
                replace HA := Lib.hid h1
                replace HB := Lib.hid (HB.out.kept k1 (Or.inr (Nat.le_refl _)))
                replace GG := Lib.hid (Only.on GG.out k1 (by have := HLL.out; omega))
                clear k1 h1 C
                go_wp2_with fail
                refine (C2.out _ HB.out).mono ?_
                rintro e0 v5 ⟨tb2, rfl, k1, h1, htb2⟩
                replace HA := Lib.hid (HA.out.kept k1 (Or.inl (Nat.le_refl _)))
                replace HB := Lib.hid h1
                replace GG := Lib.hid (Only.on GG.out k1 (by have := HLL.out; omega))
                clear k1 h1 C2
                have C : Hid (Calls Tryd.prog 12 #[.pointer (some ⟨ba, 0, none⟩), .int .i64 0] v5 fun e0 w' => e0 = .returned (.tuple #[.agg #[.int .i64 (y.st : Nat), .int .u64 (y.h : Nat), .int .u64 (y.t : Nat), .int .u64 (y.p : Nat)], .bool y.is]) ∧ v5.grownBy w' none) := Lib.hid (bo_look_in 0 HA.out)
                go_wp2_with fail
                refine C.out.mono ?_
                rintro e0 v6 ⟨rfl, k1⟩
                have k2 := World.grownBy_alloc v6 (.cells #[.int .i64 (y.st : Nat), .int .u64 (y.h : Nat), .int .u64 (y.t : Nat), .int .u64 (y.p : Nat)] 33) none
                replace HA := Lib.hid ((HA.out.grown k1).grown k2)
                replace HB := Lib.hid ((HB.out.grown k1).grown k2)
                replace GG := Lib.hid ((GG.out.trans k1).trans k2)
                clear k1 k2 C
                have x0 : (v6.alloc (.cells #[.int .i64 (y.st : Nat), .int .u64 (y.h : Nat), .int .u64 (y.t : Nat), .int .u64 (y.p : Nat)] 33)).cell? ⟨v6.heap.size, 0, none⟩ = some (.int .i64 (y.st : Nat)) := World.cell?_alloc_new ..
                have x1 : (v6.alloc (.cells #[.int .i64 (y.st : Nat), .int .u64 (y.h : Nat), .int .u64 (y.t : Nat), .int .u64 (y.p : Nat)] 33)).cell? ⟨v6.heap.size, 1, none⟩ = some (.int .u64 (y.h : Nat)) := World.cell?_alloc_new ..
                have x2 : (v6.alloc (.cells #[.int .i64 (y.st : Nat), .int .u64 (y.h : Nat), .int .u64 (y.t : Nat), .int .u64 (y.p : Nat)] 33)).cell? ⟨v6.heap.size, 2, none⟩ = some (.int .u64 (y.t : Nat)) := World.cell?_alloc_new ..
                have x3 : (v6.alloc (.cells #[.int .i64 (y.st : Nat), .int .u64 (y.h : Nat), .int .u64 (y.t : Nat), .int .u64 (y.p : Nat)] 33)).cell? ⟨v6.heap.size, 3, none⟩ = some (.int .u64 (y.p : Nat)) := World.cell?_alloc_new ..
                have hsz : v6.heap.size < (v6.alloc (.cells #[.int .i64 (y.st : Nat), .int .u64 (y.h : Nat), .int .u64 (y.t : Nat), .int .u64 (y.p : Nat)] 33)).heap.size := by simp
                have C : Hid (Calls Tryd.prog 12 #[.pointer (some ⟨bb, 0, none⟩), .int .i64 0] (v6.alloc (.cells #[.int .i64 (y.st : Nat), .int .u64 (y.h : Nat), .int .u64 (y.t : Nat), .int .u64 (y.p : Nat)] 33)) fun e0 w' => e0 = .returned (.tuple #[.agg #[.int .i64 (y.st : Nat), .int .u64 (y.h : Nat), .int .u64 (y.t : Nat), .int .u64 (y.p : Nat)], .bool y.is]) ∧ (v6.alloc (.cells #[.int .i64 (y.st : Nat), .int .u64 (y.h : Nat), .int .u64 (y.t : Nat), .int .u64 (y.p : Nat)] 33)).grownBy w' none) := Lib.hid (bo_look_in 0 HB.out)
                go_wp2_with fail
                refine C.out.mono ?_
                rintro e0 v7 ⟨rfl, k1⟩
                have k2 := World.grownBy_alloc v7 (.cells #[.int .i64 (y.st : Nat), .int .u64 (y.h : Nat), .int .u64 (y.t : Nat), .int .u64 (y.p : Nat)] 33) none
                replace HA := Lib.hid ((HA.out.grown k1).grown k2)
                replace HB := Lib.hid ((HB.out.grown k1).grown k2)
                replace GG := Lib.hid ((GG.out.trans k1).trans k2)
                replace x0 := (k1.cell_far ⟨v6.heap.size, 0, none⟩ hsz (by simp)).trans x0
                replace x1 := (k1.cell_far ⟨v6.heap.size, 1, none⟩ hsz (by simp)).trans x1
                replace x2 := (k1.cell_far ⟨v6.heap.size, 2, none⟩ hsz (by simp)).trans x2
                replace x3 := (k1.cell_far ⟨v6.heap.size, 3, none⟩ hsz (by simp)).trans x3
                replace hsz := Nat.lt_of_lt_of_le hsz k1.size
                have z0 := (k2.cell_far ⟨v6.heap.size, 0, none⟩ hsz (by simp)).trans x0
                have z1 := (k2.cell_far ⟨v6.heap.size, 1, none⟩ hsz (by simp)).trans x1
                have z2 := (k2.cell_far ⟨v6.heap.size, 2, none⟩ hsz (by simp)).trans x2
                have z3 := (k2.cell_far ⟨v6.heap.size, 3, none⟩ hsz (by simp)).trans x3
                have hne : v6.heap.size ≠ v7.heap.size := by omega
                clear k1 k2 C
                generalize v6.heap.size = xb at *
                have neqf : ∀ v : World, (binOp .neq 33 (.agg #[.int .i64 (y.st : Nat), .int .u64 (y.h : Nat), .int .u64 (y.t : Nat), .int .u64 (y.p : Nat)]) (.agg #[.int .i64 (y.st : Nat), .int .u64 (y.h : Nat), .int .u64 (y.t : Nat), .int .u64 (y.p : Nat)])).run Tryd.prog v = .ok (.bool false) v := fun v => neq_row _ _ _ _ v
                go_wp2
                go_roundw
                case rel => exact ⟨k + 1, e + g, ta2, tb2, p, p', y, Z2, hlt, by go_num, by go_num, ⟨by omega, by omega, by omega, by omega⟩, ⟨hyi, hys, hZ2⟩, HA, HB, GG⟩
                case measure => simp [intOf]; omega
          · have htold2 : ¬ (x.wu u').told (e + g) := htold
            have C : Hid (Calls Tryd.prog 11 #[.pointer (some ⟨ba, 0, none⟩), .int .u64 ((e : Int) + (g : Int))] (wr.alloc (.cells #[.int .i64 z0, .int .i64 z1, .int .u64 (y2 : Nat), .int .u64 (y3 : Nat), .int .u64 (y4 : Nat), .bool y5] 45)) fun e0 w' => ∃ r cp, e0 = .returned (.slice (some ⟨r, 0, none⟩) 0 cp) ∧ Only l1 l2 (wr.alloc (.cells #[.int .i64 z0, .int .i64 z1, .int .u64 (y2 : Nat), .int .u64 (y3 : Nat), .int .u64 (y4 : Nat), .bool y5] 45)) w' ∧ Bo w' l1 l2 ba 2 (e + g) tua (two (x.wu u) Ti.idle)) := Lib.hid (by
              have h := bo_to2 (e + g) HA.out (by omega)
              have hn : ¬ Ti.told Ti.idle (e + g) := fun h => absurd h.1 (by decide)
              rw [show max e (e + g) = e + g by omega, if_neg htold, if_neg htold, if_neg hn, if_neg hn, Int.natCast_add] at h
              refine h.mono ?_
              rintro e0 w' ⟨R, r, cp, he, hr, hk, hb, hx⟩
              exact ⟨r, cp, he, hk, hb⟩)
            go_wp2_with fail
            refine C.out.mono ?_
            rintro e0 v2 ⟨ra, cpa, rfl, k1, h1⟩
            replace HA := Lib.hid h1
            replace HB := Lib.hid (HB.out.kept k1 (Or.inr (Nat.le_refl _)))
            replace GG := Lib.hid (Only.on GG.out k1 (by have := HLL.out; omega))
            clear k1 h1 C ce c0 c1 c2 c3 c4 c5
            have C : Hid (Calls Tryd.prog 11 #[.pointer (some ⟨bb, 0, none⟩), .int .u64 ((e : Int) + (g : Int))] v2 fun e0 w' => ∃ (R : List Nat) (r cp : Nat) (Z' : Ti), e0 = .returned (.slice (some ⟨r, 0, none⟩) R.length cp) ∧ RowOf w' v2.heap.size r cp R ∧ Only l2 l3 v2 w' ∧ Bo w' l2 l3 bb 2 (e + g) tub (two (x.wu u') Z') ∧ Z'.is = true ∧ ¬ 0 ∈ R ∧ R.length ≤ 2) := Lib.hid (by
              have h := to_first (e + g) HB.out hZi (by omega) (by omega)
              rw [if_neg htold2, Int.natCast_add] at h
              refine h.mono ?_
              rintro e0 w' ⟨R, r, cp, Z', he, hr, hk, hb, hz, h0, hl⟩
              exact ⟨R, r, cp, Z', he, hr, hk, hb, hz, fun h => htold2 (h0.1 h), hl⟩)
            go_wp2_with fail
            refine C.out.mono ?_
            rintro e0 v3 ⟨R, rb, cpb, Z2, rfl, hr, k1, h1, hZ2, hR0, hRl⟩
            have HR := Lib.hid hr
            replace HA := Lib.hid (HA.out.kept k1 (Or.inl (Nat.le_refl _)))
            replace HB := Lib.hid h1
            replace GG := Lib.hid (Only.on GG.out k1 (by have := HLL.out; omega))
            have HRL : Hid (R.length ≤ 2) := Lib.hid hRl
            have HR0 := Lib.hid hR0
            clear k1 h1 C hr hRl hR0
            obtain ⟨nR, hnR⟩ : ∃ n, R.length = n := ⟨_, rfl⟩
            have HNR := Lib.hid hnR
            have hnb : nR ≤ 2 := by have := HRL.out; omega
            rw [hnR]
            clear hnR
            go_wp2_with fail
            go_loopw [20, 112] (fun dv it wq => ∃ (i : Nat) (d : Bool), i ≤ nR ∧ it = .int .i64 i ∧ dv = .bool d ∧ Hid (d = decide (0 ∈ R.take i)) ∧ wq = v3) (fun _ it _ => nR - (intOf it).toNat)
            case atStart => exact ⟨0, false, Nat.zero_le _, rfl, rfl, Lib.hid (by simp), rfl⟩
            case round =>
              obtain ⟨i, d, hi, rfl, rfl, HD, rfl⟩ := hrel
              by_cases hli : i < nR
              · have qi : (i : Int) < (nR : Int) := by omega
                have hlR : i < R.length := by rw [HNR.out]; exact hli
                have hc := HR.out.cell i hlR
                have hst := Lib.hid (take_zero_mem R i hlR)
                generalize R[i] = kk at *
                cases d with
                | true =>
                  go_wp2
                  go_roundw
                  case rel => exact ⟨i + 1, true, hli, by go_num, rfl, Lib.hid (by rw [hst.out, ← HD.out]; rfl), trivial⟩
                  case measure => simp [intOf]; omega
                | false =>
                  by_cases hkk : kk = 0
                  · subst hkk
                    go_wp2
                    go_roundw
                    case rel => exact ⟨i + 1, true, hli, by go_num, rfl, Lib.hid (by rw [hst.out]; simp), trivial⟩
                    case measure => simp [intOf]; omega
                  · have qkk : ((kk : Int) == 0) = false := by simp; omega
                    go_wp2
                    go_roundw
                    case rel => exact ⟨i + 1, false, hli, by go_num, rfl, Lib.hid (by rw [hst.out, ← HD.out]; simp [hkk]), trivial⟩
                    case measure => simp [intOf]; omega
              · obtain rfl : i = nR := by omega
                have qi : ¬ (i : Int) < (i : Int) := by omega
                obtain rfl : d = false := by
                  rw [HD.out, show R.take i = R from List.take_of_length_le (by rw [HNR.out]; exact Nat.le_refl _)]
                  simpa using HR0.out
                clear HD HNR HRL HR0 hi hli
                have C : Hid (Calls Tryd.prog 12 #[.pointer (some ⟨ba, 0, none⟩), .int .i64 0] wr fun e0 w' => e0 = .returned (.tuple #[.agg #[.int .i64 (x.st : Nat), .int .u64 (x.h : Nat), .int .u64 (x.t : Nat), .int .u64 (x.p : Nat)], .bool x.is]) ∧ wr.grownBy w' none) := Lib.hid (bo_look_in 0 HA.out)
                go_wp2_with fail
                refine C.out.mono ?_
                rintro e0 v6 ⟨rfl, k1⟩
                have k2 := World.grownBy_alloc v6 (.cells #[.int .i64 (x.st : Nat), .int .u64 (x.h : Nat), .int .u64 (x.t : Nat), .int .u64 (x.p : Nat)] 33) none
                replace HA := Lib.hid ((HA.out.grown k1).grown k2)
                replace HB := Lib.hid ((HB.out.grown k1).grown k2)
                replace GG := Lib.hid ((GG.out.trans k1).trans k2)
                clear k1 k2 C
                have x0 : (v6.alloc (.cells #[.int .i64 (x.st : Nat), .int .u64 (x.h : Nat), .int .u64 (x.t : Nat), .int .u64 (x.p : Nat)] 33)).cell? ⟨v6.heap.size, 0, none⟩ = some (.int .i64 (x.st : Nat)) := World.cell?_alloc_new ..
                have x1 : (v6.alloc (.cells #[.int .i64 (x.st : Nat), .int .u64 (x.h : Nat), .int .u64 (x.t : Nat), .int .u64 (x.p : Nat)] 33)).cell? ⟨v6.heap.size, 1, none⟩ = some (.int .u64 (x.h : Nat)) := World.cell?_alloc_new ..
                have x2 : (v6.alloc (.cells #[.int .i64 (x.st : Nat), .int .u64 (x.h : Nat), .int .u64 (x.t : Nat), .int .u64 (x.p : Nat)] 33)).cell? ⟨v6.heap.size, 2, none⟩ = some (.int .u64 (x.t : Nat)) := World.cell?_alloc_new ..
                have x3 : (v6.alloc (.cells #[.int .i64 (x.st : Nat), .int .u64 (x.h : Nat), .int .u64 (x.t : Nat), .int .u64 (x.p : Nat)] 33)).cell? ⟨v6.heap.size, 3, none⟩ = some (.int .u64 (x.p : Nat)) := World.cell?_alloc_new ..
                have hsz : v6.heap.size < (v6.alloc (.cells #[.int .i64 (x.st : Nat), .int .u64 (x.h : Nat), .int .u64 (x.t : Nat), .int .u64 (x.p : Nat)] 33)).heap.size := by simp
                have C : Hid (Calls Tryd.prog 12 #[.pointer (some ⟨bb, 0, none⟩), .int .i64 0] (v6.alloc (.cells #[.int .i64 (x.st : Nat), .int .u64 (x.h : Nat), .int .u64 (x.t : Nat), .int .u64 (x.p : Nat)] 33)) fun e0 w' => e0 = .returned (.tuple #[.agg #[.int .i64 (x.st : Nat), .int .u64 (x.h : Nat), .int .u64 (x.t : Nat), .int .u64 (x.p : Nat)], .bool x.is]) ∧ (v6.alloc (.cells #[.int .i64 (x.st : Nat), .int .u64 (x.h : Nat), .int .u64 (x.t : Nat), .int .u64 (x.p : Nat)] 33)).grownBy w' none) := Lib.hid (bo_look_in 0 HB.out)
                go_wp2_with fail
                refine C.out.mono ?_
                rintro e0 v7 ⟨rfl, k1⟩
                have k2 := World.grownBy_alloc v7 (.cells #[.int .i64 (x.st : Nat), .int .u64 (x.h : Nat), .int .u64 (x.t : Nat), .int .u64 (x.p : Nat)] 33) none
                replace HA := Lib.hid ((HA.out.grown k1).grown k2)
                replace HB := Lib.hid ((HB.out.grown k1).grown k2)
                replace GG := Lib.hid ((GG.out.trans k1).trans k2)
                replace x0 := (k1.cell_far ⟨v6.heap.size, 0, none⟩ hsz (by simp)).trans x0
                replace x1 := (k1.cell_far ⟨v6.heap.size, 1, none⟩ hsz (by simp)).trans x1
                replace x2 := (k1.cell_far ⟨v6.heap.size, 2, none⟩ hsz (by simp)).trans x2
                replace x3 := (k1.cell_far ⟨v6.heap.size, 3, none⟩ hsz (by simp)).trans x3
                replace hsz := Nat.lt_of_lt_of_le hsz k1.size
                have z0 := (k2.cell_far ⟨v6.heap.size, 0, none⟩ hsz (by simp)).trans x0
                have z1 := (k2.cell_far ⟨v6.heap.size, 1, none⟩ hsz (by simp)).trans x1
                have z2 := (k2.cell_far ⟨v6.heap.size, 2, none⟩ hsz (by simp)).trans x2
                have z3 := (k2.cell_far ⟨v6.heap.size, 3, none⟩ hsz (by simp)).trans x3
                have hne : v6.heap.size ≠ v7.heap.size := by omega
                clear k1 k2 C
                generalize v6.heap.size = xb at *
                have neqf : ∀ v : World, (binOp .neq 33 (.agg #[.int .i64 (x.st : Nat), .int .u64 (x.h : Nat), .int .u64 (x.t : Nat), .int .u64 (x.p : Nat)]) (.agg #[.int .i64 (x.st : Nat), .int .u64 (x.h : Nat), .int .u64 (x.t : Nat), .int .u64 (x.p : Nat)])).run Tryd.prog v = .ok (.bool false) v := fun v => neq_row _ _ _ _ v
                go_wp2
                go_roundw
                case rel => exact ⟨k + 1, e + g, tua, tub, u, u', x, Z2, hlt, by go_num, by go_num, ⟨by omega, by omega, by omega, by omega⟩, ⟨hxi, hxs, hZ2⟩, HA, HB, GG⟩
                case measure => simp [intOf]; omega
        · obtain rfl : k = len := by omega
          have q : ¬ (k : Int) < (k : Int) := by omega
          go_wp2
          go_ret
          exact ⟨rfl, GG.out⟩
end Go.Proofs.YtkkodhjolgcokaaDoor
